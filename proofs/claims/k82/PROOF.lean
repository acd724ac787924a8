import PyProof.Rows.All
import Wide.All
import OpenK.AllK
import Wide.FinOn
import PyProof.EqAt
import PyProof.EqKinds
import PyProof.TupleCall
import Lean
import PyProof.Draws
import PyProof.ListRange
import PyProof.StrCalls2
import PyProof.StrCalls6
import PyProof.SliceStr2
import KE.KIntText
import KE.KIsAll
import PySem.Challenge.RW_stillflow_k82_whole_plans_read
set_option Elab.async false
set_option linter.all false
set_option maxRecDepth 100000
set_option maxHeartbeats 4000000
abbrev _root_.zA:=@Option.bind_some
abbrev _root_.zB:=@Option.map_some
abbrev _root_.zC:=@List.mem_cons_of_mem
abbrev _root_.zD:=@List.length_map
abbrev _root_.zE:=@List.mem_cons_self
abbrev _root_.zF:=@Bool.and_eq_true
abbrev _root_.zG:=@List.getD_eq_getElem?_getD
abbrev _root_.zH:=@List.size_toArray
abbrev _root_.zI:=@List.map_cons
abbrev _root_.zJ:=@decide_eq_true_eq
abbrev _root_.zK:=@List.getElem?_eq_getElem
abbrev _root_.zL:=@List.length_cons
abbrev _root_.zM:=@List.map_map
abbrev _root_.zN:=@List.length_append
abbrev _root_.zO:=@List.getElem?_map
abbrev _root_.zP:=@Nat.lt_of_lt_of_le
abbrev _root_.zQ:=@List.mem_cons
abbrev _root_.zR:=@List.length_range
abbrev _root_.zS:=@List.mem_range
abbrev _root_.zT:=@PySem.Heap.get?_push_of_some
abbrev _root_.zU:=@PySem.wpAny_bind
abbrev _root_.zV:=@PySem.wpAny_pure
abbrev _root_.zW:=@PySem.Heap.get?_push_size
abbrev _root_.zX:=@PySem.Heap.lt_size
abbrev _root_.zY:=@decide_eq_false
abbrev _root_.zZ:=@decide_eq_true
abbrev _root_.yA:=@List.lookup_cons
abbrev _root_.yB:=@List.length_set
abbrev _root_.yC:=@Nat.le_trans
abbrev _root_.yD:=@List.mem_append_right
abbrev _root_.yE:=@List.not_mem_nil
abbrev _root_.yF:=@Int.toNat_natCast
abbrev _root_.yG:=@List.range_eq_range'
abbrev _root_.yH:=@List.map_congr_left
abbrev _root_.yI:=@List.mem_singleton
abbrev _root_.yJ:=@if_pos
abbrev _root_.yK:=@Nat.le_refl
abbrev _root_.yL:=@if_neg
abbrev _root_.yM:=@Bool.false_eq_true
abbrev _root_.yN:=@Bool.not_eq_true'
abbrev _root_.yO:=@of_decide_eq_true
abbrev _root_.yP:=@Nat.ne_of_lt
abbrev _root_.yQ:=@List.getElem?_append_left
abbrev _root_.yR:=@List.getElem?_append_right
abbrev _root_.yS:=@List.map_nil
abbrev _root_.yT:=@List.set_cons_zero
abbrev _root_.yU:=@List.set_cons_succ
abbrev _root_.yV:=@List.getElem?_replicate
abbrev _root_.yW:=@List.getElem?_cons_succ
abbrev _root_.yX:=@Bool.false_ne_true
abbrev _root_.yY:=@PySem.wpAny_mono
abbrev _root_.yZ:=@decide_eq_false_iff_not
abbrev _root_.xA:=@List.length_singleton
abbrev _root_.xB:=@Option.some.inj
abbrev _root_.xC:=@List.replicate_succ
abbrev _root_.xD:=@List.cons_append
abbrev _root_.xE:=@List.all_eq_true
abbrev _root_.xF:=@if_true
abbrev _root_.xG:=@List.getElem?_set
abbrev _root_.xH:=@PySem.Heap.size_push
abbrev _root_.xI:=@List.length_nil
abbrev _root_.xJ:=@List.length_replicate
abbrev _root_.xK:=@PySem.Heap.get?_update_other
abbrev _root_.xM:=@List.nil_append
abbrev _root_.xN:=@List.length_filter_le
abbrev _root_.xO:=@List.getElem?_cons_zero
abbrev _root_.xP:=@PySem.wpAny_pyIter_tuple
abbrev _root_.xQ:=@List.all_cons
abbrev _root_.xR:=@or_false
abbrev _root_.xS:=@Nat.zero_le
abbrev _root_.xU:=@PySem.wpAny_truthy_bool
abbrev _root_.xV:=@PySem.wpAny_holding
abbrev _root_.xW:=@Bool.not_true
abbrev _root_.xX:=@Int.le_refl
abbrev _root_.xY:=@List.getElem_mem
abbrev _root_.xZ:=@List.mem_of_getElem?
abbrev _root_.qA:=@PySem.wpAny_callSpecial?_slot
abbrev _root_.qB:=@Array.getD_eq_getD_getElem?
abbrev _root_.qC:=@Nat.lt_irrefl
abbrev _root_.qD:=@List.append_nil
abbrev _root_.qE:=@Option.getD_some
abbrev _root_.qF:=@List.length_drop
abbrev _root_.qG:=@List.mem_append_left
abbrev _root_.qH:=@PySem.wpAny_pyIter_list
abbrev _root_.qJ:=@PySem.wpAny_newObj_type
abbrev _root_.qK:=@List.flatten_cons
abbrev _root_.qL:=@PySem.F.plainAttrs_list
abbrev _root_.qM:=@if_false
abbrev _root_.qN:=@List.getElem_of_mem
abbrev _root_.qP:=@PyProof.Rows.callWith_type1
abbrev _root_.qQ:=@PySem.wpAny_field
abbrev _root_.qS:=@PySem.wpAny_call_entry
abbrev _root_.qT:=@PySem.call_meets
abbrev _root_.qU:=@PySem.wpAny_Call_Name_kw
abbrev _root_.qV:=@List.map_append
abbrev _root_.qX:=@Bool.or_eq_true
abbrev _root_.qY:=@congrArg
abbrev _root_.qZ:=@Nat.zero_add
abbrev _root_.jA:=@List.pairwise_map
abbrev _root_.jB:=@PyProof.Rows.slot_tuple_getitem
abbrev _root_.jC:=@List.filterMap_cons
abbrev _root_.jD:=@List.ext_getElem
abbrev _root_.jE:=@Nat.ne_of_gt
abbrev _root_.jF:=@PySem.Calls.spliced_cons
abbrev _root_.jG:=@PySem.wpAny_passesOwn
abbrev _root_.jH:=@Bool.true_and
abbrev _root_.jI:=@List.getElem?_eq_none
abbrev _root_.jJ:=@Ne.symm
abbrev _root_.jK:=@Nat.lt_succ_of_lt
abbrev _root_.jL:=@and_self
abbrev _root_.jM:=@decide_true
abbrev _root_.jN:=@PySem.F.slot_tuple_iterator_next
abbrev _root_.jO:=@PySem.codeAny_mono
abbrev _root_.jP:=@Nat.le_of_lt
abbrev _root_.jQ:=@Int.le_trans
abbrev _root_.jR:=@Nat.le_add_right
abbrev _root_.jS:=@List.length_take
abbrev _root_.jT:=@List.filter_cons
abbrev _root_.jU:=@Array.getElem?_eq_getElem
abbrev _root_.jV:=@PySem.mem_of_lookup
abbrev _root_.jW:=@PySem.codeAny_builtin
abbrev _root_.jX:=@PySem.wpAny_seqItems
abbrev _root_.jY:=@PySem.Calls.spliced_nil
abbrev _root_.jZ:=@PySem.SeqAt.canLay_of_shaped
abbrev _root_.kA:=@List.take_of_length_le
abbrev _root_.kC:=@List.find?_cons_of_neg
abbrev _root_.kE:=@Option.getD_none
abbrev _root_.kF:=@Nat.lt_succ_self
abbrev _root_.kG:=@PySem.wpAny_attempt
abbrev _root_.kH:=@List.getElem?_set_ne
abbrev _root_.kJ:=@List.cons.injEq
abbrev _root_.kK:=@Bool.and_false
abbrev _root_.kL:=@PySem.wpAny_setField_rec
abbrev _root_.kM:=@Int.emod_lt_of_pos
abbrev _root_.kN:=@List.drop_eq_getElem_cons
abbrev _root_.kO:=@List.reverse_cons
abbrev _root_.kP:=@List.any_cons
abbrev _root_.kR:=@PySem.F.args_tuple_add_2
abbrev _root_.kS:=@List.range'_succ
abbrev _root_.kU:=@PySem.F.entry_tuple_add
abbrev _root_.kW:=@Int.eq_ofNat_of_zero_le
abbrev _root_.kX:=@beq_iff_eq
abbrev _root_.kY:=@PySem.F.slot_tuple_add
abbrev _root_.kZ:=@List.range_succ_eq_map
abbrev _root_.vA:=@List.find?_cons_of_pos
abbrev _root_.vB:=@PySem.wpAny_execs_nil
abbrev _root_.vC:=@Nat.not_lt_zero
abbrev _root_.vD:=@List.of_mem_zip
abbrev _root_.vE:=@Int.emod_nonneg
abbrev _root_.vF:=@PySem.F.slot_zip_next
abbrev _root_.vG:=@PySem.F.slot_int_rmul
abbrev _root_.vH:=@List.getElem?_toArray
abbrev _root_.vI:=@Nat.mul_le_mul
abbrev _root_.vJ:=@Bool.false_and
abbrev _root_.vK:=@PySem.codeAny_call_builtin
abbrev _root_.vL:=@List.getD_cons_zero
abbrev _root_.vM:=@List.getD_cons_succ
abbrev _root_.vN:=@Array.length_toList
abbrev _root_.vO:=@PySem.typeIs_int
abbrev _root_.vP:=@PySem.F.args_tuple_mul_2
abbrev _root_.vQ:=@PySem.Code.quiet_builtin
abbrev _root_.vR:=@PySem.Calls.Constant_str
abbrev _root_.vS:=@PySem.wpAny_typeOf
abbrev _root_.vT:=@PySem.concat_meets
abbrev _root_.vU:=@Nat.lt_trans
abbrev _root_.vV:=@PySem.wpAny_pyIter_enum
abbrev _root_.vW:=@Function.comp_def
abbrev _root_.vX:=@PySem.F.entry_tuple_mul
local macro_rules|`(tactic|simp?[$t,*] $[$l:location]?)=>`(tactic|simp only[$t,*] $[$l]?)
local macro_rules|`(tactic|let ⟨$a,*⟩:=$e)=>do
 let rec f(n:Nat)(t:Lean.Syntax):Lean.MacroM (Lean.TSyntax `rcasesPat):=match n with
 |0=>Lean.Macro.throwUnsupported
 |n+1=>match t with
  |`(⟨$b,*⟩)=>do
    let c<-b.getElems.mapM fun x=>do `(Lean.Parser.Tactic.rcasesPatLo|$(<-f n x):rcasesPat)
    `(rcasesPat|⟨$c,*⟩)
  |`($x:ident)=>`(rcasesPat|$x:ident)
  |_=>`(rcasesPat|_)
 `(tactic|obtain $(<-f 9 (<-`(⟨$a,*⟩))):rcasesPat:=$e)
local macro_rules|`(tactic|lia)=>`(tactic|omega)
local macro_rules|`(def $i:declId $s:optDeclSig $v:declVal)=>`(noncomputable def $i:declId $s:optDeclSig $v:declVal)
local macro_rules|`(abbrev $i:declId $s:optDeclSig $v:declVal)=>`(noncomputable abbrev $i:declId $s:optDeclSig $v:declVal)
namespace L2
open PySem
def fD(s:Stmt):Arguments:=match s with
 | .FunctionDef _ a _ _ _ _ _ _ _ _=>a
 | _=>{ posonlyargs:=[],args:=[],vararg:=none,kwonlyargs:=[],kw_defaults:=[],kwarg:=none,defaults:=[] }
def bh(s:Stmt):List Stmt:=match s with
 | .FunctionDef _ _ b _ _ _ _ _ _ _=>b
 | _=>[]
def ah(s:Stmt):Scope:=match s with
 | .FunctionDef _ _ _ _ _ _ sc _ _ _=>sc
 | _=>{ kind:=.function,names:=[],isGenerator:=false,isCoroutine:=false }
end L2
namespace Hd
open PySem L2 PySem.Spec PyProof.Rows
def en(P:Params)(x:String)(t:Nat)(v:Value):DictEntry:=⟨PyData.keyHash P (Str.ofString x),.str (Str.ofString x) t,v⟩
def fo(x:Str)(st:Stmt)(pm:Value)(c:Addr):Obj:=⟨.type "function",none,.func (W.fnOf x x (fD st) (bh st) (ah st) .none .none .none pm none (.ref c) .none),#[]⟩
def co(vs:List Value):Obj:=⟨.type "code",none,.fields vs.toArray,#[]⟩
def LK(n:Nat):Value:=if n=0 then .none else .ref n
def iR(x:Str)(t l n a b c d e f u:Nat):Obj:=co [.str x t,.str x (t+1),.str "/claim/cut.py" (t+2),.int l 0,.int n 0,.int 0 0,.int 0 0,.int 3 0,LK a,.bool true,.int 181 0,LK b,LK c,LK d,LK e,LK f,.int u 0,.int l 0,.str "/claim/cut.py" (u+1)]
def Nt(x:Str)(C ns m t u:Nat)(bs up subs:List Value):Obj:=⟨.type "type",none,.cls { name:=x,bases:=bs,mro:=.ref C::(up++[.type "ValueError",.type "Exception",.type "BaseException",.type "object"]),ns:=ns,qualname:=x,subclasses:=subs },#[some (.ref m),none,some (.str x t),some (.str x u),some (.builtin "ValueError.__new__"),some (.bool true)]⟩
open PySem PySem.W L2
structure Acc where
 a:Nat
 t:Nat
 nm:Value
 es:List DictEntry
 ts:List Value
 os:List Obj
def sM(q:NameKind)(sc:Scope):List Str:=sc.names.filterMap λ(x,k)=>if k=q then some x else none
def Ln:Nat->List Str->List Value
 | _,[]=>[]
 | t,x::l=>.str x t::Ln (t+1) l
def FP(vs:List Value):Obj:=⟨.type "tuple",none,.seq vs.toArray,#[]⟩
def L9:Obj:=⟨.none,none,.fields #[],#[]⟩
def Mf(x:Str)(st:Stmt):Obj:=⟨.none,none,.func { name:=x,qualname:=x,params:=fD st,body:=.stmts (bh st),scope:=ah st,globals:=0,closure:=[],defaults:=.none,kwdefaults:=.none },#[]⟩
def P5(P:Params)(k:Nat)(st:Stmt):Acc->Acc
 | ⟨a,t,nm,es,ts,os⟩=>match st with
  | .FunctionDef x args _ _ _ _ sc _ _ pos =>
   if k=0 then ⟨a+5,t+6,nm,⟨PyData.keyHash P x,.str x (t+5),.ref (a+4)⟩::es,.ref (a+3)::.int 0 0::.int pos.line 0::ts,
    fo x st nm (a+3)::iR x t pos.line args.args.length a (a+1) 0 0 0 (a+2) (t+3)::Mf x st::L9::FP []::os⟩
   else
    let m:=(sM .local sc).length;let n:=m+(sM .cell sc).length
    ⟨a+7,t+6+n,nm,⟨PyData.keyHash P x,.str x (t+5+n),.ref (a+6)⟩::es,.ref (a+5)::.int 0 0::.int pos.line 0::ts,
    fo x st nm (a+5)::iR x t pos.line args.args.length a (a+1) 0 (a+2) (a+3) (a+4) (t+3+n)::Mf x st::FP (Ln (t+3+m) (sM .cell sc))::FP (Ln (t+3) (sM .local sc))::L9::FP []::os⟩
  | .Assign [.Name x _] (.Constant c _ _) _ =>
   let v:=match c with|.int i=>Value.int i t|.str y=>.str y t|_=>.none
   if k=2 then ⟨a,t+2,v,es,ts,os⟩ else ⟨a,t+2,nm,⟨PyData.keyHash P x,.str x (t+1),v⟩::es,ts,os⟩
  | _=>⟨a,t,nm,es,ts,os⟩
def Nd(P:Params):List Nat->List Stmt->Acc->Acc
 | k::ks,st::r,A=>Nd P ks r (P5 P k st A)
 | _,_,A=>A
def Oy:Heap->Acc->Heap
 | ⟨⟨o0::o1::o2::⟨c3,d3,.dict ⟨e0::es⟩ n,s3⟩::r⟩,lf⟩,A=>⟨⟨o0::o1::o2::⟨c3,d3,.dict ⟨{ e0 with val:=A.nm }::(es++A.es.reverse)⟩ (n+A.es.length),s3⟩ ::
   (r.modify 8 (fun|⟨c,d,.fields ⟨vs⟩,s⟩=>⟨c,d,.fields ⟨vs++A.ts.reverse⟩,s⟩|o=>o)++A.os.reverse)⟩,lf⟩
 | h,_=>h
def mC(s:Shared)(A:Acc):Shared:={ s with heap:=Oy s.heap A,toks:=A.t }
section
variable (p:Program) (w:World)
abbrev uY:=behindTheImports p
abbrev Fe:PySem.Env:={ scope:=p.main.scope,locals:=3,globals:=3,cells:=[],code:=.ref 13,frame:=some 14 }
abbrev yh:Code:=.body (uY p) (Fe p)
def Fj(i:Nat):Pos:=if i=0 then default else ((uY p).getD (i - 1) (.Pass default)).pos
abbrev Gc:List Frame:=[topFrame default]
def S0:Shared:=(fencedOpening treeTable p w 6000).getD {}
def Sb:Shared:=((topGo treeTable p w 11 (some (.ref 6)) 12 (S0 p w) (topStub p)).map (·.1)).getD {}
abbrev Nj(n i j:Nat)(s:Shared):=segRun treeTable p w 11 (some (.ref 6)) 1 n s (piecesOf (((uY p).drop i).take (j - i)) (Fe p) (yh p) (Fj p i) Gc)
def Sc(n j:Nat):Shared:=((Nj p w n 0 j (Sb p w)).map (·.2.1)).getD {}
def SA(n j:Nat)(A:Acc)(ks:List Nat)(m:Nat):Shared:=mC (Sc p w n j) (Nd w.params (ks.take m) ((uY p).drop j) A)
end
def GX{p q:Program}{loose:List Str}{Xt:Shared->Bool}{α:Type}{Yf:Shared->α}{Ya:World->α}{g0:Bool}{s1:World->Shared}{M:Nat}
  (ho:∀w,fencedOpening treeTable p w 6000=some (S0 p w)) (hs:∀w,((S0 p w).heap.isNs mainGlobals&&(S0 p w).gens.size == 0,(S0 p w).heap.objs.size,(S0 p w).heap.nsMap mainGlobals "__annotations__")=(true,11,some (.ref 6)))
  (hr:∀w,topRun treeTable p w 11 (some (.ref 6)) M (S0 p w) (topStub p)=some (s1 w)) (hM:M<=6000)
  (hl:∀w,(staticsOk (importedModules p.main.body) (S0 p w).heap (s1 w).heap&&namesBound p (s1 w).heap&&gensDone (s1 w)&&laidKept (S0 p w).heap (s1 w).heap)=true)
  (hk:∀w,openSeen q loose (importedModules p.main.body) Xt g0 (s1 w)=openGood q loose) (hy:∀w,Yf (s1 w)=Ya w):LeftO p q loose Xt Yf Ya 6000 g0:=λw=>by
 have r:=topRun_mono (6000 - M) _ _ _ _ (hr w);rw[show M+(6000 - M)=6000 by lia] at r;have e:=hs w;simp?[Prod.mk.injEq] at e;have t:openEnds treeTable p w 6000=some (s1 w):=by
  unfold openEnds;rw[ho w,zA];unfold topFrom;rw[e.1,e.2.1,e.2.2];dsimp only;rw[r,zA,hl w]
 rw[t,zB,hk w,hy w]
def KL{p:Program}{w:World}{N:Nat}{r:Shared}(a:topGo treeTable p w 11 (some (.ref 6)) 12 (S0 p w) (topStub p)=some (Sb p w,⟨denote treeTable (.body (uY p) (Fe p)),yh p,default,Gc⟩))
  (b:segRun treeTable p w 11 (some (.ref 6)) 1 1 (Sb p w) (blockOf (uY p) (Fe p) (yh p) default Gc)=some (.next,Sb p w,yh p,Fj p 0))
  (k:topRun treeTable p w 11 (some (.ref 6)) N (Sb p w) (restOf (uY p) (Fe p) (yh p) (Fj p 0) Gc)=some r):topRun treeTable p w 11 (some (.ref 6)) (12+(1+N)) (S0 p w) (topStub p)=some r:=go_top a (piece_block b k)
def O8{p:Program}{w:World}{n N i j:Nat}{s s' r:Shared}(h:Nj p w n i j s=some (.next,s',yh p,Fj p j))(Qj:i<=j)(k:topRun treeTable p w 11 (some (.ref 6)) N s' (restOf ((uY p).drop j) (Fe p) (yh p) (Fj p j) Gc)=some r) :
  topRun treeTable p w 11 (some (.ref 6)) (n+N) s (restOf ((uY p).drop i) (Fe p) (yh p) (Fj p i) Gc)=some r:=by
 have e:(uY p).drop i=((uY p).drop i).take (j - i)++(uY p).drop j:=by
  have:=List.take_append_drop (j - i) ((uY p).drop i);rw[List.drop_drop,show i+(j - i)=j by lia] at this;exact this.symm
 rw[e];exact piece_app h k
end Hd
namespace K82
open PySem L2 PySem.Spec PyProof.Rows Hd PySem.W
abbrev top(i:Nat):Stmt:=PySem.Challenge.pw_stillflow_k82_whole_plans_read.main.body.getD i (.Pass ⟨0,0,0,0⟩)
def vw:Program:=W.view PySem.Challenge.pw_stillflow_k82_whole_plans_read [1,2,3,4,6,7,8,9,10,11,12,13,14,15,16,17,18,19,20,21,23,24,25,26,27,28,29,31,32,33,34,35,36,37,38,39,40]
abbrev P0:Addr:=24
abbrev Po:List (Str×Addr):=[("NoWorld",37),("NoPlan",49),("NoText",61)]
def kz:Value:=(.str "stillflow.worlds" 255)
def yf:Value:=(.str "stillflow.texts" 361)
def qb:Value:=(.str "law_stillflow_k82_whole_plans_read" 418)
def Kf(P:Params):W.Frag:=[(3,⟨.type "dict",none,.dict #[en P "__name__" 165 (.str "law_stillflow_k82_whole_plans_read" 418),en P "__doc__" 166 .none,en P "__package__" 167 .none,en P "__loader__" 168 (.builtin "__main__.__loader__#opaque"),en P "__spec__" 169 .none,en P "__annotations__" 170 (.ref 6),en P "__builtins__" 171 (.ref 4),en P "__file__" 173 (.str "/claim/cut.py" 172),en P "__cached__" 174 .none,en P "FlowError" 206 (.ref 24),en P "NoWorld" 222 (.ref 37),en P "NoPlan" 238 (.ref 49),en P "NoText" 254 (.ref 61),en P "MOST_PLACES" 258 (.int 4 257),en P "MOST" 260 (.int 9 259),en P "is_whole" 269 (.ref 70),en P "is_number" 277 (.ref 77),en P "is_long" 286 (.ref 84),en P "are_likes" 292 (.ref 89),en P "is_end" 300 (.ref 96),en P "is_way" 309 (.ref 103),en P "are_parts" 315 (.ref 108),en P "liked_pairs" 321 (.ref 113),en P "is_world" 327 (.ref 118),en P "through" 333 (.ref 123),en P "keeps_amounts" 339 (.ref 128),en P "is_plan" 345 (.ref 133),en P "check_world" 352 (.ref 140),en P "check_plan" 360 (.ref 147),en P "text_of_lines" 368 (.ref 152),en P "lines_of" 376 (.ref 159),en P "flow_line" 386 (.ref 166),en P "written_plan" 392 (.ref 171),en P "plan_text" 400 (.ref 178),en P "known_lines" 411 (.ref 185),en P "read_plan" 417 (.ref 190),en P "_law_cell" 427 (.ref 197),en P "_law_drawn" 437 (.ref 204),en P "_law_wide" 443 (.ref 209),en P "_law_used" 449 (.ref 214),en P "_law_fits" 460 (.ref 221),en P "_law_plans" 466 (.ref 226),en P "_law_plan" 480 (.ref 233),en P "_law_told" 490 (.ref 240),en P "_law_due" 496 (.ref 245),en P "law" 516 (.ref 252)] 46,#[]⟩),
 (23,⟨.type "dict",none,.dict #[en P "__module__" 196 (.str "stillflow.errors" 187),en P "__firstlineno__" 200 (.int 2 199),en P "__static_attributes__" 201 (.ref 22),en P "__weakref__" 203 (.ref 25),en P "__doc__" 204 .none] 3,#[]⟩),
 (24,Nt "FlowError" 24 23 15 189 197 [(.type "ValueError")] [] [(.ref 37),(.ref 49),(.ref 61)]),
 (36,⟨.type "dict",none,.dict #[en P "__module__" 214 (.str "stillflow.errors" 187),en P "__firstlineno__" 218 (.int 4 217),en P "__static_attributes__" 219 (.ref 35),en P "__doc__" 220 .none] 2,#[]⟩),
 (37,Nt "NoWorld" 37 36 28 207 215 [(.ref 24)] [(.ref 24)] []),
 (48,⟨.type "dict",none,.dict #[en P "__module__" 230 (.str "stillflow.errors" 187),en P "__firstlineno__" 234 (.int 6 233),en P "__static_attributes__" 235 (.ref 47),en P "__doc__" 236 .none] 2,#[]⟩),
 (49,Nt "NoPlan" 49 48 40 223 231 [(.ref 24)] [(.ref 24)] []),
 (60,⟨.type "dict",none,.dict #[en P "__module__" 246 (.str "stillflow.errors" 187),en P "__firstlineno__" 250 (.int 8 249),en P "__static_attributes__" 251 (.ref 59),en P "__doc__" 252 .none] 2,#[]⟩),
 (61,Nt "NoText" 61 60 52 239 247 [(.ref 24)] [(.ref 24)] []),
 (69,iR "is_whole" 261 13 3 64 65 0 66 67 68 267),
 (70,fo "is_whole" (top 8) kz 69),
 (76,iR "is_number" 270 17 2 71 72 0 73 74 75 275),
 (77,fo "is_number" (top 9) kz 76),
 (83,iR "is_long" 278 19 3 78 79 0 80 81 82 284),
 (84,fo "is_long" (top 10) kz 83),
 (88,iR "are_likes" 287 21 2 85 86 0 0 0 87 290),
 (89,fo "are_likes" (top 11) kz 88),
 (95,iR "is_end" 293 27 2 90 91 0 92 93 94 298),
 (96,fo "is_end" (top 12) kz 95),
 (102,iR "is_way" 301 29 3 97 98 0 99 100 101 307),
 (103,fo "is_way" (top 13) kz 102),
 (107,iR "are_parts" 310 33 3 104 105 0 0 0 106 313),
 (108,fo "are_parts" (top 14) kz 107),
 (112,iR "liked_pairs" 316 41 1 109 110 0 0 0 111 319),
 (113,fo "liked_pairs" (top 15) kz 112),
 (117,iR "is_world" 322 46 1 114 115 0 0 0 116 325),
 (118,fo "is_world" (top 16) kz 117),
 (122,iR "through" 328 53 4 119 120 0 0 0 121 331),
 (123,fo "through" (top 17) kz 122),
 (127,iR "keeps_amounts" 334 55 3 124 125 0 0 0 126 337),
 (128,fo "keeps_amounts" (top 18) kz 127),
 (132,iR "is_plan" 340 57 2 129 130 0 0 0 131 343),
 (133,fo "is_plan" (top 19) kz 132),
 (139,iR "check_world" 346 64 1 134 135 0 136 137 138 350),
 (140,fo "check_world" (top 20) kz 139),
 (146,iR "check_plan" 353 67 2 141 142 0 143 144 145 358),
 (147,fo "check_plan" (top 21) kz 146),
 (151,iR "text_of_lines" 363 72 1 148 149 0 0 0 150 366),
 (152,fo "text_of_lines" (top 23) yf 151),
 (158,iR "lines_of" 369 74 1 153 154 0 155 156 157 374),
 (159,fo "lines_of" (top 24) yf 158),
 (165,iR "flow_line" 377 79 2 160 161 0 162 163 164 384),
 (166,fo "flow_line" (top 25) yf 165),
 (170,iR "written_plan" 387 83 2 167 168 0 0 0 169 390),
 (171,fo "written_plan" (top 26) yf 170),
 (177,iR "plan_text" 393 85 2 172 173 0 174 175 176 398),
 (178,fo "plan_text" (top 27) yf 177),
 (184,iR "known_lines" 401 88 1 179 180 0 181 182 183 409),
 (185,fo "known_lines" (top 28) yf 184),
 (189,iR "read_plan" 412 94 2 186 187 0 0 0 188 415),
 (190,fo "read_plan" (top 29) yf 189),
 (196,iR "_law_cell" 420 108 2 191 192 0 193 194 195 425),
 (197,fo "_law_cell" (top 31) qb 196),
 (203,iR "_law_drawn" 428 112 3 198 199 0 200 201 202 435),
 (204,fo "_law_drawn" (top 32) qb 203),
 (208,iR "_law_wide" 438 116 2 205 206 0 0 0 207 441),
 (209,fo "_law_wide" (top 33) qb 208),
 (213,iR "_law_used" 444 134 4 210 211 0 0 0 212 447),
 (214,fo "_law_used" (top 34) qb 213),
 (220,iR "_law_fits" 450 136 2 215 216 0 217 218 219 458),
 (221,fo "_law_fits" (top 35) qb 220),
 (225,iR "_law_plans" 461 142 1 222 223 0 0 0 224 464),
 (226,fo "_law_plans" (top 36) qb 225),
 (232,iR "_law_plan" 467 150 3 227 228 0 229 230 231 478),
 (233,fo "_law_plan" (top 37) qb 232),
 (239,iR "_law_told" 481 157 2 234 235 0 236 237 238 488),
 (240,fo "_law_told" (top 38) qb 239),
 (244,iR "_law_due" 491 165 2 241 242 0 0 0 243 494),
 (245,fo "_law_due" (top 39) qb 244),
 (251,iR "law" 497 181 1 246 247 0 248 249 250 514),
 (252,fo "law" (top 40) qb 251)]
def hk:W.Hook:=W.kmHook Kf [3,23,24,36,37,48,49,60,61,69,70,76,77,83,84,88,89,95,96,102,103,107,108,112,113,117,118,122,123,127,128,132,133,139,140,146,147,151,152,158,159,165,166,170,171,177,178,184,185,189,190,196,197,203,204,208,209,213,214,220,221,225,226,232,233,239,240,244,245,251,252] (λ_=>rfl) []
abbrev pp:=PySem.Challenge.pw_stillflow_k82_whole_plans_read
abbrev A0:Acc:=⟨64,255,.str "stillflow.errors" 187,[],[],[]⟩
abbrev ks:List Nat:=[2,3,3,1,1,1,0,1,1,0,0,0,0,0,0,1,1,2,0,1,1,0,1,1,0,2,1,1,0,0,1,0,1,1,0,1]
abbrev cs(w:World):Shared:=Sc pp w 835 5
abbrev sa(w:World)(m:Nat):Shared:=SA pp w 835 5 A0 ks m
def o0(w:World):fencedOpening treeTable pp w 6000=some (S0 pp w):=by kernel_rfl
def o1(w:World):((S0 pp w).heap.isNs mainGlobals&&(S0 pp w).gens.size == 0,(S0 pp w).heap.objs.size,(S0 pp w).heap.nsMap mainGlobals "__annotations__")=(true,11,some (.ref 6)):=by kernel_rfl
def o2(w:World):topGo treeTable pp w 11 (some (.ref 6)) 12 (S0 pp w) (topStub pp)=some (Sb pp w,⟨denote treeTable (.body (uY pp) (Fe pp)),yh pp,default,Gc⟩):=by kernel_rfl
def o3(w:World):segRun treeTable pp w 11 (some (.ref 6)) 1 1 (Sb pp w) (blockOf (uY pp) (Fe pp) (yh pp) default Gc)=some (.next,Sb pp w,yh pp,Fj pp 0):=by kernel_rfl
def q0(w:World):Nj pp w 835 0 5 (Sb pp w)=some (.next,cs w,yh pp,Fj pp 5):=by kernel_rfl
def q1(w:World):cs w=sa w 0:=by kernel_rfl
def r0(w:World):Nj pp w 952 5 41 (sa w 0)=some (.next,sa w 36,yh pp,Fj pp 41):=by kernel_rfl
abbrev fs(w:World):Shared:=sa w 36
def q2(w:World):topRun treeTable pp w 11 (some (.ref 6)) 3 (fs w) (restOf ((uY pp).drop 41) (Fe pp) (yh pp) (Fj pp 41) Gc)=some (fs w):=by kernel_rfl
def rl(w:World):topRun treeTable pp w 11 (some (.ref 6)) (12+(1+(835+(952+3)))) (S0 pp w) (topStub pp)=some (fs w):=KL (o2 w) (o3 w) (O8 (i:=0) (q0 w) (by decide) (by rw[q1 w];exact (O8 (r0 w) (by decide) (q2 w))))
abbrev sn(w:World):=openSeen vw [] (importedModules pp.main.body) (λs=>xlAt vw [] s&&recOk [] s) true (fs w)
abbrev gd:=openGood vw []
def l0(w:World):(staticsOk (importedModules pp.main.body) (S0 pp w).heap (fs w).heap&&namesBound pp (fs w).heap&&gensDone (fs w)&&laidKept (S0 pp w).heap (fs w).heap)=true:=by kernel_rfl
def Pi(w:World):(sn w).1=gd.1:=by kernel_rfl
def Pr(w:World):(sn w).2.1=gd.2.1:=by kernel_rfl
def Pz(w:World):(sn w).2.2.1=gd.2.2.1:=by kernel_rfl
def PD(w:World):(sn w).2.2.2.1=gd.2.2.2.1:=by kernel_rfl
def Pm(w:World):(sn w).2.2.2.2.1=gd.2.2.2.2.1:=by kernel_rfl
def PF(w:World):(sn w).2.2.2.2.2.1=gd.2.2.2.2.2.1:=by kernel_rfl
def P2(w:World):(sn w).2.2.2.2.2.2=gd.2.2.2.2.2.2:=by kernel_rfl
def Pu(w:World):hk.obs (fs w)=hk.val w:=by kernel_rfl
def left:LeftO pp vw [] (λs=>xlAt vw [] s&&recOk [] s) hk.obs hk.val 6000:=GX o0 o1 rl (by decide) l0 (λw=>Prod.ext (Pi w) (Prod.ext (Pr w) (Prod.ext (Pz w) (Prod.ext (PD w) (Prod.ext (Pm w) (Prod.ext (PF w) (P2 w))))))) Pu
def NW:PySem.Challenge.rw_stillflow_k82_whole_plans_read.wellSaid=true:=by kernel_rfl
end K82
namespace L2
open PySem PySem.Spec PyProof.Rows
abbrev fj:=Sum Int Str
def IC:fj->Value->Bool
 | .inl k,v=>Value.isInt k v
 | .inr x,v=>Value.isStrOf x v
def OP(w:World):fj->Int
 | .inl k=>hashInt k
 | .inr x=>hashStr w x
def bI:∀ {k:fj}{v:Value},IC k v=true->(∃i t,k=Sum.inl i/\v=Value.int i t)\/(∃x t,k=Sum.inr x/\v=Value.str x t)
 | .inl i,v,h=>by
  let⟨t,e⟩:=Value.isInt_shape (k:=i) (v:=v) h;exact .inl ⟨i,t,rfl,e⟩
 | .inr x,v,h=>by
  let⟨t,e⟩:=Value.isStrOf_shape (x:=x) (v:=v) h;exact .inr ⟨x,t,rfl,e⟩
def Lo(a b:Int):decide ((Sum.inl a:fj)=Sum.inl b)=(a == b):=by
 by_cases e:a=b
 ·subst e;simp
 ·have h:¬ (Sum.inl a:fj)=Sum.inl b:=λq=>e (Sum.inl.inj q);rw[zY h];exact (beq_eq_false_iff_ne.mpr e).symm
def Lu(a b:Str):decide ((Sum.inr a:fj)=Sum.inr b)=decide (a=b):=by
 by_cases e:a=b
 ·subst e;simp
 ·have h:¬ (Sum.inr a:fj)=Sum.inr b:=λq=>e (Sum.inr.inj q);rw[zY h,zY e]
def JL(a:Int)(b:Str):decide ((Sum.inl a:fj)=Sum.inr b)=false:=zY (λq=>nomatch q)
def JU(a:Str)(b:Int):decide ((Sum.inr a:fj)=Sum.inl b)=false:=zY (λq=>nomatch q)
def gG(prog:Program)(w:World):PySem.KeyKind prog w fj where
 is:=IC
 hash:=OP w
 inj:=λv a b ha hb=>by
  rcases bI ha with ⟨i,t,rfl,rfl⟩|⟨x,t,rfl,rfl⟩
  ·rcases bI hb with ⟨j,u,rfl,e⟩|⟨y,u,rfl,e⟩
   ·injection e with e1 _;rw[e1]
   ·exact nomatch e
  ·rcases bI hb with ⟨j,u,rfl,e⟩|⟨y,u,rfl,e⟩
   ·exact nomatch e
   ·injection e with e1 _;rw[e1]
 byValue:=λk v h=>by
  rcases bI h with ⟨i,t,rfl,rfl⟩|⟨x,t,rfl,rfl⟩<;>rfl
 pyHash:=λhv h=>by
  rcases bI hv with ⟨i,t,rfl,rfl⟩|⟨x,t,rfl,rfl⟩
  ·exact wpAny_pyHash_int h
  ·exact wpAny_pyHash_str h
 eqBool:=λhu hv h=>by
  rcases bI hu with ⟨i,t,rfl,rfl⟩|⟨x,t,rfl,rfl⟩
  ·rcases bI hv with ⟨j,u,rfl,rfl⟩|⟨y,u,rfl,rfl⟩
   ·rw[Lo] at h;exact wpAny_eqBool_int h
   ·rw[JL] at h;exact SeqAt.EqAt.int_str i t y u _ _ _ _ h
  ·rcases bI hv with ⟨j,u,rfl,rfl⟩|⟨y,u,rfl,rfl⟩
   ·rw[JU] at h;exact SeqAt.EqAt.str_int x t j u _ _ _ _ h
   ·rw[Lu] at h;exact wpAny_eqBool_str h
 «strs»:=λk x t v h=>by
  rcases bI h with ⟨i,u,rfl,e⟩|⟨y,u,rfl,e⟩
  ·exact nomatch e
  ·injection e with e1 _
   subst e1;cases v<;>rfl
inductive V where
 | Qb|bl (b:Bool)|int (i:Int)|str (x:Str)|V0 (b:Array UInt8)|V1 (b:UInt64)|ref (a:Addr)|ty (n:String)
 deriving DecidableEq
def RelV:V->Value->Prop
 | .Qb,u=>u=Value.none
 | .bl b,u=>u=Value.bool b
 | .int i,u=>∃t,u=Value.int i t
 | .str x,u=>∃t,u=Value.str x t
 | .V0 b,u=>∃t,u=Value.bytes b t
 | .V1 b,u=>∃t,u=Value.float b t
 | .ref a,u=>u=Value.ref a
 | .ty n,u=>u=Value.type n
abbrev aA:List V->List Value->Prop:=Paired RelV
def aA.length(r:aA xs us):xs.length=us.length:=Paired.length r
def aA.get:∀ {xs:List V}{us:List Value}{i:Nat}{x:V},aA xs us->xs[i]?=some x->∃u,us[i]?=some u/\RelV x u
 | _,_,_,_,.nil,e=>by simp at e
 | _,_,0,_,.cons r _,e=>by simp at e;subst e;exact⟨_,rfl,r⟩
 | _,_,i+1,x,.cons _ t,e=>by
  let⟨u,h1,h2⟩:=aA.get (i:=i) (x:=x) t (by simpa using e);exact⟨u,by simpa using h1,h2⟩
def aA.set(r:RelV x u):∀ {xs:List V}{us:List Value}(i:Nat),aA xs us->aA (xs.set i x) (us.set i u)
 | _,_,_,.nil=>.nil
 | _,_,0,.cons _ t=>.cons r t
 | _,_,i+1,.cons q t=>.cons q (aA.set r i t)
def aA.append:∀ {xs ys:List V}{us ws:List Value},aA xs us->aA ys ws->aA (xs++ys) (us++ws)
 | _,_,_,_,.nil,s=>s
 | _,_,_,_,.cons r t,s=>.cons r (aA.append t s)
def aA.take:∀ {xs:List V}{us:List Value}(n:Nat),aA xs us->aA (xs.take n) (us.take n)
 | _,_,0,_=>.nil
 | _,_,_+1,.nil=>.nil
 | _,_,n+1,.cons r t=>.cons r (aA.take n t)
def aA.drop:∀ {xs:List V}{us:List Value}(n:Nat),aA xs us->aA (xs.drop n) (us.drop n)
 | _,_,0,r=>r
 | _,_,_+1,.nil=>.nil
 | _,_,n+1,.cons _ t=>aA.drop n t
def Nf:Option V->Option Value->Prop
 | some v,some u=>RelV v u
 | none,none=>True
 | _,_=>False
def KV:List (κ×V)->List (κ×Value)->Prop:=Paired λ(p:κ×V) (q:κ×Value)=>p.1=q.1/\RelV p.2 q.2
def kV:fj->V
 | .inl i=>.int i
 | .inr x=>.str x
inductive HO where
  | lst (xs:List V)
  | tup (xs:List V)
  | dK (QF:List (fj×V))|dT (QF:List (List fj×V))
  | set (S:Int->Bool) (n:Nat)
  | ins (C dx:Addr) (fs:List (Str×V))
  | own (x:Addr)
  | xd (fs:List (Str×V))
  | met (f x:Addr)
  | VA (lo hi:Int)
  | QK (o:Obj) (u:HO)
  | tab (q:Str)
 | TU (q:Str)
  | ext (φ:Heap->Prop)
abbrev Hp:=Addr->Option HO
def upd(H:Hp)(a:Addr)(o:HO):Hp:=λb=>if b=a then some o else H b
def aF:upd H a o a=some o:=by unfold upd;rw[yJ rfl]
def aE(h:b≠a):upd H a o b=H b:=by unfold upd;rw[yL h]
def aJ{H:Hp}{a b:Addr}{o:HO}(h:H a=some o)(h':H b=none):a≠b:=by
 intro e;subst e;rw[h] at h';cases h'
def mz(h:Heap)(a:Addr)(its:Array Value):Prop:=IsTup h a its/\∃o,h.get? a=some o/\o.dict=none
def mz.new(h:Heap)(its:Array Value):mz (h.push { cls:=.type "tuple",data:=.seq its }) h.objs.size its:=⟨IsTup.new _ _,_,zW _ rfl,rfl⟩
section
variable (P:Program) (w:World)
def cU(H:Hp)(h:Heap)(a:Addr):HO->Prop
 | .lst xs=>xs.length<=sizeLine/\∃ (its:List Value) (n:Nat),aA xs its/\h.get? a=some { cls:=.type "list",data:=.seq its.toArray n }
 | .tup xs=>xs.length<=sizeLine/\∃its:List Value,aA xs its/\mz h a its.toArray
 | .dK QF=>QF.length<=sizeLine/\(a == sysModules)=false/\∃vs,KV QF vs/\h.DictOf (gG P w) a vs
 | .dT QF=>QF.length<=sizeLine/\(a == sysModules)=false/\∃xs:List (List fj×Addr×Value),
   Paired (λ(p:List fj×V) (q:List fj×Addr×Value)=>p.1=q.1/\H q.2.1=some (.tup (p.1.map kV))/\RelV p.2 q.2.2) QF xs /\
   ∃o es ep,h.get? a=some o/\o.ExactDict/\o.data=.dict es ep/\es.toList=xs.map (entryOfKey (tupleKind (gG P w)))/\(xs.map (·.1)).Nodup
 | .set S n=>h.SetOf (intKind P w) a S n
 | .ins C dx fs=>H dx=some (.own a)/\fs.length<=1000/\dx≠a/\h.get? a=some (W.instObj C dx) /\
   ∃mA,h.Ns1 dx mA/\(∀f,Nf (fs.lookup f) (mA f))/\PySem.Within mA (fs.map (·.1))
 | .own _=>∃o,h.get? a=some o
 | .xd fs=>∃mA,h.Ns1 a mA/\∀f,Nf (fs.lookup f) (mA f)
 | .VA lo hi=>∃t u v,h.get? a=some { cls:=.type "range",data:=.fields #[.int lo t,.int hi u,.int 1 v] }
 | .QK o u=>h.get? a=some o/\cU H h a u
 | .tab q=>∃ps:Array Value,h.get? a=some { cls:=.none,data:=.fields ps }/\TriplesOk ps.toList/\∀pos v,codeAmong pos ps.toList=some v->∃c,v=.ref c/\H c=some (.TU q)
 | .TU q=>h.CodeRec (.ref a) q
 | .met f x=>h.get? a=some (W.methodObj (.ref f) (.ref x))
 | .ext φ=>φ h/\(∃o,h.get? a=some o)/\∀h1 h2:Heap,φ h1->(∀o,h1.get? a=some o->h2.get? a=some o)->φ h2
def ku(H:Hp)(h:Heap):Prop:=∀a o,H a=some o->cU P w H h a o
end
def cU.lt(x:cU P w H h a o):a < h.objs.size:=by
 cases o with
 | lst xs=>let⟨_,_,_,_,e⟩:=x;exact zX e
 | tup xs=>let⟨_,_,_,p⟩:=x;exact p.1.lt
 | dK QF=>let⟨_,_,_,_,o,_,_,e,_⟩:=x;exact zX e
 | dT QF=>let⟨_,_,_,_,o,_,_,e,_⟩:=x;exact zX e
 | set S n=>let⟨o,_,_,_,e,_⟩:=x;exact zX e
 | ins C dx fs=>let⟨_,_,_,e,_⟩:=x;exact zX e
 | own y=>let⟨_,e⟩:=x;exact zX e
 | xd fs=>let⟨_,⟨_,_,_,e,_⟩,_⟩:=x;exact zX e
 | VA lo hi=>let⟨_,_,_,e⟩:=x;exact zX e
 | QK ob u=>let⟨e,_⟩:=x;exact zX e
 | tab q=>let⟨_,e,_⟩:=x;exact zX e
 | TU q=>let⟨_,_,_,_,e0,e,_⟩:=x;cases e0;exact zX e
 | met f y=>exact zX (show h.get? a=some _ from x)
 | ext φ=>let⟨_,⟨_,e⟩,_⟩:=x;exact zX e
def Paired.TV:∀ {UC:List α}{UD:List β},Paired F UC UD->(∀a b,F a b->G a b)->Paired G UC UD
 | _,_,.nil,_=>.nil
 | _,_,.cons r t,f=>.cons (f _ _ r) (Paired.TV t f)
def Pe:HO->Prop
 | .tup _=>True
 | .TU _=>True
 | _=>False
def cU.QG(x:cU P w H h a o)(k:∀b u,(b=a\/H b=some (.own a))->h.get? b=some u->h'.get? b=some u)
  (ho:∀b,H b=some (.own a)->H' b=some (.own a)) (ht:∀b u,H b=some u->Pe u->H' b=some u):cU P w H' h' a o:=by
 induction o with
 | lst xs=>let⟨z,its,n,r,e⟩:=x;exact⟨z,its,n,r,k _ _ (.inl rfl) e⟩
 | tup xs=>let⟨z,its,r,⟨ob,e,c⟩,o2,e2,d2⟩:=x;exact⟨z,its,r,⟨ob,k _ _ (.inl rfl) e,c⟩,o2,k _ _ (.inl rfl) e2,d2⟩
 | dK QF=>let⟨z,y,vs,r,ob,es,ep,e,c⟩:=x;exact⟨z,y,vs,r,ob,es,ep,k _ _ (.inl rfl) e,c⟩
 | dT QF =>
  let⟨z,y,xs,r,ob,es,ep,e,c⟩:=x;exact⟨z,y,xs,Paired.TV r λp q z=>⟨z.1,ht _ _ z.2.1 trivial,z.2.2⟩,ob,es,ep,k _ _ (.inl rfl) e,c⟩
 | set S n=>let⟨ob,es,ep,t,e,c⟩:=x;exact⟨ob,es,ep,t,k _ _ (.inl rfl) e,c⟩
 | ins C dx fs =>
  let⟨d,z,ne,e,mA,⟨od,es,ep,e2,c⟩,r⟩:=x;exact⟨ho _ d,z,ne,k _ _ (.inl rfl) e,mA,⟨od,es,ep,k _ _ (.inr d) e2,c⟩,r⟩
 | own y=>let⟨ob,e⟩:=x;exact⟨ob,k _ _ (.inl rfl) e⟩
 | xd fs=>let⟨mA,⟨od,es,ep,e,c⟩,r⟩:=x;exact⟨mA,⟨od,es,ep,k _ _ (.inl rfl) e,c⟩,r⟩
 | VA lo hi=>let⟨t,u,v,e⟩:=x;exact⟨t,u,v,k _ _ (.inl rfl) e⟩
 | QK ob u ih=>let⟨e,q⟩:=x;exact⟨k _ _ (.inl rfl) e,ih q⟩
 | tab q=>let⟨ps,e,t,c⟩:=x;exact⟨ps,k a _ (.inl rfl) e,t,λpos v z=>let ⟨c0,z1,z2⟩:=c pos v z;⟨c0,z1,ht _ _ z2 trivial⟩⟩
 | TU q=>let⟨c,oc,vs,t,e0,e,r⟩:=x;cases e0;exact⟨_,oc,vs,t,rfl,k _ _ (.inl rfl) e,r⟩
 | met f y =>
  have e:h.get? a=some (W.methodObj (.ref f) (.ref y)):=x;show h'.get? a=some (W.methodObj (.ref f) (.ref y));exact k a _ (.inl rfl) e
 | ext φ=>let⟨p,⟨o,e⟩,st⟩:=x;exact⟨st _ _ p λo q=>k _ _ (.inl rfl) q,⟨o,k _ _ (.inl rfl) e⟩,st⟩
def ku.lt(x:ku P w H h)(e:H a=some o):a < h.objs.size:=(x a o e).lt
def ku.fresh(x:ku P w H h)(e:h.objs.size<=a):H a=none:=by
 cases q:H a with
 | none=>rfl
 | some u=>exact absurd (zP (x.lt q) e) (qC _)
def ku.kept(x:ku P w H h)(k:∀b u,h.get? b=some u->h'.get? b=some u):ku P w H h':=λa o e =>
 (x a o e).QG (λb u _ q=>k b u q) (λ_ q=>q) λ_ _ q _=>q
def ku.laid(x:ku P w H h)(k:∀b u,h.get? b=some u->h'.get? b=some u)(hp:h.objs.size<=a)(new:cU P w (upd H a o) h' a o):ku P w (upd H a o) h':=λb u e=>by
 have hn:=x.fresh hp;by_cases hb:b=a
 ·subst hb;rw[aF] at e;cases e;exact new
 ·rw[aE hb] at e;exact (x b u e).QG (λc v _ q=>k c v q) (λc q=>by rw[aE (aJ q hn)];exact q) λc xs q _=>by rw[aE (aJ q hn)];exact q
def Rd(H:Hp)(a:Addr)(u:HO):Prop:=H a=some u\/∃o,H a=some (.QK o u)
def Rd.ok(r:Rd H a u)(x:ku P w H h):cU P w H h a u:=by
 rcases r with r|⟨o,r⟩
 ·exact x a u r
 ·let⟨_,q⟩:=x a _ r;exact q
def Mq:Option HO->Prop
 | some (.lst _)=>True
 | some (.dK _)=>True
 | some (.dT _)=>True
 | some (.set _ _)=>True
 | some (.ins _ _ _)=>True
 | some (.ext _)=>True
 | _=>False
def ku.write(ok:ku P w H h)(mu:Mq (H x))(he:e=x\/H e=some (.own x))(k:∀b u,b≠e->h.get? b=some u->h'.get? b=some u)(Us:∃u,h'.get? e=some u)
  (new:cU P w (upd H x o') h' x o'):ku P w (upd H x o') h':=λb u q=>by
 have UE:∀c y,H c=some (.own y)->c≠x:=λc y r z=>by subst z;rw[r] at mu;exact mu
 have V2:∀c u,H c=some u->Pe u->c≠x:=λc u r hr z=>by subst z;rw[r] at mu;cases u<;>first|exact mu|exact hr
 by_cases hb:b=x
 ·subst hb;rw[aF] at q;cases q;exact new
 ·rw[aE hb] at q;by_cases TX:b=e
  ·have q':H b=some (.own x):=by
    rcases he with z|z
    ·exact absurd (TX.trans z) hb
    ·rw[TX];exact z
   rw[q] at q';cases q';let⟨v,hv⟩:=Us;exact⟨v,by rw[TX];exact hv⟩
  ·refine (ok b u q).QG (λc v hc r=>k c v ?_ r) (λc r=>by rw[aE (UE c b r)];exact r) λc xs r hr=>by rw[aE (V2 c xs r hr)];exact r
   rcases hc with rfl|hc
   ·exact TX
   ·rintro rfl;rcases he with z|z
    ·exact UE c b hc z
    ·rw[hc] at z;cases z;exact hb rfl
def Nu:HO->Prop
 | .tab _=>True
 | .TU _=>True
 | _=>False
def Nu.SV(h:Nu u):¬ Mq (some u):=by cases u<;>first|exactλz=>z|exact h.elim
structure Iy(H H':Hp)(h h':Heap):Prop where
 st:∀b u,H b=some u->Nu u->H' b=some u
 gr:∀b q ps,H b=some (.tab q)->h.get? b=some { cls:=.none,data:=.fields ps }->∃more:Array Value,h'.get? b=some { cls:=.none,data:=.fields (ps++more) }
def Iy.kept(k:∀b u,(∃q,H b=some (.tab q))->h.get? b=some u->h'.get? b=some u)(st:∀b u,H b=some u->Nu u->H' b=some u):Iy H H' h h' :=
 ⟨st,λb q ps e z=>⟨#[],by rw[Array.append_empty];exact k b _ ⟨q,e⟩ z⟩⟩
def Iy.trans(a:Iy H H1 h h1)(b:Iy H1 H2 h1 h2):Iy H H2 h h2 :=
 ⟨λc u q t=>b.st c u (a.st c u q t) t,λc q ps e z=>by
  let⟨m1,z1⟩:=a.gr c q ps e z;let⟨m2,z2⟩:=b.gr c q _ (a.st c _ e trivial) z1;exact⟨m1++m2,by rw[z2,Array.append_assoc]⟩⟩
structure Un(fs ex:List Addr)(H H':Hp)(h h':Heap):Prop where
 keep:∀b o,h.get? b=some o->H b=none->b∉fs->b∉ex->h'.get? b=some o
 slot:∀b o,h.get? b=some o->H b=none->b∈fs->b∉ex->∃sl,h'.get? b=some { o with slots:=sl }
 free:∀b o,h.get? b=some o->H b=none->b∉ex->H' b=none
 there:∀b o,h.get? b=some o->b∉ex->∃o',h'.get? b=some o'
 QY:∀b xs,H b=some (.tup xs)->H' b=some (.tup xs)
 QP:∀b o u,H b=some (.QK o u)->H' b=some (.QK o u)
 QQ:Iy H H' h h'
def Un.any(u:Un fs ex H H1 h h1)(q:h.get? b=some ob)(n:H b=none)(hx:b∉ex):∃sl,h1.get? b=some { ob with slots:=sl }:=by
 by_cases hb:b∈fs
 ·exact u.slot b ob q n hb hx
 ·exact⟨ob.slots,u.keep b ob q n hb hx⟩
def Un.kept(k:∀b u,h.get? b=some u->h'.get? b=some u):Un fs ex H H h h' :=
 ⟨λb ob q _ _ _=>k b ob q,λb ob q _ _ _=>⟨ob.slots,k b ob q⟩,λ_ _ _ n _=>n,λb ob q _=>⟨ob,k b ob q⟩,λ_ _ q=>q,λ_ _ _ q=>q,.kept (λb u _ e=>k b u e) λ_ _ e _=>e⟩
def Un.refl:Un fs ex H H h h:=Un.kept λ_ _ q=>q
def Un.laid(k:∀b u,h.get? b=some u->h'.get? b=some u)(hp:h.objs.size<=a)(hn:H a=none):Un fs ex H (upd H a o) h h' where
 keep:=λb u q _ _ _=>k b u q
 slot:=λb u q _ _ _=>⟨u.slots,k b u q⟩
 free:=λb u q n _=>by rw[aE (yP (zP (zX q) hp))];exact n
 there:=λb u q _=>⟨u,k b u q⟩
 QY:=λb xs q=>by rw[aE (aJ q hn)];exact q
 QP:=λb u xs q=>by rw[aE (aJ q hn)];exact q
 QQ:=.kept (λb u _ e=>k b u e) λb u q _=>by rw[aE (aJ q hn)];exact q
def Un.write(mu:Mq (H x))(he:e=x\/H e=some (.own x))(k:∀b u,b≠e->h.get? b=some u->h'.get? b=some u)(Us:∃u,h'.get? e=some u):Un fs ex H (upd H x o) h h':=by
 have hx:∀b,H b=none->b≠x:=λb n z=>by subst z;rw[n] at mu;exact mu
 have hb:∀b,H b=none->b≠e:=λb n z=>by
  subst z;rcases he with r|r
  ·exact hx b n r
  ·rw[n] at r;cases r
 have hm:∀b u,H b=some u->¬ Mq (some u)->b≠x:=λb u q nm z=>by subst z;rw[q] at mu;exact nm mu
 refine⟨λb u q n _ _=>k b u (hb b n) q,λb u q n _ _=>⟨u.slots,k b u (hb b n) q⟩,λb u q n _=>by rw[aE (hx b n)];exact n,λb u q _=>?_,
  λb xs q=>by rw[aE (hm b _ q λz=>z)];exact q,λb u xs q=>by rw[aE (hm b _ q λz=>z)];exact q,.kept (λb u z e=>k b u (λr=>by subst r;rcases he with r|r<;>first|(subst r;rcases z with ⟨q,z⟩;rw[z] at mu;exact mu)|(rcases z with ⟨q,z⟩;rw[z] at r;cases r)) e) λb u q nm=>by rw[aE (hm b _ q (nm.SV))];exact q⟩
 by_cases TX:b=e
 ·subst TX;exact Us
 ·exact⟨u,k b u TX q⟩
def Fi(h:Heap)(H:Hp):List Addr:=(List.range h.objs.size).filter λa=>(H a).isSome
def rY(h:Heap)(H:Hp):Heap:=W.hideAll h (Fi h H)
def Am(h:Heap)(H:Hp):(rY h H).objs.size=h.objs.size:=W.hideAll_size _ _
def Dq(e:h.get? b=some o)(n:H b=none):(rY h H).get? b=some o :=
 W.hideAll_get _ e λhm=>by
  have q:(H b).isSome=true:=(List.mem_filter.mp hm).2;rw[n] at q;simp at q
def HX(e:(rY h H).get? b=some o):h.get? b=some o/\H b=none:=by
 have e':h.get? b=some o:=W.of_hideAll (Fi h H) e;refine⟨e',?_⟩;cases q:H b with
 | none=>rfl
 | some x =>
  have hm:b∈Fi h H:=List.mem_filter.mpr ⟨List.mem_range.mpr (zX e'),by simp[q]⟩;have z:(rY h H).get? b=none:=W.hideAll_none (Fi h H) hm;rw[z] at e;cases e
def Ol(mg:Str->Option Value)(base:Heap):Prop:=∃bm o,mg "__builtins__"=some (.ref bm)/\bm≠builtinsNs/\bm≠mainGlobals/\base.get? bm=some o/\o.cls=.type "module"/\o.dict=some builtinsNs/\o.data=.plain
structure Mod(K:W.Frag)(mg:Str->Option Value)(base:Heap):Prop where
 VB:K.In base
 glob:base.Ns mainGlobals mg
 blt:∃mb,base.Ns builtinsNs mb/\∀x:Str,x≠"__name__"->mb x=bootBuiltins x
 nolimit:base.NoLimit
 bmd:Ol mg base
structure Cx where
 prog:Program
 w:World
 K:W.Frag
 mg:Str->Option Value
 base:Heap
 A:Around
 N:List Str
 Qo:Shared
 Qc:Hp
 env:Env
 outer:List Env
 stack:List Env
 ex:List Addr
 fn:Str->Bool
 calm:Bool
 pn:List (Addr×Obj)
 xe:Value->Shared->Prop
def dY(l:List Env):List Addr:=l.filterMap (·.frame)
abbrev Cx.fs(X:Cx):List Addr:=dY X.outer
def FC(sc:Scope)(x:Str):Prop:=sc.names.lookup x=some .local \/ sc.names.lookup x=some .cell\/sc.names.lookup x=some .free
def Loc(sc:Scope)(x:Str):Prop:=sc.names.lookup x=some .local \/ sc.names.lookup x=some .cell
def Look(env:Env)(h:Heap)(m:Str->Option Value)(x:Str)(u:Value):Prop :=
 (env.kindOf x=some .local /\ m x=some u)\/((env.kindOf x=some .cell\/env.kindOf x=some .free)/\∃c,env.cells.lookup x=some c/\h.IsCell c (some u))
structure Cx.Ok(X:Cx):Prop where
 mod:Mod X.K X.mg X.base
 kind:X.env.scope.kind=.function
 glob:X.env.globals=mainGlobals
 blt:X.env.builtins=builtinsNs
 above:X.Qo.heap.objs.size<=X.env.locals
 inj:∀x y c,X.env.cells.lookup x=some c->X.env.cells.lookup y=some c->x=y
 has:∀x,(X.env.kindOf x=some .cell\/X.env.kindOf x=some .free)->∃c,X.env.cells.lookup x=some c
 TY:∀x c,X.fn x=true->X.env.cells.lookup x=some c->X.Qo.heap.objs.size<=c
 hd:X.calm=true->X.A.handled=none
 frames:X.A.frames=some X.stack
 RT:X.stack=X.outer\/(X.stack=X.env::X.outer/\X.env.frame=some X.env.locals)
 Ut:∀b∈X.ex,b≠X.env.locals/\∀x c,X.env.cells.lookup x=some c->c≠b
 bs:∀b o,X.base.get? b=some o->X.Qo.heap.get? b=some o/\X.Qc b=none
 SW:X.base.objs.size<=X.Qo.heap.objs.size
 Ru:∀b o,X.base.get? b=some o->b∉X.ex
 RJ:∀b∈X.ex,b∉X.fs
 QR:X.Qo.heap.FunFrames X.base X.outer
 To:∀b∈X.fs,X.Qc b=none
structure Inv(X:Cx)(pins:List (Addr×Obj))(σ:List (Option V))(H:Hp)(s:Shared):Prop where
 ok:X.Ok
 os:s.os=X.Qo.os
 bare:AllBare s.gens
 base:Un X.fs X.ex X.Qc H X.Qo.heap s.heap
 loc:∃m,s.heap.Ns X.env.locals m/\∀ (i:Nat) (x:Str) (v:V),X.N[i]?=some x->σ[i]?=some (some v)->FC X.env.scope x->∃u,RelV v u/\Look X.env s.heap m x u
 cell:∀x c,X.env.cells.lookup x=some c->∃v,s.heap.IsCell c v
 free:H X.env.locals=none
 Qr:∀x c,X.env.cells.lookup x=some c->H c=none
 pin:∀p∈X.pn++pins,s.heap.get? p.1=some p.2/\H p.1=none/\p.1≠X.env.locals/\p.1∉X.fs/\∀v,p.2.data≠.cell v
 Qh:ku X.prog X.w H s.heap
 len:σ.length=X.N.length
def Cx.Ok.V3{X:Cx}(ok:X.Ok)(e:X.base.get? b=some o):b∉X.fs:=λhb=>by
 have:=(ok.QR.mem hb).1;rw[e] at this;cases this
def Inv.bs{X:Cx}{s:Shared}(I:Inv X pins σ H s):∀b o,X.base.get? b=some o->s.heap.get? b=some o/\H b=none:=λb o e =>
 ⟨I.base.keep b o (I.ok.bs b o e).1 (I.ok.bs b o e).2 (I.ok.V3 e) (I.ok.Ru b o e),I.base.free b o (I.ok.bs b o e).1 (I.ok.bs b o e).2 (I.ok.Ru b o e)⟩
def Inv.bk(I:Inv X pins σ H s):∀b o,X.base.get? b=some o->s.heap.get? b=some o:=λb o e=>(I.bs b o e).1
def Inv.mod(I:Inv X pins σ H s):Mod X.K X.mg X.base:=I.ok.mod
def Inv.RF(I:Inv X pins σ H s):X.K.In s.heap:=I.ok.mod.VB.keeps I.bk
def Inv.lt(I:Inv X pins σ H s):X.env.locals < s.heap.objs.size:=let ⟨_,hn,_⟩:=I.loc;hn.lt
def Inv.sz(I:Inv X pins σ H s):X.Qo.heap.objs.size<=s.heap.objs.size:=yC I.ok.above (jP I.lt)
def Inv.V4(I:Inv X pins σ H s)(h:s.heap.objs.size<=a):a∉X.fs:=λhb=>by
 let⟨_,o,ho,_⟩:=I.ok.QR.mem hb;exact absurd (zP (zX ho) (yC I.sz h)) (qC _)
def Inv.Tp(I:Inv X pins σ H s):∀x c,X.env.cells.lookup x=some c->c≠X.env.locals:=λx c e z=>by
 let⟨v,o,ho,hd⟩:=I.cell x c e;let⟨m,⟨o',es,ep,QV,Sf,_⟩,_⟩:=I.loc;rw[z,QV] at ho;cases ho;rw[Sf] at hd;cases hd
def Inv.QR(I:Inv X pins σ H s):s.heap.FunFrames X.base X.outer:=by
 have all:∀ (l:List Env),(∀b∈dY l,b∈X.fs)->X.Qo.heap.FunFrames X.base l->s.heap.FunFrames X.base l:=by
  intro l
  induction l with
  | nil=>intro _ _;trivial
  | cons env r ih =>
   intro hs hl;let⟨hk,⟨L,o,hf,hn,ho,hd⟩,hr⟩:=hl;have hL:L∈X.fs:=hs L (by unfold dY;rw[jC,hf];exact zE);let⟨sl,e⟩:=I.base.slot L o ho (I.ok.To L hL) hL λz=>I.ok.RJ L z hL;exact⟨hk,⟨L,_,hf,hn,e,hd⟩,ih (λb hb=>hs b (by unfold dY;rw[jC,hf];exact zC _ hb)) hr⟩
 exact all X.outer (λ_ hb=>hb) I.ok.QR
def Inv.stack(I:Inv X pins σ H s):s.heap.FunFrames X.base X.stack:=by
 rcases I.ok.RT with e|⟨e,hf⟩
 ·rw[e];exact I.QR
 ·rw[e];let⟨m,hn,_⟩:=I.loc;refine .cons (by rw[I.ok.kind];decide) hf hn ?_ I.QR;exact Heap.get?_none_of_le (yC I.ok.SW I.ok.above)
def Inv.RK(I:Inv X pins σ H s):∀b∈dY X.stack,b∈X.env.locals::X.fs:=λb hb=>by
 rcases I.ok.RT with e|⟨e,hf⟩
 ·rw[e] at hb;exact zC _ hb
 ·rw[e] at hb;unfold dY at hb;rw[jC,hf] at hb;exact hb
def Inv.Q1(I:Inv X pins σ H s):∀b∈dY X.stack,H b=none:=λb hb=>by
 rcases List.mem_cons.mp (I.RK b hb) with e|hb
 ·rw[e];exact I.free
 ·let⟨_,o,ho,_⟩:=I.ok.QR.mem hb;exact I.base.free b o ho (I.ok.To b hb) λz=>I.ok.RJ b z hb
def Inv.step{g':Array GenState}{t':Nat}{d':Drawn}{ch:List Addr}(I:Inv X pins σ H s)
  (Rp:∀b∈ch,(b∈X.ex\/X.Qo.heap.objs.size<=b)/\b≠X.env.locals/\(∀x c,X.env.cells.lookup x=some c->c≠b)/\∀p∈X.pn++pins,p.1≠b)
  (keep:∀b o,b≠X.env.locals->b∉X.fs->b∉ch->s.heap.get? b=some o->H b=none->h'.get? b=some o)
  (slot:∀b o,b≠X.env.locals->b∈X.fs->b∉ch->s.heap.get? b=some o->H b=none->∃sl,h'.get? b=some { o with slots:=sl }) (free:∀b o,b∉ch->s.heap.get? b=some o->H b=none->H' b=none)
  (there:∀b o,b∉ch->s.heap.get? b=some o->∃o',h'.get? b=some o')
  (QY:∀b xs,H b=some (.tup xs)->H' b=some (.tup xs)) (QP:∀b o u,H b=some (.QK o u)->H' b=some (.QK o u)) (QQ:Iy H H' s.heap h')
  (ns:∀m,s.heap.Ns X.env.locals m->h'.Ns X.env.locals m) (Qh:ku X.prog X.w H' h') (hg:AllBare g') :
  Inv X pins σ H' { s with heap:=h',gens:=g',drawn:=d',toks:=t' }:=by
 have SX:∀b o,X.Qo.heap.get? b=some o->b≠X.env.locals:=λb o e=>yP (zP (zX e) I.ok.above);have VC:∀b o,X.Qo.heap.get? b=some o->b∉X.ex->b∉ch:=λb o e hx hb=>by
  rcases (Rp b hb).1 with z|z
  ·exact hx z
  ·exact absurd (zP (zX e) z) (qC _)
 have cellK:∀x c,X.env.cells.lookup x=some c->∀v,s.heap.IsCell c v->h'.IsCell c v:=λx c e v ⟨o,ho,hd⟩=>by
  have R3:c∉ch:=λz=>(Rp c z).2.2.1 x c e rfl;by_cases hc:c∈X.fs
  ·let⟨sl,q⟩:=slot c o (I.Tp x c e) hc R3 ho (I.Qr x c e);exact⟨_,q,hd⟩
  ·exact⟨o,keep c o (I.Tp x c e) hc R3 ho (I.Qr x c e),hd⟩
 refine⟨I.ok,I.os,hg,⟨λb o e n hb hx=>?_,λb o e n hb hx=>?_,λb o e n hx=>?_,λb o e hx=>?_,λb xs e=>QY b xs (I.base.QY b xs e),λb o xs e=>QP b o xs (I.base.QP b o xs e),I.base.QQ.trans QQ⟩,?_,λx c e=>?_,?_,λx c e=>?_,λp hp=>?_,Qh,I.len⟩
 ·exact keep b o (SX b o e) hb (VC b o e hx) (I.base.keep b o e n hb hx) (I.base.free b o e n hx)
 ·let⟨sl,e1⟩:=I.base.slot b o e n hb hx;let⟨Xq,e2⟩:=slot b _ (SX b o e) hb (VC b o e hx) e1 (I.base.free b o e n hx);exact⟨Xq,e2⟩
 ·let⟨o',e1⟩:=I.base.there b o e hx;exact free b o' (VC b o e hx) e1 (I.base.free b o e n hx)
 ·let⟨o',e1⟩:=I.base.there b o e hx;exact there b o' (VC b o e hx) e1
 ·let⟨m,hn,hl⟩:=I.loc;refine⟨m,ns m hn,λi x v e1 e2 e3=>?_⟩;let⟨u,r,l⟩:=hl i x v e1 e2 e3;refine⟨u,r,?_⟩;rcases l with l|⟨k,c,e,z⟩
  ·exact .inl l
  ·exact .inr ⟨k,c,e,cellK x c e _ z⟩
 ·let⟨v,z⟩:=I.cell x c e;exact⟨v,cellK x c e v z⟩
 ·let⟨m,⟨o,_,_,ho,_⟩,_⟩:=I.loc;exact free _ o (λz=>(Rp _ z).2.1 rfl) ho I.free
 ·let⟨v,o,ho,hd⟩:=I.cell x c e;exact free c o (λz=>(Rp c z).2.2.1 x c e rfl) ho (I.Qr x c e)
 ·let⟨e,n,ne,nf,d⟩:=I.pin p hp;have R3:p.1∉ch:=λz=>(Rp p.1 z).2.2.2 p hp rfl;exact⟨keep p.1 p.2 ne nf R3 e n,free p.1 p.2 R3 e n,ne,nf,d⟩
def Inv.un{t':Nat}(I:Inv X pins σ H s)(u:Un X.fs [] H H' s.heap h')(Qh:ku X.prog X.w H' h'):Inv X pins σ H' { s with heap:=h',toks:=t' }:=by
 let⟨m,⟨o,es,ep,ho,r⟩,_⟩:=id I.loc;let⟨sl,hL⟩:=u.any ho I.free (by simp);exact I.step (g':=s.gens) (d':=s.drawn) (ch:=[]) (λ_ z=>nomatch z) (λb o _ hb _ e n=>u.keep b o e n hb (by simp)) (λb o _ hb _ e n=>u.slot b o e n hb (by simp)) (λb o _ e n=>u.free b o e n (by simp)) (λb o _ e=>u.there b o e (by simp)) u.QY u.QP u.QQ (λm' hm=>by
  let⟨o',Uu,V5,QV,r'⟩:=hm;rw[ho] at QV;cases QV;exact⟨_,Uu,V5,hL,r'⟩) Qh I.bare
def Inv.call{t':Nat}{d':Drawn}{ch:List Addr}(I:Inv X pins σ H s)(u:Un (dY X.stack) ch H H' s.heap h')(Qh:ku X.prog X.w H' h')(hg:AllBare g')
  (Rp:∀b∈ch,(b∈X.ex\/X.Qo.heap.objs.size<=b)/\b≠X.env.locals/\(∀x c,X.env.cells.lookup x=some c->c≠b)/\∀p∈X.pn++pins,p.1≠b) :
  Inv X pins σ H' { s with heap:=h',gens:=g',drawn:=d',toks:=t' }:=by
 let⟨m,⟨o,es,ep,ho,r⟩,_⟩:=id I.loc;let⟨sl,hL⟩:=u.any ho I.free λz=>(Rp _ z).2.1 rfl;exact I.step (ch:=ch) Rp (λb o hL hb hc e n=>u.keep b o e n (λz=>(List.mem_cons.mp (I.RK b z)).elim hL hb) hc) (λb o _ _ hc e n=>u.any e n hc) (λb o hc e n=>u.free b o e n hc) (λb o hc e=>u.there b o e hc) u.QY u.QP u.QQ (λm' hm=>by
  let⟨o',Uu,V5,QV,r'⟩:=hm;rw[ho] at QV;cases QV;exact⟨_,Uu,V5,hL,r'⟩) Qh hg
def Inv.turned{t':Nat}(I:Inv X pins σ H s)(k:∀b o,b≠it->s.heap.get? b=some o->h'.get? b=some o)(hn:H it=none)(hL:it≠X.env.locals)
  (h1:it∈X.ex\/X.Qo.heap.objs.size<=it) (h2:∀x c,X.env.cells.lookup x=some c->c≠it) (h3:∀p∈X.pn++pins,p.1≠it):Inv X pins σ H { s with heap:=h',toks:=t' }:=by
 have Xr:∀b u,H b=some u->b≠it:=λb u e z=>by rw[z,hn] at e;cases e
 refine I.step (g':=s.gens) (d':=s.drawn) (ch:=[it]) (λb hb=>?_) (λb o _ _ hc e _=>k b o (λz=>hc (by simp[z])) e) (λb o _ _ hc e _=>⟨o.slots,k b o (λz=>hc (by simp[z])) e⟩) (λ_ _ _ _ n=>n)
  (λb o hc e=>⟨o,k b o (λz=>hc (by simp[z])) e⟩) (λ_ _ e=>e) (λ_ _ _ e=>e) (.kept (λb u z e=>k b u (λr=>by subst r;rcases z with ⟨q,z⟩;rw[hn] at z;cases z) e) λ_ _ e _=>e) (λm hm=>?_) (λb u e=>?_) I.bare
 ·have e:b=it:=by simpa using hb
  subst e;exact⟨h1,hL,h2,h3⟩
 ·let⟨o,es,ep,ho,r⟩:=hm;exact⟨o,es,ep,k _ o (jJ hL) ho,r⟩
 ·refine (I.Qh b u e).QG (λc v hc q=>k c v ?_ q) (λ_ q=>q) λ_ _ q _=>q;rcases hc with z|z
  ·rw[z];exact Xr b u e
  ·exact Xr c _ z
def Inv.tok(I:Inv X pins σ H s)(t:Nat):Inv X pins σ H { s with toks:=t }:=I.un (h':=s.heap) (t':=t) Un.refl I.Qh
def Inv.kept{t':Nat}(I:Inv X pins σ H s)(k:∀b u,s.heap.get? b=some u->h'.get? b=some u):Inv X pins σ H { s with heap:=h',toks:=t' }:=I.un (Un.kept k) (I.Qh.kept k)
def Inv.laid{t':Nat}(I:Inv X pins σ H s)(k:∀b u,s.heap.get? b=some u->h'.get? b=some u)(hp:s.heap.objs.size<=a)(new:cU X.prog X.w (upd H a o) h' a o) :
  Inv X pins σ (upd H a o) { s with heap:=h',toks:=t' }:=I.un (Un.laid k hp (I.Qh.fresh hp)) (I.Qh.laid k hp new)
def Inv.write{t':Nat}(I:Inv X pins σ H s)(mu:Mq (H x))(he:e=x\/H e=some (.own x))(k:∀b u,b≠e->s.heap.get? b=some u->h'.get? b=some u)(Us:∃u,h'.get? e=some u)
  (new:cU X.prog X.w (upd H x o) h' x o):Inv X pins σ (upd H x o) { s with heap:=h',toks:=t' }:=I.un (Un.write mu he k Us) (I.Qh.write mu he k Us new)
def Inv.Ri(I:Inv X pins σ H s)(h:∀p∈pins',s.heap.get? p.1=some p.2/\H p.1=none/\p.1≠X.env.locals/\p.1∉X.fs/\∀v,p.2.data≠.cell v):Inv X pins' σ H s :=
 ⟨I.ok,I.os,I.bare,I.base,I.loc,I.cell,I.free,I.Qr,λp hp=>(List.mem_append.mp hp).elim (λz=>I.pin p (qG _ z)) (h p),I.Qh,I.len⟩
def tH{N:List Str}(hN:N.Nodup){i j:Nat}(a:N[i]?=some x)(b:N[j]?=some x):i=j:=by
 let⟨h1,e1⟩:=List.getElem?_eq_some_iff.mp a;let⟨h2,e2⟩:=List.getElem?_eq_some_iff.mp b;exact (List.getElem_inj hN).mp (e1.trans e2.symm)
def lR{M:Model}{A:Around}{E:Value->Shared->Prop}{i:Nat}{Q:Unit->Shared->Prop}(I:Inv X pins σ H s)(hN:X.N.Nodup)(hi:X.N[i]?=some x)(hx:Loc X.env.scope x)(r:RelV v u)
  (h:∀s',Inv X pins (σ.set i (some v)) H s'->(∃a,Heap.SameBut a s.heap s'.heap/\(a=X.env.locals\/X.env.cells.lookup x=some a))->Q () s') (hf:X.fn x=true\/X.env.scope.names.lookup x=some .local:=by first|exact .inl rfl|exact .inr rfl|assumption):wpAny M A (storeName X.env x u) Q E s:=by
 let⟨m,hn,hl⟩:=id I.loc;have Q7:(X.env.scope.kind == .class||(X.env.scope.kind == .module&&X.env.locals != X.env.globals))=false:=by rw[I.ok.kind];rfl
 have UG:i < σ.length:=by rw[I.len];exact (List.getElem?_eq_some_iff.mp hi).1
 have Tp:=I.Tp;have tracked:∀ {a:Addr}{h':Heap},(∃o,s.heap.get? a=some o/\H a=none)->Heap.SameBut a s.heap h'->ku X.prog X.w H h':=λ{a h'} ha hs b ob e=>by
  let⟨_,_,QN⟩:=ha;refine (I.Qh b ob e).QG (λc w' hc q=>(hs.2 c ?_).trans q) (λ_ q=>q) λ_ _ q _=>q;rintro rfl;rcases hc with rfl|hc
  ·rw[QN] at e;cases e
  ·rw[QN] at hc;cases hc
 rcases hx with hk|hk
 ·refine wpAny_storeName_local hk hn (λh' Yw hs=>?_) Q7;let⟨oL,_,_,Yx,_⟩:=id hn;refine h _ ⟨I.ok,I.os,I.bare,⟨λb o e n hb hx=>?_,λb o e n hb hx=>?_,I.base.free,λb o e hx=>?_,I.base.QY,I.base.QP,I.base.QQ.trans (.kept (λb u z e=>(hs.2 b (λr=>by rcases z with ⟨q,z⟩;rw[r,I.free] at z;cases z)).trans e) λ_ _ e _=>e)⟩,⟨_,Yw,λj y v' e1 e2 e3=>?_⟩,λy c e=>?_,I.free,I.Qr,λp hp=>?_,tracked ⟨oL,Yx,I.free⟩ hs,by simpa using I.len⟩ ⟨_,hs,.inl rfl⟩
  ·exact (hs.2 b (yP (zP (zX e) I.ok.above))).trans (I.base.keep b o e n hb hx)
  ·let⟨sl,e1⟩:=I.base.slot b o e n hb hx;exact⟨sl,(hs.2 b (yP (zP (zX e) I.ok.above))).trans e1⟩
  ·let⟨o',e1⟩:=I.base.there b o e hx;exact⟨o',(hs.2 b (yP (zP (zX e) I.ok.above))).trans e1⟩
  ·by_cases hj:j=i
   ·subst hj;rw[hi] at e1;cases e1;rw[List.getElem?_set_self UG] at e2;cases e2;exact⟨u,r,.inl ⟨hk,by simp⟩⟩
   ·rw[kH (jJ hj)] at e2;let⟨u',r',q⟩:=hl j y v' e1 e2 e3;refine⟨u',r',?_⟩;rcases q with ⟨k,e⟩|⟨k,c,e,z⟩
    ·refine .inl ⟨k,?_⟩;have:y≠x:=λe=>hj (tH hN e1 (e ▸ hi));simp[this,e]
    ·exact .inr ⟨k,c,e,z.sameBut hs (Tp y c e)⟩
  ·let⟨w',z⟩:=I.cell y c e;exact⟨w',z.sameBut hs (Tp y c e)⟩
  ·let⟨e,n,ne,nf,d⟩:=I.pin p hp;exact⟨(hs.2 p.1 ne).trans e,n,ne,nf,d⟩
 ·have SY:X.fn x=true:=by
   rcases hf with z|z
   ·exact z
   ·rw[z] at hk;cases hk
  let⟨c,hc⟩:=I.ok.has x (.inl hk);let⟨w',z⟩:=I.cell x c hc;refine wpAny_storeName_cell I.ok.kind hk hc z (λh' Q2 hs=>?_);let⟨oc,Xu,V6⟩:=id z;refine h { s with heap:=h' } ⟨I.ok,I.os,I.bare,⟨λb o e n hb hx=>?_,λb o e n hb hx=>?_,I.base.free,λb o e hx=>?_,I.base.QY,I.base.QP,I.base.QQ.trans (.kept (λb u z e=>(hs.2 b (λr=>by rcases z with ⟨q,z⟩;rw[r,I.Qr x c hc] at z;cases z)).trans e) λ_ _ e _=>e)⟩,⟨m,hn.sameBut hs (jJ (Tp x c hc)),λj y v' e1 e2 e3=>?_⟩,λy c' e=>?_,I.free,I.Qr,λp hp=>?_,tracked ⟨oc,Xu,I.Qr x c hc⟩ hs,by simpa using I.len⟩ ⟨c,hs,.inr hc⟩
  ·exact (hs.2 b (yP (zP (zX e) (I.ok.TY x c SY hc)))).trans (I.base.keep b o e n hb hx)
  ·let⟨sl,e1⟩:=I.base.slot b o e n hb hx;exact⟨sl,(hs.2 b (yP (zP (zX e) (I.ok.TY x c SY hc)))).trans e1⟩
  ·let⟨o',e1⟩:=I.base.there b o e hx;exact⟨o',(hs.2 b (yP (zP (zX e) (I.ok.TY x c SY hc)))).trans e1⟩
  ·by_cases hj:j=i
   ·subst hj;rw[hi] at e1;cases e1;rw[List.getElem?_set_self UG] at e2;cases e2;exact⟨u,r,.inr ⟨.inl hk,c,hc,Q2⟩⟩
   ·rw[kH (jJ hj)] at e2;let⟨u',r',q⟩:=hl j y v' e1 e2 e3;refine⟨u',r',?_⟩;rcases q with q|⟨k,c',e,z'⟩
    ·exact .inl q
    ·refine .inr ⟨k,c',e,z'.sameBut hs ?_⟩;rintro rfl;exact hj (tH hN e1 (I.ok.inj _ _ _ e hc ▸ hi))
  ·by_cases Xv:c'=c
   ·subst Xv;exact⟨_,Q2⟩
   ·let⟨w2,z2⟩:=I.cell y c' e;exact⟨w2,z2.sameBut hs Xv⟩
  ·let⟨e,n,ne,nf,d⟩:=I.pin p hp;refine⟨(hs.2 p.1 ?_).trans e,n,ne,nf,d⟩;intro q;rw[q,Xu] at e;have q':oc=p.2:=xB e;exact d w' (by rw[<- q'];exact V6)
def uy{M:Model}{A:Around}{E:Value->Shared->Prop}(I:Inv X pins σ H s)(hN:X.N.Nodup)(hi:X.N[i]?=some x)(hx:Loc X.env.scope x)(r:RelV v u)
  (h:∀s',Inv X pins (σ.set i (some v)) H s'->Q () s') (hf:X.fn x=true\/X.env.scope.names.lookup x=some .local:=by first|exact .inl rfl|exact .inr rfl|assumption):wpAny M A (storeName X.env x u) Q E s :=
 lR I hN hi hx r (λs' I' _=>h s' I') hf
def Inv.Tq{ch:List Addr}(I:Inv X pins σ H s)(ho:s'.os=s.os)(u:Un (dY X.stack) ch H H' s.heap s'.heap)(Qh:ku X.prog X.w H' s'.heap)(hg:AllBare s'.gens)
  (Rp:∀b∈ch,(b∈X.ex\/X.Qo.heap.objs.size<=b)/\b≠X.env.locals/\(∀x c,X.env.cells.lookup x=some c->c≠b)/\∀p∈X.pn++pins,p.1≠b):Inv X pins σ H' s':=by
 let⟨h',g',d',t',o'⟩:=s';have e:o'=s.os:=ho;subst e;exact I.call (g':=g') (t':=t') (d':=d') u Qh hg Rp
abbrev XK:=Value->Option Addr->Hp->Prop
abbrev St:=List (Option V)
abbrev VK:=V->Hp->Prop
abbrev TE:=St->Hp->VK->Prop
abbrev TT:=St->Hp->(Bool->Hp->Prop)->Prop
abbrev TA:=St->Hp->(List V->Hp->Prop)->Prop
structure Ends where
 nx:St->Hp->Prop
 rt:VK
 bk:St->Hp->Prop:=λ_ _=>False
 ct:St->Hp->Prop:=λ_ _=>False
abbrev TS:=Ends->St->Hp->Prop
def EP(X:Cx)(pins:List (Addr×Obj))(σ:St)(Q:VK)(u:Value)(s':Shared):Prop:=∃v H',Inv X pins σ H' s'/\RelV v u/\Q v H'
def TP(X:Cx)(pins:List (Addr×Obj))(σ:St)(Q:Bool->Hp->Prop)(b:Bool)(s':Shared):Prop:=∃H',Inv X pins σ H' s'/\Q b H'
def AP(X:Cx)(pins:List (Addr×Obj))(σ:St)(Q:List V->Hp->Prop)(us:List Value)(s':Shared):Prop:=∃vs H',Inv X pins σ H' s'/\aA vs us/\Q vs H'
def SP(X:Cx)(pins:List (Addr×Obj))(D:Ends)(f:Flow)(s':Shared):Prop :=
 match f with
 | .next=>∃σ' H',Inv X pins σ' H' s'/\D.nx σ' H'
 | .brk=>∃σ' H',Inv X pins σ' H' s'/\D.bk σ' H'
 | .cont=>∃σ' H',Inv X pins σ' H' s'/\D.ct σ' H'
 | .ret u=>∃v σ' H',Inv X pins σ' H' s'/\RelV v u/\D.rt v H'
def PE(X:Cx)(e:Expr)(t:TE):Prop :=
 ∀ (pins:List (Addr×Obj)) (s:Shared) (σ:St) (H:Hp) (Q:VK),Inv X pins σ H s->t σ H Q->wpAny (model X.prog X.w) X.A (eval e X.env) (EP X pins σ Q) X.xe s
def PT(X:Cx)(e:Expr)(t:TT):Prop :=
 ∀ (pins:List (Addr×Obj)) (s:Shared) (σ:St) (H:Hp) (Q:Bool->Hp->Prop),Inv X pins σ H s->t σ H Q->wpAny (model X.prog X.w) X.A (isTrue e X.env (eval e X.env)) (TP X pins σ Q) X.xe s
def PW(X:Cx)(e:Expr)(t:TT):Prop :=
 ∀ (whole:Sem Value) (pins:List (Addr×Obj)) (s:Shared) (σ:St) (H:Hp) (Q:Bool->Hp->Prop),Inv X pins σ H s->t σ H Q->wpAny (model X.prog X.w) X.A (isTrue e X.env whole) (TP X pins σ Q) X.xe s
def PW.pt(h:PW X e t):PT X e t:=h _
def PA(X:Cx)(es:List Expr)(t:TA):Prop :=
 ∀ (pos:Pos) (pins:List (Addr×Obj)) (s:Shared) (σ:St) (H:Hp) (Q:List V->Hp->Prop),Inv X pins σ H s->t σ H Q->wpAny (model X.prog X.w) X.A (spliced (backTo pos (starEach es X.env))) (AP X pins σ Q) X.xe s
def PS(X:Cx)(st:Stmt)(t:TS):Prop :=
 ∀ (pins:List (Addr×Obj)) (s:Shared) (σ:St) (H:Hp) (D:Ends),Inv X pins σ H s->t D σ H->wpAny (model X.prog X.w) X.A (exec st X.env) (SP X pins D) X.xe s
def ou(X:Cx)(st:List Stmt)(t:TS):Prop :=
 ∀ (pins:List (Addr×Obj)) (s:Shared) (σ:St) (H:Hp) (D:Ends),Inv X pins σ H s->t D σ H->wpAny (model X.prog X.w) X.A (execs st X.env) (SP X pins D) X.xe s
def bC(h:wpAny M A t Q E s)(hQ:∀a s,Q a s->Q' a s):wpAny M A t Q' E s:=yY h hQ λ_ _ x=>x
section
def OC(i:Nat):TE:=λσ H Q=>∃v,σ[i]?=some (some v)/\Q v H
def tC(v:V):TE:=λ_ H Q=>Q v H
def ja(hN:X.N[i]?=some x)(hv:FC X.env.scope x)(hd:(x == ("__debug__":Str))=false:=by decide)(QW:(x == ("__classdict__":Str))=false:=by decide):PE X (.Name x pos) (OC i):=by
 intro pins s σ H Q I h;let⟨v,e,h⟩:=h;let⟨m,hn,hl⟩:=I.loc;let⟨u,r,l⟩:=hl i x v hN e hv;have fin:EP X pins σ Q u s:=⟨v,H,I,r,h⟩
 rcases l with ⟨hk,hm⟩|⟨hk,c,hc,Ts⟩
 ·exact wpAny_Name (wpAny_loadName_local I.ok.kind hk hn hm fin) hd
 ·rcases hk with hk|hk
  ·exact wpAny_Name (wpAny_loadName_cell I.ok.kind hk hc Ts fin) hd
  ·exact wpAny_Name (wpAny_loadName_free I.ok.kind hk hc Ts fin QW) hd
def wR{i j pos}:PE X (.Constant (.int i) j pos) (tC (.int i)):=λ_ _ _ H _ I h=>wpAny_Constant_int ⟨.int i,H,I.tok _,⟨_,rfl⟩,h⟩
def IA{b j pos}:PE X (.Constant (.bool b) j pos) (tC (.bl b)):=λ_ _ _ H _ I h=>Constant_bool ⟨.bl b,H,I,rfl,h⟩
def D0{j pos}:PE X (.Constant .none j pos) (tC .Qb):=λ_ _ _ H _ I h=>Constant_none ⟨.Qb,H,I,rfl,h⟩
def Kl{x j pos}:PE X (.Constant (.str x) j pos) (tC (.str x)):=λ_ _ _ H _ I h=>vR ⟨.str x,H,I.tok _,⟨_,rfl⟩,h⟩
def Gl(X:Cx)(x:Str):Prop:=X.env.kindOf x=some .globalImplicit
def kq{E:Value->Shared->Prop}{pos:Pos}(I:Inv X pins σ H s)(hg:Gl X x)(hm:X.mg x=some u)(h:Q u s)
  (hd:(x == ("__debug__":Str))=false:=by decide):wpAny (model X.prog X.w) X.A (eval (.Name x pos) X.env) Q E s :=
 Calls.Name_function_global I.ok.kind hg (Calls.loadGlobal_global (by rw[I.ok.glob];exact I.mod.glob.keeps I.bk) hm h) hd
def gL{E:Value->Shared->Prop}{pos:Pos}(I:Inv X pins σ H s)(hg:Gl X x)(hm:X.mg x=none)(hv:bootBuiltins x=some u)(h:Q u s)
  (hn:x≠"__name__":=by decide) (hd:(x == ("__debug__":Str))=false:=by decide):wpAny (model X.prog X.w) X.A (eval (.Name x pos) X.env) Q E s:=by
 let⟨mb,h1,h2⟩:=I.mod.blt;exact Calls.Name_function_global I.ok.kind hg (Calls.loadGlobal_builtin (by rw[I.ok.glob];exact I.mod.glob.keeps I.bk) hm (by rw[I.ok.blt];exact h1.keeps I.bk) ((h2 x hn).trans hv) h) hd
def zu(hg:Gl X x)(hm:X.mg x=some u)(r:RelV v u)(hd:(x == ("__debug__":Str))=false:=by decide):PE X (.Name x pos) (tC v) :=
 λ_ _ _ H _ I h=>kq I hg hm ⟨v,H,I,r,h⟩ hd
def GF(hg:Gl X x)(hm:X.mg x=none)(hv:bootBuiltins x=some u)(r:RelV v u)(hn:x≠"__name__":=by decide)(hd:(x == ("__debug__":Str))=false:=by decide):PE X (.Name x pos) (tC v) :=
 λ_ _ _ H _ I h=>gL I hg hm hv ⟨v,H,I,r,h⟩ hn hd
def EZ(b:Expr)(h:op≠.In)(h2:op≠.NotIn):behindInMarks op b=false:=by
 have e1:(op == CmpOp.In)=false:=by cases op<;>first|rfl|exact absurd rfl h
 have e2:(op == CmpOp.NotIn)=false:=by cases op<;>first|rfl|exact absurd rfl h2
 cases b<;>simp[behindInMarks,e1,e2]
def tB(t:TE):TT:=λσ H Q=>t σ H λx H1=>∃c,x=.bl c/\Q c H1
def Es(h:PE X e t)(he:∀whole,isTrue e X.env whole=(do let v <- whole;standAt e.pos;holding [v] (truthy v)):=by intro _;rfl):PT X e (tB t):=by
 intro pins s σ H Q I hw;refine isTrue_plain (bC (h pins s σ H _ I hw) λv s1 ⟨x,H1,I1,r1,q1⟩=>?_) (he _);let⟨d,rfl,q⟩:=q1;cases r1;exact xU ⟨H1,I1,q⟩
variable {rest:List Expr}
def ND(t u:TT):TT:=λσ H Q=>t σ H λc H1=>if c=true then u σ H1 Q else Q false H1
def Pp(t u:TT):TT:=λσ H Q=>t σ H λc H1=>if c=true then Q true H1 else u σ H1 Q
def OF(t:TT):TT:=λσ H Q=>t σ H λc H1=>Q (!c) H1
def zm(ha:PT X a tA):PW X (.BoolOp .And [a] pos) tA:=by
 intro wh pins s σ H Q I h;refine isTrue_and (bC (ha pins s σ H Q I h) λc s1 e=>?_);cases c with
 | true=>exact isTrue_and_nil e
 | false=>exact e
def Ka(ha:PT X a tA):PW X (.BoolOp .Or [a] pos) tA:=by
 intro wh pins s σ H Q I h;refine isTrue_or (bC (ha pins s σ H Q I h) λc s1 e=>?_);cases c with
 | false=>exact isTrue_or_nil e
 | true=>exact e
def Dh(ha:PT X a tA)(hb:PW X (.BoolOp .And (b::rest) pos) V7):PW X (.BoolOp .And (a::b::rest) pos) (ND tA V7):=by
 intro wh pins s σ H Q I h;refine isTrue_and (bC (ha pins s σ H _ I h) λc s1 ⟨H1,I1,q1⟩=>?_);cases c with
 | true=>exact hb wh pins s1 σ H1 Q I1 q1
 | false=>exact⟨H1,I1,q1⟩
def MP(ha:PT X a tA)(hb:PW X (.BoolOp .Or (b::rest) pos) V7):PW X (.BoolOp .Or (a::b::rest) pos) (Pp tA V7):=by
 intro wh pins s σ H Q I h;refine isTrue_or (bC (ha pins s σ H _ I h) λc s1 ⟨H1,I1,q1⟩=>?_);cases c with
 | true=>exact⟨H1,I1,q1⟩
 | false=>exact hb wh pins s1 σ H1 Q I1 q1
def JE(ha:PT X a tA):PT X (.UnaryOp .Not a pos) (OF tA):=by
 intro pins s σ H Q I h;exact isTrue_not (ha pins s σ H (λc H1=>Q (!c) H1) I h)
def Mh(ta tb:TE):TE:=λσ H Q=>ta σ H λx H1=>∃c,x=.bl c/\if c=true then tb σ H1 Q else Q (.bl false) H1
def Os(ta tb:TE):TE:=λσ H Q=>ta σ H λx H1=>∃c,x=.bl c/\if c=true then Q (.bl true) H1 else tb σ H1 Q
def JY{op}(h:PE X a t):PE X (.BoolOp op [a] pos) t:=λpins s σ H Q I hw=>BoolOp_one (h pins s σ H Q I hw)
def IY(ha:PE X a ta)(hb:PE X (.BoolOp .And (b::rest) pos) tb):PE X (.BoolOp .And (a::b::rest) pos) (Mh ta tb):=by
 intro pins s σ H Q I h;refine BoolOp_and (bC (ha pins s σ H _ I h) λv s1 ⟨x,H1,I1,r1,q1⟩=>?_);let⟨c,rfl,q1⟩:=q1;cases r1;refine xU ?_;cases c with
 | true=>exact hb pins s1 σ H1 Q I1 q1
 | false=>exact⟨.bl false,H1,I1,rfl,q1⟩
def D2(ha:PE X a ta)(hb:PE X (.BoolOp .Or (b::rest) pos) tb):PE X (.BoolOp .Or (a::b::rest) pos) (Os ta tb):=by
 intro pins s σ H Q I h;refine BoolOp_or (bC (ha pins s σ H _ I h) λv s1 ⟨x,H1,I1,r1,q1⟩=>?_);let⟨c,rfl,q1⟩:=q1;cases r1;refine xU ?_;cases c with
 | false=>exact hb pins s1 σ H1 Q I1 q1
 | true=>exact⟨.bl true,H1,I1,rfl,q1⟩
def PH(t:TT)(ta tb:TE):TE:=λσ H Q=>t σ H λc H1=>if c=true then ta σ H1 Q else tb σ H1 Q
def ug(hc:PT X c tA)(ha:PE X a ta)(hb:PE X b tb):PE X (.IfExp c a b pos) (PH tA ta tb):=by
 intro pins s σ H Q I h;refine wpAny_IfExp (bC (hc pins s σ H _ I h) λd s1 ⟨H1,I1,q1⟩=>?_);cases d with
 | true=>exact ha pins s1 σ H1 Q I1 q1
 | false=>exact hb pins s1 σ H1 Q I1 q1
end
def eH(K:W.Frag)(H:Hp)(a:Addr)(xs:List V):Prop :=
 Rd H a (.lst xs) \/
  ∃ (o:Obj) (its:Array Value) (n:Nat),K.lookup a=some o/\o.cls=.type "list"/\o.dict=none/\o.data=.seq its n/\its.size<=sizeLine/\aA xs its.toList
def eE(K:W.Frag)(H:Hp)(a:Addr)(xs:List V):Prop :=
 Rd H a (.tup xs) \/
  ∃ (o:Obj) (its:Array Value) (n:Nat),K.lookup a=some o/\o.cls=.type "tuple"/\o.dict=none/\o.data=.seq its n/\its.size<=sizeLine/\aA xs its.toList
def OT:Value->Option V
 | .none=>some .Qb
 | .bool b=>some (.bl b)
 | .int i _=>some (.int i)
 | .str x _=>some (.str x)
 | .bytes b _=>some (.V0 b)
 | .float b _=>some (.V1 b)
 | .ref a=>some (.ref a)
 | .type n=>some (.ty n)
 | _=>none
def RelV.abs(r:RelV x u):OT u=some x:=by
 cases x with
 | Qb=>cases r;rfl
 | bl _=>cases r;rfl
 | int _=>let⟨t,rfl⟩:=r;rfl
 | str _=>let⟨t,rfl⟩:=r;rfl
 | V0 _=>let⟨t,rfl⟩:=r;rfl
 | V1 _=>let⟨t,rfl⟩:=r;rfl
 | ref _=>cases r;rfl
 | ty _=>cases r;rfl
def RelV.inj(r:RelV x u)(q:RelV y u):x=y:=xB (r.abs.symm.trans q.abs)
def aA.inj:∀ {xs ys:List V}{us:List Value},aA xs us->aA ys us->xs=ys
 | _,_,_,.nil,.nil=>rfl
 | _,_,_,.cons r t,.cons r' t'=>by rw[r.inj r',aA.inj t t']
def eH.of{K:W.Frag}(h:H a=some (.lst xs)):eH K H a xs:=.inl (.inl h)
def Inv.list(I:Inv X pins σ H s)(h:eH X.K H a xs):∃its:List Value,aA xs its/\PlainL s.heap a its.toArray/\xs.length<=sizeLine:=by
 rcases h with h|⟨o,its,n,hk,hc,hd,hs,hz,r⟩
 ·let⟨z,its,n,r,e⟩:=h.ok I.Qh;exact⟨its,r,⟨_,n,e,rfl,rfl,rfl⟩,z⟩
 ·refine⟨its.toList,r,⟨o,n,I.RF a o hk,hc,hd,by simpa using hs⟩,?_⟩;have e:=r.length;simp?[vN] at e;lia
def Inv.tuple(I:Inv X pins σ H s)(h:eE X.K H a xs):∃its:List Value,aA xs its/\IsTup s.heap a its.toArray/\xs.length<=sizeLine:=by
 rcases h with h|⟨o,its,n,hk,hc,_,hs,hz,r⟩
 ·let⟨z,its,r,p⟩:=h.ok I.Qh;exact⟨its,r,p.1,z⟩
 ·refine⟨its.toList,r,⟨o,I.RF a o hk,hc,n,by simpa using hs⟩,?_⟩;have e:=r.length;simp?[vN] at e;lia
def Inv.Rv(I:Inv X pins σ H s)(h:eH X.K H a xs)(h':eH X.K H a ys):xs=ys:=by
 let⟨its,r,⟨o,n,e,_,_,d⟩,_⟩:=I.list h;let⟨its',r',⟨o',n',e',_,_,d'⟩,_⟩:=I.list h';rw[e] at e';cases e';rw[d] at d';injection d' with d1 _
 have:its=its':=by simpa using qY Array.toList d1
 subst this;exact r.inj r'
def Inv.Rh(I:Inv X pins σ H s)(h:eE X.K H a xs)(h':eE X.K H a ys):xs=ys:=by
 let⟨its,r,⟨o,e,_,n,d⟩,_⟩:=I.tuple h;let⟨its',r',⟨o',e',_,n',d'⟩,_⟩:=I.tuple h';rw[e] at e';cases e';rw[d] at d';injection d' with d1 _
 have:its=its':=by simpa using qY Array.toList d1
 subst this;exact r.inj r'
abbrev Cx.Qw(X:Cx)(E:Value->Shared->Prop):Cx:={ X with xe:=E }
abbrev Cx.Qu(X:Cx):Cx:=X.Qw λ_ _=>False
def Cx.Ok.Qw{X:Cx}(ok:X.Ok)(E:Value->Shared->Prop):(X.Qw E).Ok :=
 ⟨ok.mod,ok.kind,ok.glob,ok.blt,ok.above,ok.inj,ok.has,ok.TY,ok.hd,ok.frames,ok.RT,ok.Ut,ok.bs,ok.SW,ok.Ru,ok.RJ,ok.QR,ok.To⟩
def Cx.Ok.Ql{X:Cx}{E:Value->Shared->Prop}(ok:(X.Qw E).Ok):X.Ok :=
 ⟨ok.mod,ok.kind,ok.glob,ok.blt,ok.above,ok.inj,ok.has,ok.TY,ok.hd,ok.frames,ok.RT,ok.Ut,ok.bs,ok.SW,ok.Ru,ok.RJ,ok.QR,ok.To⟩
def Inv.Qw(I:Inv X pins σ H s)(E:Value->Shared->Prop):Inv (X.Qw E) pins σ H s:=⟨I.ok.Qw E,I.os,I.bare,I.base,I.loc,I.cell,I.free,I.Qr,I.pin,I.Qh,I.len⟩
def Inv.Ql(I:Inv (X.Qw E) pins σ H s):Inv X pins σ H s:=⟨I.ok.Ql,I.os,I.bare,I.base,I.loc,I.cell,I.free,I.Qr,I.pin,I.Qh,I.len⟩
def SP.Ql{D:Ends}(h:SP (X.Qw E) pins D f s'):SP X pins D f s':=by
 cases f with
 | next=>let⟨σ',H',I,q⟩:=h;exact⟨σ',H',I.Ql,q⟩
 | brk=>let⟨σ',H',I,q⟩:=h;exact⟨σ',H',I.Ql,q⟩
 | cont=>let⟨σ',H',I,q⟩:=h;exact⟨σ',H',I.Ql,q⟩
 | ret u=>let⟨v,σ',H',I,r,q⟩:=h;exact⟨v,σ',H',I.Ql,r,q⟩
def PT.Qu(h:PT X.Qu e t):PT X e t:=λpins s σ H Q I hw =>
 yY (h pins s σ H Q (I.Qw _) hw) (λ_ _ ⟨H',I',q⟩=>⟨H',I'.Ql,q⟩) λ_ _ z=>False.elim z
def ou.Qu{st:List Stmt}(h:ou X.Qu st t):ou X st t:=λpins s σ H D I hw =>
 yY (h pins s σ H D (I.Qw _) hw) (λ_ _ q=>q.Ql) λ_ _ z=>False.elim z
section
variable {st:Stmt}{rest:List Stmt}
def C3:TS:=λD σ H=>D.nx σ H
def NT(t u:TS):TS:=λD σ H=>t { D with nx:=u D } σ H
def mQ:ou X [] C3:=λ_ _ σ H _ I h=>vB ⟨σ,H,I,h⟩
def gV(h1:PS X st t)(h2:ou X rest u):ou X (st::rest) (NT t u):=by
 intro pins s σ H D I h;refine wpAny_execs_cons (bC (h1 pins s σ H { D with nx:=u D } I h) λf s1 q=>?_);cases f with
 | next =>
  let⟨σ',H',I',q⟩:=q;exact h2 pins s1 σ' H' D I' q
 | ret v=>exact q
 | brk=>exact q
 | cont=>exact q
def FR(h1:PS X st t):ou X [st] t:=by
 intro pins s σ H D I h;refine wpAny_execs_cons (bC (h1 pins s σ H D I h) λf s1 q=>?_);cases f with
 | next=>exact vB q
 | ret v=>exact q
 | brk=>exact q
 | cont=>exact q
def FZ:PS X (.Pass pos) C3:=λ_ _ σ H _ I h=>wpAny_Pass ⟨σ,H,I,h⟩
def Inv.quiet(I:Inv X pins σ H s):interactive X.env=false:=by simp[interactive,I.ok.kind]
def Le{x j pos pos'}:PS X (.Expr (.Constant (.str x) j pos) pos') C3:=λ_ s σ H _ I h=>wpAny_Expr (vR (show SP X _ _ .next { s with toks:=s.toks+1 } from ⟨σ,H,I.tok _,h⟩)) I.quiet
def MK(te:TE):TS:=λD σ H=>te σ H λ_ H1=>D.nx σ H1
def kg(he:PE X e te)(hs:swapsWith e none pos.line X.env=pure false:=by rfl):PS X (.Expr e pos) (MK te):=by
 intro pins s σ H D I h;exact wpAny_Expr_any (bC (he pins s σ H _ I h) λv s1 ⟨x,H1,I1,r1,q1⟩=>⟨σ,H1,I1,q1⟩) I.quiet hs
def Oc(te:TE):TS:=λD σ H=>te σ H D.rt
def vh(he:PE X e te):PS X (.Return (some e) pos) (Oc te):=by
 intro pins s σ H D I h;exact wpAny_Return_some (bC (he pins s σ H _ I h) λv s1 ⟨x,H1,I1,r1,q1⟩=>⟨x,σ,H1,I1,r1,q1⟩)
def OJ(c:TT)(t u:TS):TS:=λD σ H=>c σ H λb H1=>if b=true then t D σ H1 else u D σ H1
def ER(hc:PT X c tc)(ha:ou X a t)(hb:ou X b u):PS X (.If c a b pos) (OJ tc t u):=by
 intro pins s σ H D I h;refine wpAny_If (bC (hc pins s σ H _ I h) λd s1 ⟨H1,I1,q1⟩=>?_);cases d with
 | true=>exact ha pins s1 σ H1 D I1 q1
 | false=>exact hb pins s1 σ H1 D I1 q1
end
abbrev TG:=V->St->Hp->(St->Hp->Prop)->Prop
abbrev MY:=List V->St->Hp->(St->Hp->Prop)->Prop
def PG(X:Cx)(target:Expr)(t:TG):Prop :=
 ∀ (pins:List (Addr×Obj)) (s:Shared) (σ:St) (H:Hp) (v:V) (u:Value) (Q:St->Hp->Prop),Inv X pins σ H s->RelV v u->t v σ H Q ->
  wpAny (model X.prog X.w) X.A (assign target X.env u) (λ_ s'=>∃σ' H',Inv X pins σ' H' s'/\Q σ' H') X.xe s
def Nl(X:Cx)(ts:List Expr)(t:MY):Prop :=
 ∀ (pins:List (Addr×Obj)) (s:Shared) (σ:St) (H:Hp) (vs:List V) (us:List Value) (Q:St->Hp->Prop),Inv X pins σ H s->aA vs us->t vs σ H Q ->
  wpAny (model X.prog X.w) X.A (assignInOrder ((assignEach ts X.env).map (·.2)) us) (λ_ s'=>∃σ' H',Inv X pins σ' H' s'/\Q σ' H') X.xe s
abbrev MX:=V->V->V->Hp->(Hp->Prop)->Prop
def KQ(X:Cx)(t:MX):Prop :=
 ∀ (pins:List (Addr×Obj)) (s:Shared) (σ:St) (H:Hp) (o i v:V) (ov iv u:Value) (Q:Hp->Prop),Inv X pins σ H s->RelV o ov->RelV i iv->RelV v u->t o i v H Q ->
  wpAny (model X.prog X.w) X.A (setItem ov iv u) (λ_ s'=>∃H',Inv X pins σ H' s'/\Q H') X.xe s
def tw(i:Nat):TG:=λv σ H Q=>Q (σ.set i (some v)) H
def cO(hN:X.N.Nodup)(hi:X.N[i]?=some x)(hx:Loc X.env.scope x)(hf:X.fn x=true\/X.env.scope.names.lookup x=some .local:=by first|exact .inl rfl|exact .inr rfl|assumption):PG X (.Name x pos) (tw i):=by
 intro pins s σ H v u Q I r h;exact wpAny_assign_Name (uy I hN hi hx r (λs' I'=>⟨_,H,I',h⟩) hf)
def N1:MY:=λvs σ H Q=>vs=[]/\Q σ H
def Mz(t:TG)(u:MY):MY:=λvs σ H Q=>∃v r,vs=v::r/\t v σ H λσ' H'=>u r σ' H' Q
def mX:Nl X [] N1:=by
 intro pins s σ H vs us Q I r h;let⟨e,h⟩:=h;subst e;cases r;exact assignInOrder_nil ⟨σ,H,I,h⟩
def cL(h1:PG X e t)(h2:Nl X es u)
  (hs:(assignEach (e::es) X.env).map (·.2)=assign e X.env::(assignEach es X.env).map (·.2):=by rfl):Nl X (e::es) (Mz t u):=by
 intro pins s σ H vs us Q I r h;let⟨v,vr,e1,h⟩:=h;subst e1;cases r with
 | cons r rr =>
  rw[hs];refine assignInOrder_cons (bC (h1 pins s σ H _ _ _ I r h) λ_ s1 ⟨Uv,H1,I1,q1⟩=>?_);exact h2 pins s1 Uv H1 _ _ Q I1 rr q1
def Ou(K:W.Frag)(n:Nat)(t:MY):TG:=λv σ H Q=>∃a xs,v=.ref a/\eE K H a xs/\xs.length=n/\t xs σ H Q
def sr{k:Nat}(hc:X.calm=true)(h:Nl X es t)
  (hn:(assignEach es X.env).length=n:=by rfl) (RG:(assignEach es X.env).findIdx? (·.1)=none:=by rfl):PG X (.Tuple es k pos) (Ou X.K n t):=by
 intro pins s σ H v u Q I r hw;let⟨a,xs,e1,hq,hl,hw⟩:=hw;subst e1;cases r;let⟨its,rv,ht,hz⟩:=I.tuple hq;refine assign_Tuple_tuple (I.ok.hd hc) ht (by simp[hn,<- hl,rv.length]) RG λh' hx=>?_;have I1:Inv X pins σ H { s with heap:=h' }:=I.kept (t':=s.toks) λb o e=>hx b o (yP (zX e)) e;exact h pins _ σ H xs _ Q I1 (by simpa using rv) hw
def ir(to ti:TE)(t:MX):TG:=λv σ H Q=>to σ H λo H1=>ti σ H1 λi H2=>t o i v H2 λH3=>Q σ H3
def BM(ho:PE X o to)(hi:PE X i ti)(hs:KQ X t)
  (ha:∀v,assign (.Subscript o i pos) X.env v=(do
   let ov <- holding [v] (eval o X.env)
   let iv <- holding [v,ov] (eval i X.env)
   standAt pos
   holding [v,ov,iv] (setItem ov iv v)
   release [v,ov,iv] []):=by intro _;rfl):PG X (.Subscript o i pos) (ir to ti t):=by
 intro pins s σ H v u Q I r h;rw[ha];refine zU (xV (bC (ho pins s σ H _ I h) λov s1 ⟨x,H1,I1,r1,q1⟩=>?_));refine zU (xV (bC (hi pins s1 σ H1 _ I1 q1) λiv s2 ⟨y,H2,I2,r2,q2⟩=>?_));refine zU (wpAny_standAt (zU (xV (bC (hs pins s2 σ H2 x y v ov iv u _ I2 r1 r2 r q2) λ_ s3 ⟨H3,I3,q3⟩=>?_))));exact wpAny_release ⟨σ,H3,I3,q3⟩
def Cr(te:TE)(g:TG):TS:=λD σ H=>te σ H λx H1=>g x σ H1 D.nx
def Di(he:PE X e te)(hg:PG X tg g)(hs:swapsWithSole [tg] e pos.line X.env=pure false:=by rfl)(hw:swappedStores [tg] e X.env=pure none:=by rfl)
  (h1:(assignEach [tg] X.env).map (·.2)=[assign tg X.env]:=by rfl):PS X (.Assign [tg] e pos) (Cr te g):=by
 intro pins s σ H D I h;refine wpAny_Assign_stores (bC (he pins s σ H _ I h) λv s1 ⟨x,H1,I1,r1,q1⟩=>?_) hs hw;rw[h1];exact bC (hg pins s1 σ H1 x v _ I1 r1 q1) λ_ s2 q=>q
def oD(hN:X.N.Nodup)(hi:X.N[i]?=some x)(hx:Loc X.env.scope x)(he:PE X e te)(hs:swapsWith e (some (.Name x pos')) pos.line X.env=pure false:=by rfl)(hf:X.fn x=true\/X.env.scope.names.lookup x=some .local:=by first|exact .inl rfl|exact .inr rfl|assumption) :
  PS X (.Assign [.Name x pos'] e pos) (Cr te (tw i)):=by
 intro pins s σ H D I h;refine wpAny_Assign_Name (bC (he pins s σ H _ I h) λv s1 ⟨y,H1,I1,r1,q1⟩=>?_) hs;exact uy I1 hN hi hx r1 (λs2 I2=>⟨_,H1,I2,q1⟩) hf
def JQ(c:TT)(tb:TS):TS:=λD σ H=>∃W:Nat->St->Hp->Prop,(∃m,W m σ H)/\∀m σ H,W m σ H ->
 c σ H λb H1=>if b=true then ∃N:St->Hp->Prop,(∀σ' H',N σ' H'->∃m',m' < m/\W m' σ' H')/\tb { D with nx:=N,ct:=N,bk:=D.nx } σ H1 else D.nx σ H1
def EH(hp:PassesOwn (model X.prog X.w) X.A X.env X.xe)(hc:PT X c tc)(hb:ou X body tb):PS X (.While c body [] pos) (JQ tc tb):=by
 intro pins s σ H D I h;let⟨W,⟨m0,w0⟩,turn⟩:=h;refine wpAny_While (codeAny_whileLoop (λn s'=>∃σ' H',Inv X pins σ' H' s'/\W n σ' H') ?_ m0 ⟨σ,H,I,w0⟩);rintro n s1 ⟨Uv,H1,I1,w1⟩;refine jG hp (bC (hc pins s1 Uv H1 _ I1 (turn n Uv H1 w1)) λb s2 ⟨H2,I2,q2⟩=>?_);cases b with
 | true =>
  let⟨N,hN,q2⟩:=q2;rw[yJ rfl];refine jG hp (bC (hb pins s2 Uv H2 _ I2 q2) λf s3 q3=>?_);cases f with
  | next =>
   let⟨Q8,H3,I3,n3⟩:=q3;let⟨m',hm,w3⟩:=hN Q8 H3 n3;exact⟨m',hm,Q8,H3,I3,w3⟩
  | cont =>
   let⟨Q8,H3,I3,n3⟩:=q3;let⟨m',hm,w3⟩:=hN Q8 H3 n3;exact⟨m',hm,Q8,H3,I3,w3⟩
  | brk=>exact q3
  | ret v=>exact q3
 | false =>
  rw[yL yX];exact vB ⟨Uv,H2,I2,q2⟩
structure It where
 go:Nat->Hp->Prop
 SK:Nat->Hp->V->Hp->Prop
 stop:Nat->Hp->Prop
def fP(X:Cx)(pins:List (Addr×Obj))(H:Hp)(b:Addr):Prop :=
 H b=none/\b≠X.env.locals/\b∉X.fs/\(b∈X.ex\/X.Qo.heap.objs.size<=b)/\(∀x c,X.env.cells.lookup x=some c->c≠b)/\∀p∈X.pn++pins,p.1≠b
def Inv.Q9(I:Inv X pins σ H s)(hb:s.heap.objs.size<=b)(hn:H' b=none):fP X pins H' b:=by
 refine⟨hn,jE (zP I.lt hb),I.V4 hb,.inr (yC I.sz hb),λx c e z=>?_,λp hp z=>?_⟩
 ·let⟨v,q⟩:=I.cell x c e;exact absurd (zP q.lt (by rw[z];exact hb)) (qC _)
 ·exact absurd (zP (zX (I.pin p hp).1) (by rw[z];exact hb)) (qC _)
structure Turn(P:Program)(w:World)(K:W.Frag)(tg:Expr)(J:It)(fp:List Addr)(it:Addr)(tn:Nat->Heap->Prop):Prop where
 mem:it∈fp
 obj:∀i h,tn i h->∀b∈fp,∃o,h.get? b=some o/\∀v,o.data≠.cell v
 keep:∀i h h',tn i h->(∀b∈fp,∀o,h.get? b=some o->h'.get? b=some o)->tn i h'
 item:∀ (X:Cx),X.prog=P->X.w=w->X.K=K->X.calm=true->∀ (i:Nat) (pins:List (Addr×Obj)) (s:Shared) (σ:St) (H:Hp) (E:Value->Shared->Prop),Inv X pins σ H s->(∀b∈fp,fP X pins H b)->tn i s.heap->J.go i H ->
  wpAny (model P w) X.A (pyNext (.ref it)) (λr s1=>∃u,r=some u /\
   wpAny (model P w) X.A (letOwnedTupleGo tg (.ref it) u) (λ_ s2=>∃x H',Inv X pins σ H' s2/\RelV x u/\J.SK i H x H'/\tn (i+1) s2.heap/\∀b∈fp,H' b=none) E s1) E s
 done:∀ (X:Cx),X.prog=P->X.w=w->X.K=K->X.calm=true->∀ (i:Nat) (pins:List (Addr×Obj)) (s:Shared) (σ:St) (H:Hp) (E:Value->Shared->Prop),Inv X pins σ H s->(∀b∈fp,fP X pins H b)->tn i s.heap->J.stop i H ->
  wpAny (model P w) X.A (pyNext (.ref it)) (λr s1=>r=none/\Inv X pins σ H s1) E s
 self:∀ (A:Around) (i:Nat) (s:Shared) (Q:Value->Shared->Prop) (E:Value->Shared->Prop),tn i s.heap->Q (.ref it) s->wpAny (model P w) A (pyIter (.ref it)) Q E s
abbrev TI:=St->Hp->(It->Hp->Prop)->Prop
def NM(X:Cx)(pins:List (Addr×Obj))(σ:St)(tg:Expr)(R:It->Hp->Prop)(UH:Value)(s2:Shared):Prop :=
 ∃ (it:Addr) (fp:List Addr) (tn:Nat->Heap->Prop) (J:It) (H':Hp),UH=.ref it/\Inv X pins σ H' s2/\Turn X.prog X.w X.K tg J fp it tn/\tn 0 s2.heap/\(∀b∈fp,fP X pins H' b)/\R J H'
def PI(X:Cx)(tg iter:Expr)(wi:TI):Prop :=
 ∀ (pins:List (Addr×Obj)) (s:Shared) (σ:St) (H:Hp) (R:It->Hp->Prop),Inv X pins σ H s->wi σ H R ->
  wpAny (model X.prog X.w) X.A (eval iter X.env) (λv s1=>wpAny (model X.prog X.w) X.A (pyIter v) (NM X pins σ tg R) X.xe s1) X.xe s
def xu(ho:s.heap.get? it=some o)(hc:o.cls=.type n)(hd:o.data=.fields vs)
  (hn:["enumerate","zip","dict_itemiterator","dict_reverseitemiterator","odict_iterator","itertools.zip_longest","itertools.pairwise"].contains n=false) (hQ:Q () s):wpAny M A (letOwnedTupleGo tg (.ref it) u) Q E s:=by
 unfold letOwnedTupleGo;cases tg<;>first
  | exact zV hQ
  | (cases u<;>first
    | exact zV hQ
    | (refine zU (wpAny_load ho ?_)
       rw[hc,hd];show wpAny M A (if (["enumerate","zip","dict_itemiterator","dict_reverseitemiterator","odict_iterator","itertools.zip_longest","itertools.pairwise"].contains n&&vs[0]? == some (rawInt _))=true then _ else _) Q E s;rw[yL (by intro h;rw[hn,vJ] at h;cases h)];exact zV hQ))
def Nk(K:W.Frag)(a:Addr):It :=
 ⟨λi H=>∃xs x,eH K H a xs/\xs[i]?=some x,λi H x H'=>H'=H/\∀xs,eH K H a xs->xs[i]?=some x,λi H=>∃xs,eH K H a xs/\xs.length<=i⟩
def Nv(K:W.Frag)(a:Addr):It :=
 ⟨λi H=>∃xs x,eE K H a xs/\xs[i]?=some x,λi H x H'=>H'=H/\∀xs,eE K H a xs->xs[i]?=some x,λi H=>∃xs,eE K H a xs/\xs.length<=i⟩
def MI(lo:Int)(n:Nat):It:=⟨λi _=>i < n,λi H x H'=>H'=H/\x=.int (lo+i),λi _=>n<=i⟩
def p6{K:W.Frag}(a it:Addr):Turn P w K tg (Nk K a) [it] it (λi h=>h.IsListIter it a i) where
 mem:=by simp
 obj:=λi h st b hb=>by
  have e:b=it:=by simpa using hb
  subst e;let⟨o,e,c,d⟩:=st;exact⟨o,e,λv z=>by rw[d] at z;cases z⟩
 keep:=λi h h' st k=>st.at λo e=>k it (by simp) o e
 item:=by
  intro X hP hw hK hc i pins s σ H E I hf st hg;subst hP hw hK;let⟨xs,x,hq,hx⟩:=hg;let⟨its,rv,p,hz⟩:=I.list hq;let⟨u,hu,ru⟩:=rv.get hx;let⟨f0,f1,f2,f3,f4,f5⟩:=hf it (by simp);refine wpAny_pyNext_list_item st p.isList (x:=u) (by simpa using hu) λh' Q4 sb=>?_;have I1:Inv X pins σ H { s with heap:=h' }:=I.turned (t':=s.toks) (λb o hb e=>(sb.2 b hb).trans e) f0 f1 f3 f4 f5;let⟨o,e,c,d⟩:=id Q4;exact⟨u,rfl,xu (s:={ s with heap:=h' }) e c d (by decide) ⟨x,H,I1,ru,⟨rfl,λys hy=>by rw[I.Rv hy hq];exact hx⟩,Q4,λb hb=>(hf b hb).1⟩⟩
 done:=by
  intro X hP hw hK hc i pins s σ H E I hf st hg;subst hP hw hK;let⟨xs,hq,hx⟩:=hg;let⟨its,rv,p,hz⟩:=I.list hq;let⟨f0,f1,f2,f3,f4,f5⟩:=hf it (by simp);have hl:=rv.length;exact wpAny_pyNext_list_end (I.ok.hd hc) st p.isList (by simp;lia) λh' eb=>⟨rfl,I.turned (t':=s.toks) (λb o hb e=>eb b o hb e) f0 f1 f3 f4 f5⟩
 self:=λ_ _ _ _ _ st h=>wpAny_pyIter_listiter st h
def oo{K:W.Frag}(a it:Addr):Turn P w K tg (Nv K a) [it] it (λi h=>h.IsTupleIter it a i) where
 mem:=by simp
 obj:=λi h st b hb=>by
  have e:b=it:=by simpa using hb
  subst e;let⟨o,e,c,d⟩:=st;exact⟨o,e,λv z=>by rw[d] at z;cases z⟩
 keep:=λi h h' st k=>st.at λo e=>k it (by simp) o e
 item:=by
  intro X hP hw hK hc i pins s σ H E I hf st hg;subst hP hw hK;let⟨xs,x,hq,hx⟩:=hg;let⟨its,rv,p,hz⟩:=I.tuple hq;let⟨u,hu,ru⟩:=rv.get hx;let⟨f0,f1,f2,f3,f4,f5⟩:=hf it (by simp);refine wpAny_pyNext_tuple_item st (show s.heap.IsTuple a its.toArray from p) (x:=u) (by simpa using hu) λh' Q4 sb=>?_;have I1:Inv X pins σ H { s with heap:=h' }:=I.turned (t':=s.toks) (λb o hb e=>(sb.2 b hb).trans e) f0 f1 f3 f4 f5;let⟨o,e,c,d⟩:=id Q4;exact⟨u,rfl,xu (s:={ s with heap:=h' }) e c d (by decide) ⟨x,H,I1,ru,⟨rfl,λys hy=>by rw[I.Rh hy hq];exact hx⟩,Q4,λb hb=>(hf b hb).1⟩⟩
 done:=by
  intro X hP hw hK hc i pins s σ H E I hf st hg;subst hP hw hK;let⟨xs,hq,hx⟩:=hg;let⟨its,rv,p,hz⟩:=I.tuple hq;let⟨f0,f1,f2,f3,f4,f5⟩:=hf it (by simp);have hl:=rv.length;exact wpAny_pyNext_tuple_end (I.ok.hd hc) st (show s.heap.IsTuple a its.toArray from p) (by simp;lia) λh' eb=>⟨rfl,I.turned (t':=s.toks) (λb o hb e=>eb b o hb e) f0 f1 f3 f4 f5⟩
 self:=λ_ _ _ _ _ st h=>wpAny_pyIter_tupleiter st h
def v5{K:W.Frag}(it:Addr)(lo:Int)(n:Nat):Turn P w K tg (MI lo n) [it] it (λi h=>IsRangeIter h it (lo+(i:Nat) * 1) ((n:Int) - (i:Nat)) 1) where
 mem:=by simp
 obj:=λi h st b hb=>by
  have e:b=it:=by simpa using hb
  subst e;exact⟨_,st,λv z=>by
   have z':Data.fields _=Data.cell v:=z;cases z'⟩
 keep:=λi h h' st k=>k it (by simp) _ st
 item:=by
  intro X hP hw hK hc i pins s σ H E I hf st hg;subst hP hw hK;let⟨f0,f1,f2,f3,f4,f5⟩:=hf it (by simp);have W:=Walks.range (prog:=X.prog) (w:=X.w) (I.ok.hd hc) it lo 1 n;refine W.item i s _ _ hg st λv h' tk hv Q4 kk=>?_;let⟨t,rfl⟩:=hv;have I1:Inv X pins σ H { s with heap:=h',toks:=tk }:=I.turned (λb o hb e=>kk b o (by simpa using hb) e) f0 f1 f3 f4 f5;refine⟨_,rfl,xu (s:={ s with heap:=h',toks:=tk }) (n:="range_iterator") Q4 rfl rfl (by decide) ⟨.int (lo+i),H,I1,⟨t,?_⟩,⟨rfl,rfl⟩,Q4,λb hb=>(hf b hb).1⟩⟩;rw[Int.mul_one]
 done:=by
  intro X hP hw hK hc i pins s σ H E I hf st hg;subst hP hw hK;let⟨f0,f1,f2,f3,f4,f5⟩:=hf it (by simp);exact wpAny_pyNext_range_end (I.ok.hd hc) st (by have:n<=i:=hg;lia) λh' eb=>⟨rfl,I.turned (t':=s.toks) (λb o hb e=>eb b o hb e) f0 f1 f3 f4 f5⟩
 self:=λ_ _ _ _ _ st h=>wpAny_pyIter_rangeiter st h
def sX{lo:Int}{t u v:Tok}{tk:Nat}(I:Inv X pins σ H s)(h1:-(2 ^ 62)<=lo)(h2:lo < 2 ^ 62)(h3:-(2 ^ 62)<=hi)(h4:hi < 2 ^ 62)
  (q:R (MI lo (hi - lo).toNat) H):wpAny (model X.prog X.w) X.A (pyIter (.ref s.heap.objs.size)) (NM X pins σ tg R) E { s with heap:=s.heap.push { cls:=.type "range",data:=.fields #[.int lo t,.int hi u,.int 1 v] },toks:=tk }:=by
 refine wpAny_pyIter_range (IsRange.new ..) (small_one h1 h2 h3 h4) ?_;have I1:Inv X pins σ H { s with heap:=s.heap.push { cls:=.type "range",data:=.fields #[.int lo t,.int hi u,.int 1 v] },toks:=tk }:=I.kept λb o e=>zT _ e;refine⟨(s.heap.push { cls:=.type "range",data:=.fields #[.int lo t,.int hi u,.int 1 v] }).objs.size,[(s.heap.push { cls:=.type "range",data:=.fields #[.int lo t,.int hi u,.int 1 v] }).objs.size],_,_,H,rfl,
  I1.kept (t':=tk) λb o e=>zT _ e,v5 _ lo (hi - lo).toNat,?_,λb hb=>?_,q⟩
 ·have e1:lo+((0:Nat):Int) * 1=lo:=by simp
  have e2:(((hi - lo).toNat:Nat):Int) - ((0:Nat):Int)=Builtin.Range.rangeSize lo hi 1:=by rw[rangeSize_one];split<;>lia
  show IsRangeIter _ _ (lo+((0:Nat):Int) * 1) ((((hi - lo).toNat:Nat):Int) - ((0:Nat):Int)) 1;rw[e1,e2];exact zW _ rfl
 ·have e:b=(s.heap.push { cls:=.type "range",data:=.fields #[.int lo t,.int hi u,.int 1 v] }).objs.size:=by simpa using hb
  subst e;exact I1.Q9 (yK _) (I1.Qh.fresh (yK _))
def L4(ta:TA):TI:=λσ H R=>ta σ H λvs H1=>∃j:Int,vs=[.int j]/\-(2 ^ 62)<=j/\j < 2 ^ 62/\R (MI 0 j.toNat) H1
def Mv(ta:TA):TI:=λσ H R=>ta σ H λvs H1=>∃i j:Int,vs=[.int i,.int j]/\(-(2 ^ 62)<=i/\i < 2 ^ 62/\-(2 ^ 62)<=j/\j < 2 ^ 62)/\R (MI i (j - i).toNat) H1
def BE(hg:Gl X "range")(hm:X.mg "range"=none)(ha:PA X [a] ta)(hs:starEach [a] X.env=[(false,eval a X.env)]:=by rfl):PI X tg (.Call (.Name "range" p) [a] [] pos) (L4 ta):=by
 intro pins s σ H R I h;refine Call_ (gL I hg hm boot_range (qP (bC (ha pos pins s σ H _ I h) λus s1 ⟨vs,H1,I1,r1,q1⟩=>?_) hs rfl));let⟨j,e,q1,q2,q⟩:=q1;subst e;cases r1 with
 | cons r rr =>
  cases rr;let⟨t,rfl⟩:=r;exact call_range_1 (sX I1 (by lia) (by lia) q1 q2 (by simpa using q))
def AR(hg:Gl X "range")(hm:X.mg "range"=none)(ha:PA X [a,b] ta)(hs:starEach [a,b] X.env=[(false,eval a X.env),(false,eval b X.env)]:=by rfl)(Sl:starEach [b] X.env=[(false,eval b X.env)]:=by rfl) :
  PI X tg (.Call (.Name "range" p) [a,b] [] pos) (Mv ta):=by
 intro pins s σ H R I h;refine Call_ (gL I hg hm boot_range (qP (bC (ha pos pins s σ H _ I h) λus s1 ⟨vs,H1,I1,r1,q1⟩=>?_) (by rw[hs,Sl]) (by rw[Sl];rfl)));let⟨i,j,e,⟨q1,q2,q3,q4⟩,q⟩:=q1;subst e;cases r1 with
 | cons r rr =>
  cases rr with
  | cons r' rr =>
   cases rr;let⟨t,rfl⟩:=r;let⟨t',rfl⟩:=r';exact call_range_2 (sX I1 q1 q2 q3 q4 q)
def M1(wi:TI)(g:TG)(tb:TS):TS:=λD σ H=>wi σ H λJ H1=>∃W:Nat->Nat->St->Hp->Prop,(∃m,W 0 m σ H1)/\∀i m σ H,W i m σ H ->
 (J.stop i H/\D.nx σ H)\/(J.go i H/\∃N:St->Hp->Prop,(∀σ' H',N σ' H'->∃m',m' < m/\W (i+1) m' σ' H')/\∀x H',J.SK i H x H'->g x σ H' λRq H2=>tb { D with nx:=N,ct:=N,bk:=D.nx } Rq H2)
def lT(fp:List Addr)(h:Heap):List (Addr×Obj):=fp.filterMap λb=>(h.get? b).map λo=>(b,o)
def dA(hb:b∈fp)(e:h.get? b=some o):(b,o)∈lT fp h:=List.mem_filterMap.mpr ⟨b,hb,by rw[e];rfl⟩
def AW(hp:p∈lT fp h):p.1∈fp/\h.get? p.1=some p.2:=by
 let⟨b,hb,e⟩:=List.mem_filterMap.mp hp;cases q:h.get? b with
 | none=>rw[q] at e;cases e
 | some o =>
  rw[q] at e;have e':(b,o)=p:=xB e;subst e';exact⟨hb,q⟩
def Inv.pinned(I:Inv X pins σ H s)(hf:∀b∈fp,fP X pins H b)(ho:∀b∈fp,∃o,s.heap.get? b=some o/\∀v,o.data≠.cell v):Inv X (pins++lT fp s.heap) σ H s :=
 I.Ri λp hp=>(List.mem_append.mp hp).elim (λz=>I.pin p (yD _ z)) λz=>by
  let⟨hb,e⟩:=AW z;let⟨f0,f1,f2,_⟩:=hf p.1 hb;let⟨o,e',d⟩:=ho p.1 hb;rw[e] at e';cases e';exact⟨e,f0,f1,f2,d⟩
def Inv.Qt(I:Inv X (pins++pl) σ H s):Inv X pins σ H s:=I.Ri λp hp=>I.pin p (yD _ (qG _ hp))
def Ks{pos:Pos}(hp:PassesOwn (model X.prog X.w) X.A X.env X.xe)(hc:X.calm=true)(hi:PI X tg iter wi)(hg:PG X tg g)(hb:ou X body tb)
  (hs:∀x,foldedSetIterable iter X.env x=pure x:=by intro _;rfl):PS X (.For tg iter body [] pos) (M1 wi g tb):=by
 intro pins s σ H D I h;refine wpAny_For (bC (hi pins s σ H _ I h) λv s1 h1=>bC h1 λUH s2 h2=>?_) hs;let⟨it,fp,tn,J,H2,e,I2,T,Sh,f2,W,⟨m0,w0⟩,turn⟩:=h2;subst e;have RL:∀ {H':Hp},(∀b∈fp,H' b=none)->∀b∈fp,fP X pins H' b:=λhn b hb=>⟨hn b hb,(f2 b hb).2⟩
 refine codeAny_forLoop_any (λn s'=>∃i σ' H',Inv X pins σ' H' s'/\tn i s'.heap/\(∀b∈fp,H' b=none)/\W i n σ' H') ?_ m0 ⟨0,σ,H2,I2,Sh,λb hb=>(f2 b hb).1,w0⟩;rintro n s3 ⟨i,Q8,H3,I3,SM,UI,w3⟩;rcases turn i n Q8 H3 w3 with ⟨stop,qn⟩|⟨go,N,hN,step⟩
 ·refine jG hp (bC (T.done X rfl rfl rfl hc i pins s3 Q8 H3 X.xe I3 (RL UI) SM stop) λr s4 ⟨hr,I4⟩=>?_);subst hr;exact vB ⟨Q8,H3,I4,qn⟩
 ·refine jG hp (bC (T.item X rfl rfl rfl hc i pins s3 Q8 H3 X.xe I3 (RL UI) SM go) λr s4 ⟨u,hr,h4⟩=>?_);subst hr;refine jG hp (bC h4 λ_ s5 ⟨x,H5,I5,r5,y5,SN,Uw⟩=>?_);have V8:=I5.pinned (RL Uw) (T.obj _ _ SN);refine jG hp (bC (hg _ s5 Q8 H5 x u _ V8 r5 (step x H5 y5)) λ_ s6 ⟨V9,H6,I6,q6⟩=>?_);refine jG hp (bC (hb _ s6 V9 H6 _ I6 q6) λf s7 q7=>?_);have again:∀ {Q5:St}{H7:Hp},Inv X (pins++lT fp s5.heap) Q5 H7 s7->N Q5 H7->∃m,m < n/\∃i σ' H',Inv X pins σ' H' s7/\tn i s7.heap/\(∀b∈fp,H' b=none)/\W i m σ' H':=λ{Q5 H7} I7 n7=>by
   let⟨m',hm,w7⟩:=hN Q5 H7 n7;refine⟨m',hm,i+1,Q5,H7,I7.Qt,T.keep _ _ _ SN λb hb o e=>(I7.pin (b,o) (yD _ (yD _ (dA hb e)))).1,λb hb=>?_,w7⟩;let⟨o,e,d⟩:=T.obj _ _ SN b hb;exact (I7.pin (b,o) (yD _ (yD _ (dA hb e)))).2.1
  cases f with
  | next=>let⟨Q5,H7,I7,n7⟩:=q7;exact again I7 n7
  | cont=>let⟨Q5,H7,I7,n7⟩:=q7;exact again I7 n7
  | brk=>let⟨Q5,H7,I7,q7⟩:=q7;exact⟨Q5,H7,I7.Qt,q7⟩
  | ret v=>let⟨x7,Q5,H7,I7,r7,q7⟩:=q7;exact⟨x7,Q5,H7,I7.Qt,r7,q7⟩
abbrev R2:=V->V->Hp->VK->Prop
def eN(X:Cx)(f:Value->Value->Sem Value)(r:R2):Prop :=
 ∀ (pins:List (Addr×Obj)) (s:Shared) (σ:St) (H:Hp) (x y:V) (v u:Value) (Q:VK),Inv X pins σ H s->RelV x v->RelV y u->r x y H Q ->
  wpAny (model X.prog X.w) X.A (f v u) (EP X pins σ Q) X.xe s
def OQ(X:Cx)(f:Value->Sem Value)(r:V->Hp->VK->Prop):Prop :=
 ∀ (pins:List (Addr×Obj)) (s:Shared) (σ:St) (H:Hp) (x:V) (v:Value) (Q:VK),Inv X pins σ H s->RelV x v->r x H Q ->
  wpAny (model X.prog X.w) X.A (f v) (EP X pins σ Q) X.xe s
def cS(X:Cx)(f:Value)(r:List V->Hp->VK->Prop):Prop :=
 ∀ (pins:List (Addr×Obj)) (s:Shared) (σ:St) (H:Hp) (xs:List V) (us:List Value) (Q:VK),Inv X pins σ H s->aA xs us->r xs H Q ->
  wpAny (model X.prog X.w) X.A (call f us) (EP X pins σ Q) X.xe s
def Mb(r:R2)(ta tb:TE):TE:=λσ H Q=>ta σ H λx H1=>tb σ H1 λy H2=>r x y H2 Q
def PY(r:V->Hp->VK->Prop)(ta:TE):TE:=λσ H Q=>ta σ H λx H1=>r x H1 Q
def rI(C:Int->Int->Prop)(g:Int->Int->V):R2:=λx y H Q=>∃i j,x=.int i/\y=.int j/\C i j/\Q (g i j) H
def FB(g:Int->Int->V):R2:=λx y H Q=>∃i j,x=.int i/\y=.int j/\Q (g i j) H
def rU(g:Int->V):V->Hp->VK->Prop:=λx H Q=>∃i,x=.int i/\Q (g i) H
def Lm(ha:PE X a ta)(hb:PE X b tb){pins:List (Addr×Obj)}{σ:St}{R:V->V->Hp->Prop}(I:Inv X pins σ H s)
  (h:ta σ H λx H1=>tb σ H1 λy H2=>R x y H2) {Q:Value->Shared->Prop}{f:Value->Value->Sem Value}
  (hf:∀v u s2 x y H2,Inv X pins σ H2 s2->RelV x v->RelV y u->R x y H2->wpAny (model X.prog X.w) X.A (f v u) Q X.xe s2) :
  wpAny (model X.prog X.w) X.A (eval a X.env) (λv Qg=>wpAny (model X.prog X.w) X.A (eval b X.env) (λu S3=>wpAny (model X.prog X.w) X.A (f v u) Q X.xe S3) X.xe Qg) X.xe s:=by
 refine bC (ha pins s σ H _ I h) λv s1 ⟨x,H1,I1,r1,q1⟩=>?_;refine bC (hb pins s1 σ H1 _ I1 q1) λu s2 ⟨y,H2,I2,r2,q2⟩=>?_;exact hf v u s2 x y H2 I2 r1 r2 q2
def BP(ho:eN X (binaryOp op) r)(ha:PE X a ta)(hb:PE X b tb):PE X (.BinOp a op b pos) (Mb r ta tb):=by
 intro pins s σ H Q I h;exact wpAny_BinOp (Lm ha hb I h λv u s2 x y H2 I2 rx ry q=>ho pins s2 σ H2 x y v u Q I2 rx ry q)
def Ew(ho:OQ X (unaryOp op) r)(ha:PE X a ta):PE X (.UnaryOp op a pos) (PY r ta):=by
 intro pins s σ H Q I h;exact UnaryOp_ (bC (ha pins s σ H _ I h) λv s1 ⟨x,H1,I1,r1,q1⟩=>ho pins s1 σ H1 x v Q I1 r1 q1)
def Oo{f:Value->Value->Sem Value}{C:Int->Int->Prop}{g:Int->Int->Int}
  (rule:∀ (i j:Int) (t u:Tok) (s:Shared) (Q:Value->Shared->Prop) (E:Value->Shared->Prop),C i j->Q (.int (g i j) s.toks) { s with toks:=s.toks+1 }->wpAny (model X.prog X.w) X.A (f (.int i t) (.int j u)) Q E s) :
  eN X f (rI C λi j=>.int (g i j)):=by
 intro pins s σ H x y v u Q I rx ry h;let⟨i,j,rfl,rfl,hc,q⟩:=h;let⟨t,rfl⟩:=rx;let⟨t',rfl⟩:=ry;exact rule i j t t' s _ _ hc ⟨.int (g i j),H,I.tok _,⟨_,rfl⟩,q⟩
def MC{f:Value->Value->Sem Value}{g:Int->Int->Int}
  (rule:∀ (i j:Int) (t u:Tok) (s:Shared) (Q:Value->Shared->Prop) (E:Value->Shared->Prop),Q (.int (g i j) s.toks) { s with toks:=s.toks+1 }->wpAny (model X.prog X.w) X.A (f (.int i t) (.int j u)) Q E s) :
  eN X f (FB λi j=>.int (g i j)):=by
 intro pins s σ H x y v u Q I rx ry h;let⟨i,j,rfl,rfl,q⟩:=h;let⟨t,rfl⟩:=rx;let⟨t',rfl⟩:=ry;exact rule i j t t' s _ _ ⟨.int (g i j),H,I.tok _,⟨_,rfl⟩,q⟩
def LH{f:Value->Value->Sem Value}{g:Int->Int->Bool}
  (rule:∀ (i j:Int) (t u:Tok) (s:Shared) (Q:Value->Shared->Prop) (E:Value->Shared->Prop),Q (.bool (g i j)) s->wpAny (model X.prog X.w) X.A (f (.int i t) (.int j u)) Q E s) :
  eN X f (FB λi j=>.bl (g i j)):=by
 intro pins s σ H x y v u Q I rx ry h;let⟨i,j,rfl,rfl,q⟩:=h;let⟨t,rfl⟩:=rx;let⟨t',rfl⟩:=ry;exact rule i j t t' s _ _ ⟨.bl (g i j),H,I,rfl,q⟩
def F6(i j:Int):Prop:=0 < j/\j < 1073741824
def oW(i j:Int):Prop:=(-(2 ^ 64) < i/\i < 2 ^ 64)\/(-(2 ^ 64) < j/\j < 2 ^ 64)
def oW.ok(h:oW i j):IntMulOk i j:=by
 rcases h with ⟨h1,h2⟩|⟨h1,h2⟩
 ·exact .of_left (intBits_le_64 h1 h2)
 ·exact .of_right (intBits_le_64 h1 h2)
def Ko:eN X (binaryOp .Add) (FB λi j=>.int (i+j)):=MC λ_ _ _ _ _ _ _ q=>add_int q
def Jf:eN X (binaryOp .Sub) (FB λi j=>.int (i - j)):=MC λ_ _ _ _ _ _ _ q=>sub_int q
def Jb:eN X (binaryOp .Mult) (rI oW λi j=>.int (i * j)):=Oo λ_ _ _ _ _ _ _ hc q=>mul_int q hc.ok
def HL:eN X (binaryOp .FloorDiv) (rI F6 λi j=>.int (i / j)):=Oo λi j _ _ _ _ _ hc q=>by
 have h1:(0:Int) < j:=hc.1;have h2:j < 1073741824:=hc.2;exact floordiv_int (by lia) (by rw[Int.fdiv_eq_ediv_of_nonneg i (by lia)];exact q) (.inl (PyProof.noPylong_small (by lia)))
def Jv:eN X (binaryOp .Mod) (rI (λ_ j=>0 < j) λi j=>.int (i % j)):=Oo λi j _ _ _ _ _ hc q=>by
 have h1:(0:Int) < j:=hc;exact mod_int' (by lia) (by rw[Int.fmod_eq_emod_of_nonneg i (by lia)];exact q)
def Pj{f:Value->Sem Value}{g:Int->Int}
  (rule:∀ (i:Int) (t:Tok) (s:Shared) (Q:Value->Shared->Prop) (E:Value->Shared->Prop),Q (.int (g i) s.toks) { s with toks:=s.toks+1 }->wpAny (model X.prog X.w) X.A (f (.int i t)) Q E s) :
  OQ X f (rU λi=>.int (g i)):=by
 intro pins s σ H x v Q I rx h;let⟨i,rfl,q⟩:=h;let⟨t,rfl⟩:=rx;exact rule i t s _ _ ⟨.int (g i),H,I.tok _,⟨_,rfl⟩,q⟩
def vv:OQ X (unaryOp .USub) (rU λi=>.int (-i)):=Pj λ_ _ _ _ _ q=>neg_int q
def rL(I:Inv X pins σ H s)(q:Q (.bl k) H)(e:k=k'):EP X pins σ Q (.bool k') s:=by
 subst e;exact⟨.bl k,H,I,rfl,q⟩
def EA:eN X (compareOp .Lt) (FB λi j=>.bl (decide (i < j))):=LH λ_ _ _ _ _ _ _ q=>lt_int q
def BU:eN X (compareOp .LtE) (FB λi j=>.bl (decide (i<=j))):=LH λ_ _ _ _ _ _ _ q=>le_int q
def Iq:eN X (compareOp .Gt) (FB λi j=>.bl (decide (j < i))):=LH λ_ _ _ _ _ _ _ q=>gt_int q
def AD:eN X (compareOp .In) (λx y H Q=>∃i j,x=.str i/\y=.str j/\Q (.bl (!(Builtin.Str.occurrences j i 0 j.length 1).isEmpty)) H):=by
 intro pins s σ H x y v u Q I rx ry h;let⟨i,j,rfl,rfl,q⟩:=h;let⟨t,rfl⟩:=rx;let⟨t',rfl⟩:=ry;exact in_str (rL I q rfl)
def BR:eN X (compareOp .Is) (λx y H Q=>y=.Qb/\Q (.bl (decide (x=.Qb))) H):=by
 intro pins s σ H x y v u Q I rx ry h;let⟨rfl,q⟩:=h;cases ry;refine is_none_gen (rL I q ?_);cases x<;>first
  | (cases rx;rfl)
  | (let⟨t,rfl⟩:=rx;rfl)
def yt:eN X (compareOp .IsNot) (λx y H Q=>y=.Qb/\Q (.bl (!decide (x=.Qb))) H):=by
 intro pins s σ H x y v u Q I rx ry h;let⟨rfl,q⟩:=h;cases ry;refine isnot_none_gen (rL I q ?_);cases x<;>first
  | (cases rx;rfl)
  | (let⟨t,rfl⟩:=rx;rfl)
def sy:eN X (compareOp .NotIn) (λx y H Q=>∃i j,x=.str i/\y=.str j/\Q (.bl (!(!(Builtin.Str.occurrences j i 0 j.length 1).isEmpty))) H):=by
 intro pins s σ H x y v u Q I rx ry h;let⟨i,j,rfl,rfl,q⟩:=h;let⟨t,rfl⟩:=rx;let⟨t',rfl⟩:=ry;exact notIn_str (rL I q rfl)
def isObj:HO->Bool
 | .lst _=>true
 | .ins _ _ _=>true
 | _=>false
def pG(I:Inv X pins σ H s)(h:H a=some o)(p:isObj o=true):∃ob,s.heap.get? a=some ob/\ob.cls≠.type "tuple":=by
 cases o with
 | lst xs =>
  obtain⟨_,its,n,_,e⟩:xs.length<=sizeLine/\∃ (its:List Value) (n:Nat),aA xs its/\s.heap.get? a=some { cls:=.type "list",data:=.seq its.toArray n }:=I.Qh a _ h;exact⟨_,e,(by show Value.type "list"≠.type "tuple";decide +kernel)⟩
 | ins C dx fs =>
  have x:=I.Qh a _ h;let⟨_,_,_,e,_⟩:=x;exact⟨_,e,(by show Value.ref C≠.type "tuple";exactλz=>by cases z)⟩
 | _=>exact absurd (show false=true from p) yX
def eN.or(h:eN X f r)(h':eN X f r'):eN X f (λx y H Q=>r x y H Q\/r' x y H Q):=by
 intro pins s σ H x y v u Q I rx ry q;rcases q with q|q
 ·exact h pins s σ H x y v u Q I rx ry q
 ·exact h' pins s σ H x y v u Q I rx ry q
def dg(b:Expr)(h:op≠.In:=by decide)(h2:op≠.NotIn:=by decide):behindInMarks op b=false:=by
 have e1:(op == CmpOp.In)=false:=by cases op<;>first|rfl|exact absurd rfl h
 have e2:(op == CmpOp.NotIn)=false:=by cases op<;>first|rfl|exact absurd rfl h2
 cases b<;>simp[behindInMarks,e1,e2]
def Hj(ho:eN X (compareOp op) r)(ha:PE X a ta)(hb:PE X b tb)(hm:behindInMarks op b=false):PE X (.Compare a [op] [b] pos) (Mb r ta tb):=by
 intro pins s σ H Q I h;exact wpAny_Compare1 (Lm ha hb I h λv u s2 x y H2 I2 rx ry q=>ho pins s2 σ H2 x y v u Q I2 rx ry q) hm
def Iv(t:TE):TT:=λσ H Q=>t σ H λx H'=>∃k,x=.bl k/\Q k H'
def yr(ho:eN X (compareOp op) r)(ha:PE X a ta)(hb:PE X b tb)(hm:behindInMarks op b=false):PT X (.Compare a [op] [b] pos) (Iv (Mb r ta tb)):=by
 intro pins s σ H Q I h;refine wpAny_isTrue_Compare1 (bC (ha pins s σ H _ I h) λv s1 ⟨x,H1,I1,r1,q1⟩=>bC (hb pins s1 σ H1 _ I1 q1) λu s2 ⟨y,H2,I2,r2,q2⟩ =>
  bC (ho pins s2 σ H2 x y v u _ I2 r1 r2 q2) λc s3 ⟨z,H3,I3,r3,k,e,q3⟩=>?_) hm
 subst e;cases r3;exact xU ⟨H3,I3,q3⟩
def vf(r r':R2)(ta tb tc:TE):TE:=λσ H Q=>ta σ H λx H1=>tb σ H1 λy H2=>r x y H2 λz H3=>∃k,z=.bl k /\
 (if k=true then tc σ H3 λw' H4=>r' y w' H4 Q else Q (.bl false) H3)
def DY(ho:eN X (compareOp op) r)(QV:eN X (compareOp RU) r')(ha:PE X a ta)(hb:PE X b tb)(hc:PE X c tc)
  (hm:lastMarks [op,RU] [b,c]=false:=by with_unfolding_all rfl):PE X (.Compare a [op,RU] [b,c] pos) (vf r r' ta tb tc):=by
 intro pins s σ H Q I h;refine Compare_chain (bC (ha pins s σ H _ I h) λv s1 ⟨x,H1,I1,r1,q1⟩=>chain_link (bC (hb pins s1 σ H1 _ I1 q1) λu s2 ⟨y,H2,I2,r2,q2⟩ =>
  bC (ho pins s2 σ H2 x y v u _ I2 r1 r2 q2) λd s3 ⟨z,H3,I3,r3,k,e,q3⟩=>?_)) hm
 subst e;cases r3;refine xU ?_;cases k with
 | false=>exact ite_ff ⟨.bl false,H3,I3,rfl,q3⟩
 | true=>exact ite_tt (chain_last (bC (hc pins s3 σ H3 _ I3 q3) λw' s4 ⟨z',H4,I4,r4,q4⟩=>QV pins s4 σ H4 y z' u w' Q I4 r2 r4 q4))
def Eb(ho:eN X (compareOp op) r)(QV:eN X (compareOp RU) r')(ha:PE X a ta)(hb:PE X b tb)(hc:PE X c tc)
  (hm:lastMarks [op,RU] [b,c]=false:=by with_unfolding_all rfl):PT X (.Compare a [op,RU] [b,c] pos) (Iv (vf r r' ta tb tc)):=by
 intro pins s σ H Q I h;refine isTrue_chain (bC (ha pins s σ H _ I h) λv s1 ⟨x,H1,I1,r1,q1⟩=>test_link (bC (hb pins s1 σ H1 _ I1 q1) λu s2 ⟨y,H2,I2,r2,q2⟩ =>
  bC (ho pins s2 σ H2 x y v u _ I2 r1 r2 q2) λd s3 ⟨z,H3,I3,r3,k,e,q3⟩=>?_)) hm
 subst e;cases r3;refine xU ?_;cases k with
 | false =>
  let⟨k',e',q'⟩:=q3;cases e';exact ite_ff ⟨H3,I3,q'⟩
 | true =>
  refine ite_tt (test_last (bC (hc pins s3 σ H3 _ I3 q3) λw' s4 ⟨z',H4,I4,r4,q4⟩=>bC (QV pins s4 σ H4 y z' u w' _ I4 r2 r4 q4) λd' s5 ⟨z2,H5,I5,r5,k2,e2,q5⟩=>?_));subst e2;cases r5;exact xU ⟨H5,I5,q5⟩
def lC:(sizeLine:Nat) < 2 ^ 63:=by rw[sizeLine_eq];decide
def vn:eN X (binaryOp .Add) (λx y H Q=>∃i j,x=.str i/\y=.str j/\i.length+j.length<=sizeLine/\Q (.str (i++j)) H):=by
 intro pins s σ H x y v u Q I rx ry h;let⟨i,j,rfl,rfl,hz,q⟩:=h;let⟨t,rfl⟩:=rx;let⟨t',rfl⟩:=ry;exact add_str (λt' tk=>⟨.str (i++j),H,I.tok _,⟨_,rfl⟩,q⟩) hz
def vals1(r:aA [x] us):∃u,us=[u]/\RelV x u:=by
 cases r with
 | cons r1 r2=>cases r2;exact⟨_,rfl,r1⟩
def vals2(r:aA [x,y] us):∃u w',us=[u,w']/\RelV x u/\RelV y w':=by
 cases r with
 | cons r1 r2 =>
  cases r2 with
  | cons r3 r4=>cases r4;exact⟨_,_,rfl,r1,r3⟩
section
variable {K:W.Frag}
end
structure gF(k:Nat)(A:Around):Prop where
 hd:A.handled=none
 dp:A.depth+3 * k+5 < recursionLimit
 un:A.units+16 * k+200 < cLine
def gF.mono(r:gF k A)(h:j<=k):gF j A:=⟨r.hd,by have:=r.dp;lia,by have:=r.un;lia⟩
def gF.deeper(r:gF (k+1) A)(env:Env):gF k (A.deeper env) :=
 ⟨r.hd,by have:=r.dp;show A.depth+1+3 * k+5 < _;lia,by have:=r.un;show A.units+3+16 * k+200 < _;lia⟩
def gF.depth(r:gF k A):A.depth < recursionLimit:=by have:=r.dp;lia
def gF.units(r:gF k A):A.units+64 < cLine:=by have:=r.un;lia
def N0:TA:=λ_ H Q=>Q [] H
def Mo(ta:TE)(tr:TA):TA:=λσ H Q=>ta σ H λx H1=>tr σ H1 λxs H2=>Q (x::xs) H2
def dc:PA X [] N0:=λ_ _ _ _ H Q I h=>jY ⟨[],H,I,.nil,h⟩
def bS(ha:PE X e te)(hr:PA X es t)(hs:starEach (e::es) X.env=(false,eval e X.env)::starEach es X.env:=by rfl):PA X (e::es) (Mo te t):=by
 intro pos pins s σ H Q I h;rw[hs];show wpAny _ _ (spliced ((false,eval e X.env)::backTo pos (starEach es X.env))) _ _ s;refine jF (bC (ha pins s σ H _ I h) λu s1 ⟨x,H1,I1,r1,q1⟩=>?_);exact bC (hr pos pins s1 σ H1 _ I1 q1) λus s2 ⟨xs,H2,I2,r2,q2⟩=>⟨x::xs,H2,I2,.cons r1 r2,q2⟩
def Od(t:TA):TE:=λσ H Q=>t σ H λxs H1=>xs.length<=sizeLine/\∀p,H1 p=none->Q (.ref p) (upd H1 p (.tup xs))
def NI(t:TA):TE:=λσ H Q=>t σ H λxs H1=>xs.length<=sizeLine/\∀p,H1 p=none->Q (.ref p) (upd H1 p (.lst xs))
def JC{x1}(h:PA X es t):PE X (.Tuple es x1 pos) (Od t):=by
 intro pins s σ H Q I hq;refine wpAny_Tuple_spliced (bC (h pos pins s σ H _ I hq) λus s1 ⟨xs,H1,I1,r,z,q⟩=>⟨by rw[<- r.length];exact z,?_⟩);have hf:H1 s1.heap.objs.size=none:=I1.Qh.fresh (yK _);refine⟨.ref s1.heap.objs.size,upd H1 s1.heap.objs.size (.tup xs),I1.laid (t':=s1.toks) (λb u e=>zT _ e) (yK _) ?_,rfl,q _ hf⟩;exact⟨z,us,r,⟨_,zW _ rfl,rfl,_,rfl⟩,_,zW _ rfl,rfl⟩
def wL(h:PA X es t):PE X (.List es pos) (NI t):=by
 intro pins s σ H Q I hq;refine wpAny_List_spliced (bC (h pos pins s σ H _ I hq) λus s1 ⟨xs,H1,I1,r,z,q⟩=>⟨by rw[<- r.length];exact z,?_⟩);have hf:H1 s1.heap.objs.size=none:=I1.Qh.fresh (yK _);refine⟨.ref s1.heap.objs.size,upd H1 s1.heap.objs.size (.lst xs),I1.laid (t':=s1.toks) (λb u e=>zT _ e) (yK _) ?_,rfl,q _ hf⟩;exact⟨z,us,0,r,zW _ rfl⟩
abbrev Sp:=List V->Hp->VK->XK->Prop
abbrev Fw:=List Env->Hp->Shared->XK->Value->Shared->Prop
structure Gu(P:Program)(w:World)(K:W.Frag)(mg:Str->Option Value)(base:Heap)(A:Around)(outer:List Env)(s:Shared)(H:Hp):Prop where
 frames:A.frames=some outer
 mod:Mod K mg base
 bs:∀b o,base.get? b=some o->s.heap.get? b=some o/\H b=none
 SW:base.objs.size<=s.heap.objs.size
 QR:s.heap.FunFrames base outer
 To:∀b∈dY outer,H b=none
 Qh:ku P w H s.heap
 bare:AllBare s.gens
def CE(outer:List Env)(P:Program)(w:World)(H:Hp)(s:Shared)(Q:VK)(u:Value)(s':Shared):Prop :=
 ∃v H',s'.os=s.os/\AllBare s'.gens/\Un (dY outer) [] H H' s.heap s'.heap/\ku P w H' s'.heap/\RelV v u/\Q v H'
def CR(CX:Fw)(outer:List Env)(P:Program)(w:World)(H:Hp)(s:Shared)(Q:VK)(E:XK)(r:Result)(s':Shared):Prop :=
 match r with
 | .ok (.ret u)=>CE outer P w H s Q u s'
 | .ok _=>False
 | .error e=>CX outer H s E e s'
structure mF(P:Program)(w:World)(K:W.Frag)(mg:Str->Option Value)(base:Heap)(CX:Fw)(k:Nat)(f:Addr)(fd:FuncData)(ps:List Str)(sp:Sp):Prop where
 len:∀vs H Q E,sp vs H Q E->vs.length=ps.length
 run:∀ (A:Around) (outer:List Env) (s:Shared) (H:Hp) (args:Args) (us:List Value) (vs:List V) (Q:VK) (E:XK),gF k A->Gu P w K mg base A outer s H->BindsTo s fd args (ps.zip us)->aA vs us->sp vs H Q E ->
  codeAny (model P w) A (.call (.ref f) args) (CR CX outer P w H s Q E) s
def mF.mono{K:W.Frag}(F:mF P w K mg base CX j f fd ps sp)(h:j<=k) :
  mF P w K mg base CX k f fd ps sp:=⟨F.len,λA outer s H args us vs Q E hr=>F.run A outer s H args us vs Q E (hr.mono h)⟩
def Inv.Wa(I:Inv X pins σ H s):Gu X.prog X.w X.K X.mg X.base X.A X.stack s H :=
 ⟨I.ok.frames,I.ok.mod,I.bs,yC I.ok.SW I.sz,I.stack,I.Q1,I.Qh,I.bare⟩
def Inv.after(I:Inv X pins σ H s)(h:CE X.stack X.prog X.w H s Q u s'):EP X pins σ Q u s':=by
 let⟨v,H',os,bare,un,Qh,r,q⟩:=h;let⟨hh,g,d,t,Wb⟩:=s';obtain rfl:Wb=s.os:=os;exact⟨v,H',I.call (h':=hh) (g':=g) (d':=d) (t':=t) (ch:=[]) un Qh bare (λb z=>absurd z (by simp)),r,q⟩
def Mj(sp:Sp)(TZ:List V)(E:XK)(t:TA):TE:=λσ H Q=>t σ H λvs H1=>sp (vs++TZ) H1 Q E
def Binds(K:W.Frag)(fd:FuncData)(ps:List Str)(ds:List Value):Prop :=
 ∀ (s:Shared) (us:List Value),K.In s.heap->(us++ds).length=ps.length->BindsTo s fd ⟨us,[]⟩ (ps.zip (us++ds))
def Binds.all{K:W.Frag}(h:∀us:List Value,us.length=ps.length->bindArgs fd ⟨us,[]⟩=pure (ps.zip us)):Binds K fd ps []:=λs us _ hl=>by
 rw[qD] at hl ⊢;exact .of_eq (h us hl)
def eQ(CX:Fw)(X:Cx)(E:XK):Prop:=∀ (pins:List (Addr×Obj)) (σ:St) (H:Hp) (s:Shared) (e:Value) (s':Shared),Inv X pins σ H s->CX X.stack H s E e s'->X.xe e s'
def LG(F:mF X.prog X.w X.K X.mg X.base CX k f fd ps sp)(hr:gF k X.A)(hb:Binds X.K fd ps ds)(hd:aA TZ ds)(hx:eQ CX X E)
  (I:Inv X pins σ H s) (r:aA vs us) (h:sp (vs++TZ) H Q E):wpAny (model X.prog X.w) X.A (call (.ref f) us) (EP X pins σ Q) X.xe s:=by
 have r2:aA (vs++TZ) (us++ds):=r.append hd;have hl:(us++ds).length=ps.length:=by rw[<- r2.length];exact F.len _ _ _ _ h
 refine wpAny_call (jO (F.run X.A X.stack s H ⟨us,[]⟩ (us++ds) (vs++TZ) Q E hr I.Wa (hb s us I.RF hl) r2 h) λr s' hq=>?_);cases r with
 | error e=>exact hx pins σ H s e s' I hq
 | ok fl =>
  cases fl with
  | ret u=>exact I.after hq
  | next=>exact False.elim hq
  | brk=>exact False.elim hq
  | cont=>exact False.elim hq
def yl(F:mF X.prog X.w X.K X.mg X.base CX k f fd ps sp)(hr:gF k X.A)(hg:Gl X x)(hm:X.mg x=some (.ref f))(hk:W.keepIn X.K (.ref f)=true)(hb:Binds X.K fd ps ds)(hd:aA TZ ds)(hx:eQ CX X E)
  (ha:PA X (e::es) t) (QD:(x == ("__debug__":Str))=false:=by decide) (he:starEach (e::es) X.env=(false,eval e X.env)::starEach es X.env:=by rfl) (QZ:(backTo pos (starEach es X.env)).any (·.1)=false:=by rfl) :
  PE X (.Call (.Name x p) (e::es) [] pos) (Mj sp TZ E t):=by
 intro pins s σ H Q I h;refine qU (kq I hg hm ?_ QD);refine W.callWith_K (h₀:=X.base) I.ok.mod.VB hk (bC (ha pos pins s σ H _ I h) λus s1 ⟨vs,H1,I1,r,q⟩=>⟨I1.RF,?_⟩) he QZ;exact LG F hr hb hd hx I1 r q
structure cD(N P:List Str)(sc:Scope):Prop where
 kind:sc.kind=.function
 co:sc.isCoroutine=false
 gen:sc.isGenerator=false
 nd:N.Nodup
 pre:N.take P.length=P
 par:∀x∈P,sc.names.lookup x=some .local \/ sc.names.lookup x=some .cell
 T1:∀y∈sc.names,y.2≠.free
def p8{kindOf:Str->Option NameKind}:∀ {binds:List (Str×Value)}{m:Str->Option Value},(∀v,(x,v)∉binds)->bindL kindOf binds m x=m x
 | [],_,_=>rfl
 | (n,v)::r,m,h=>by
  unfold bindL;rw[p8 λw hw=>h w (zC _ hw)];split
  ·have:x≠n:=by rintro rfl;exact h v zE
   simp[this]
  ·rfl
def qq{kindOf:Str->Option NameKind}:∀ {binds:List (Str×Value)}{m:Str->Option Value},(∀v,(x,v)∉binds)->bindC kindOf binds m x=m x
 | [],_,_=>rfl
 | (n,v)::r,m,h=>by
  unfold bindC;rw[qq λw hw=>h w (zC _ hw)];split
  ·rfl
  ·have:x≠n:=by rintro rfl;exact h v zE
   simp[this]
def pL{kindOf:Str->Option NameKind}:∀ {P:List Str}{vs:List Value}{i:Nat}{m:Str->Option Value},P.Nodup->P[i]?=some x->vs[i]?=some v->kindOf x=some .local ->
  bindL kindOf (P.zip vs) m x=some v
 | [],_,_,_,_,h,_,_=>by simp at h
 | _::_,[],_,_,_,_,h,_=>by simp at h
 | p::P,w::vs,0,m,nd,h1,h2,hk=>by
  simp at h1 h2;subst h1;subst h2;show bindL kindOf ((p,w)::P.zip vs) m p=_;unfold bindL;rw[p8 λv hv=>(List.nodup_cons.mp nd).1 (vD hv).1,yJ hk];simp
 | p::P,w::vs,i+1,m,nd,h1,h2,hk=>by
  show bindL kindOf ((p,w)::P.zip vs) m x=_;unfold bindL;exact pL (i:=i) (List.nodup_cons.mp nd).2 (by simpa using h1) (by simpa using h2) hk
def qo{kindOf:Str->Option NameKind}:∀ {P:List Str}{vs:List Value}{i:Nat}{m:Str->Option Value},P.Nodup->P[i]?=some x->vs[i]?=some v->kindOf x≠some .local ->
  bindC kindOf (P.zip vs) m x=some v
 | [],_,_,_,_,h,_,_=>by simp at h
 | _::_,[],_,_,_,_,h,_=>by simp at h
 | p::P,w::vs,0,m,nd,h1,h2,hk=>by
  simp at h1 h2;subst h1;subst h2;show bindC kindOf ((p,w)::P.zip vs) m p=_;unfold bindC;rw[qq λv hv=>(List.nodup_cons.mp nd).1 (vD hv).1,yL hk];simp
 | p::P,w::vs,i+1,m,nd,h1,h2,hk=>by
  show bindC kindOf ((p,w)::P.zip vs) m x=_;unfold bindC;exact qo (i:=i) (List.nodup_cons.mp nd).2 (by simpa using h1) (by simpa using h2) hk
def start(N:List Str)(vs:List V):St:=vs.map some++List.replicate (N.length - vs.length) none
def rX(CX:Fw)(P:Program)(w:World)(K:W.Frag)(mg:Str->Option Value)(base:Heap)(N:List Str)(qual:Str)(scope:Scope)(f:Addr)(cd:Value)(A:Around)(outer:List Env)(s:Shared)(H:Hp)(E:XK):Cx where
 prog:=P
 w:=w
 K:=K
 mg:=mg
 base:=base
 A:=A.deeper (envOfC qual scope s.heap.objs.size f cd)
 N:=N
 Qo:=s
 Qc:=H
 env:=envOfC qual scope s.heap.objs.size f cd
 outer:=outer
 stack:=envOfC qual scope s.heap.objs.size f cd::outer
 ex:=[]
 calm:=true
 fn:=λ_=>true
 pn:=[]
 xe:=λe s'=>wpAny (model P w) (A.deeper (envOfC qual scope s.heap.objs.size f cd)) (leaving (envOfC qual scope s.heap.objs.size f cd) e) (λ_ T2=>CX outer H s E e T2) (λe' T2=>CX outer H s E e' T2) s'
def nE{sc:Scope}{n:Nat}(h:sc.names.lookup x=some .cell):∃c,(cellsFrom n sc.names []).lookup x=some c:=by
 have q:=W.cellsFrom_some sc.names n [] (.inl h);exact Option.isSome_iff_exists.mp q
def AZ{CX:Fw}{K:W.Frag}{mg:Str->Option Value}{ps:List Str}{scope:Scope}{cd:Value}{A:Around}{outer:List Env}{s:Shared}{E:XK}{us:List Value}{vs:List V}
  (S:cD N ps scope) (hd:A.handled=none) (e0:Gu P w K mg base A outer s H) (hl:vs.length=ps.length) (r:aA vs us)
  (x:InCallC s s.heap.objs.size (bindL (envOfC qual scope s.heap.objs.size f cd).kindOf (ps.zip us) λ_=>none) (cellsFrom (s.heap.objs.size+1) scope.names []) (bindC (envOfC qual scope s.heap.objs.size f cd).kindOf (ps.zip us) λ_=>none) s1) :
  Inv (rX CX P w K mg base N qual scope f cd A outer s H E) [] (start N vs) H s1:=by
 have QZ:ps.length<=N.length:=by have:=qY List.length S.pre;rw[jS] at this;lia
 let⟨h1,tk,rfl,hk⟩:=x.done;have Ux:∀b:Addr,b∉(rX CX P w K mg base N qual scope f cd A outer s H E).ex:=λb z=>absurd (show b∈([]:List Addr) from z) (by simp);refine⟨⟨e0.mod,S.kind,rfl,rfl,yK _,λy z c h1 h2=>?_,λy hy=>?_,λy c _ h=>?_,λ_=>hd,Around.frames_deeper e0.frames,.inr ⟨rfl,rfl⟩,λb z=>absurd z (Ux b),e0.bs,e0.SW,λb _ _=>Ux b,λb z=>absurd z (Ux b),e0.QR,e0.To⟩,
  rfl,e0.bare,Un.kept hk,⟨_,x.toInCall.ns,λi y v h1 h2 h3=>?_⟩,λy c h=>⟨_,x.cell y c h⟩,e0.Qh.fresh (yK _),λy c h=>?_,λp hp=>absurd (show p∈([]:List (Addr×Obj)) from hp) (by simp),e0.Qh.kept hk,?_⟩
 ·exact name_of_addr x.apart (jV h1) (jV h2)
 ·have hy:scope.names.lookup y=some .cell\/scope.names.lookup y=some .free:=hy;rcases hy with hy|hy
  ·exact nE hy
  ·exact absurd rfl (S.T1 _ (jV hy))
 ·exact jP (x.above y c (jV h))
 ·have hi:i < vs.length:=by
   unfold start at h2;by_cases hi:i < vs.length
   ·exact hi
   ·rw[yR (by simpa using hi)] at h2;rw[yV] at h2;split at h2<;>cases h2
  have ha:vs[i]?=some v:=by
   unfold start at h2;rw[yQ (by simpa using hi),zO] at h2;cases e:vs[i]? with
   | none=>rw[e] at h2;cases h2
   | some a=>rw[e] at h2;cases h2;rfl
  let⟨u,hu,rv⟩:=r.get ha;have hp:ps[i]?=some y:=by
   rw[<- S.pre,List.getElem?_take_of_lt (by lia)];exact h1
  have Xw:ps.Nodup:=by rw[<- S.pre];exact S.nd.sublist (List.take_sublist _ _)
  refine⟨u,rv,?_⟩;rcases S.par y (xZ hp) with k|k
  ·exact .inl ⟨k,pL Xw hp hu k⟩
  ·let⟨c,e⟩:=nE (n:=s.heap.objs.size+1) k;refine .inr ⟨.inl k,c,e,?_⟩;have q:=x.cell y c e;rw[qo Xw hp hu (by show scope.names.lookup y≠_;rw[k];decide)] at q;exact q
 ·exact e0.Qh.fresh (jP (x.above y c (jV h)))
 ·unfold start;show _=N.length;rw[zN,zD,xJ];lia
def BY{K:W.Frag}{kV:Value}
  {Sn:Array (Option Value)}{N ps:List Str}{sp:Sp}(lk:K.lookup f=some ⟨oc,od,.func (W.fnOf name qual params body scope dV kV doc pm an QI ct),Sn⟩) (QW:W.codeIn K QI qual=true) (S:cD N ps scope)
  (len:∀vs H Q E,sp vs H Q E->vs.length=ps.length)
  (UJ:∀ (A:Around) (outer:List Env) (s:Shared) (H:Hp) (vs:List V) (Q:VK) (E:XK),gF k (A.deeper (envOfC qual scope s.heap.objs.size f QI))->sp vs H Q E ->
   ∃t,ou (rX CX P w K mg base N qual scope f QI A outer s H E) body t/\t { nx:=λ_ H'=>Q .Qb H',rt:=Q } (start N vs) H) :
  mF P w K mg base CX (k+1) f (W.fnOf name qual params body scope dV kV doc pm an QI ct) ps sp:=by
 refine⟨len,λA outer s H args us vs Q E hr e0 hb r Uy=>?_⟩;have hl:=len _ _ _ _ Uy;have KX:K.In s.heap:=e0.mod.VB.keeps λb o e=>(e0.bs b o e).1;have lim:s.heap.NoLimit:=e0.mod.nolimit.keeps λb o e=>(e0.bs b o e).1;have UK:∀y∈ps.zip us,scope.names.lookup y.1=some .local \/ (scope.names.lookup y.1=some .cell/\((cellsFrom (s.heap.objs.size+1) scope.names []).lookup y.1).isSome=true):=λ⟨n,v⟩ hy=>by
  rcases S.par n (vD hy).1 with q|q
  ·exact .inl q
  ·exact .inr ⟨q,W.cellsFrom_some _ _ _ (.inl q)⟩
 refine codeAny_call_function hr.depth (KX _ _ lk) rfl S.co S.gen rfl (W.codeRec_of KX QW) (hb _ _ _ _ ?_);refine wpAny_newFunctionEnv_cells S.kind UK λenv he s1 x=>?_;subst he;refine⟨lim.keeps x.toInCall.keep,codeAny_func ?_⟩;let⟨t,ht,hq⟩:=UJ A outer s H vs Q E (hr.deeper _) Uy;have I:Inv (rX CX P w K mg base N qual scope f QI A outer s H E) [] (start N vs) H s1:=AZ S hr.hd e0 hl r x;refine yY (ht [] s1 (start N vs) H _ I hq) (λfl s' hs=>?_) λe s' hs=>hs;have fin:∀ {σ':St}{H':Hp}{v:V}{u:Value},Inv (rX CX P w K mg base N qual scope f QI A outer s H E) [] σ' H' s'->RelV v u->Q v H'->CE outer P w H s Q u s' :=
  λ{σ' H' v u} J rv q=>⟨v,H',J.os,J.bare,J.base,J.Qh,rv,q⟩
 cases fl with
 | ret u =>
  let⟨v,σ',H',J,rv,q⟩:=hs;exact fin J rv q
 | next =>
  let⟨σ',H',J,q⟩:=hs;exact fin (v:=V.Qb) (u:=Value.none) J rfl q
 | brk =>
  let⟨_,_,_,q⟩:=hs;exact False.elim q
 | cont =>
  let⟨_,_,_,q⟩:=hs;exact False.elim q
section
variable {id T:String}
def Nw(r:List V->Hp->VK->Prop)(t:TA):TE:=λσ H Q=>t σ H λvs H1=>r vs H1 Q
def ko(hc:cS X (.builtin id) r)(hg:Gl X x)(hm:X.mg x=none)(hv:bootBuiltins x=some (.builtin id))(ha:PA X (e::es) t)(hn:x≠"__name__":=by decide)(QD:(x == ("__debug__":Str))=false:=by decide)
  (he:starEach (e::es) X.env=(false,eval e X.env)::starEach es X.env:=by rfl) (QZ:(backTo pos (starEach es X.env)).any (·.1)=false:=by rfl):PE X (.Call (.Name x p) (e::es) [] pos) (Nw r t):=by
 intro pins s σ H Q I h;refine qU (gL I hg hm hv ?_ hn QD);exact PyProof.Rows.callWith_builtin1 (bC (ha pos pins s σ H _ I h) λus s1 ⟨vs,H1,I1,r1,q1⟩=>hc pins s1 σ H1 vs us Q I1 r1 q1) he QZ
def lS(hc:cS X (.type T) r)(hg:Gl X x)(hm:X.mg x=none)(hv:bootBuiltins x=some (.type T))(ha:PA X (e::es) t)(hn:x≠"__name__":=by decide)(QD:(x == ("__debug__":Str))=false:=by decide)
  (he:starEach (e::es) X.env=(false,eval e X.env)::starEach es X.env:=by rfl) (QZ:(backTo pos (starEach es X.env)).any (·.1)=false:=by rfl):PE X (.Call (.Name x p) (e::es) [] pos) (Nw r t):=by
 intro pins s σ H Q I h;refine qU (gL I hg hm hv ?_ hn QD);exact qP (bC (ha pos pins s σ H _ I h) λus s1 ⟨vs,H1,I1,r1,q1⟩=>hc pins s1 σ H1 vs us Q I1 r1 q1) he QZ
end
end L2
namespace HT
open PySem PyProof.Rows
def lexLt:List Int->List Int->Bool
 | [],[]=>false
 | [],_::_=>true
 | _::_,[]=>false
 | x::xs,y::ys=>if x=y then lexLt xs ys else decide (x < y)
def dw(x y:Int)(xs ys:List Int):lexLt (x::xs) (y::ys)=if x=y then lexLt xs ys else decide (x < y):=rfl
section
open PySem.SeqAt
open PySem.AutoSeq1 (wpAny_loadPart')
open PySem.MeetsSeq PySem.MeetsSeq2 PySem.MeetsSeq3
end
def GU(ht:IsTup s.heap t vs.toArray)(hb:IsTup s.heap b ws.toArray)(hv:vs≠[])
  (h1:ws=[]->Q (.ref t) s) (h2:ws≠[]->Q (.ref s.heap.objs.size) { s with heap:=s.heap.push { cls:=.type "tuple",data:=.seq (vs++ws).toArray } })
  (hsz:vs.length+ws.length<=sizeLine):wpAny (model prog w) A (binaryOp .Add (.ref t) (.ref b)) Q E s:=by
 let⟨⟨cls,dd,data,sl⟩,ho,hc,n,hd⟩:=id ht;let⟨⟨UL,Uz,data2,Si⟩,SO,Tt,n2,hd2⟩:=id hb;simp only at hc hd Tt hd2;subst hc hd Tt hd2;have e:vs.toArray++ws.toArray=(vs++ws).toArray:=by simp
 by_cases hw:ws=[]
 ·exact vT ⟨_,ho,rfl⟩ ⟨_,SO,rfl⟩ noFill_tuple_add seq_tuple_add kY kU (kR _ _)
   (tuple_addW1 t b vs.toArray ws.toArray n n2 dd Uz sl Si (by simpa using hv) (by simp[hw])) ⟨ho,SO,h1 hw⟩
 ·refine vT ⟨_,ho,rfl⟩ ⟨_,SO,rfl⟩ noFill_tuple_add seq_tuple_add kY kU (kR _ _)
   (tuple_addW2 t b vs.toArray ws.toArray n n2 dd Uz sl Si (by simpa using hv) (by simpa using hw) (by rw[zH,zH];exact hsz)) ⟨ho,SO,?_⟩
  rw[e];exact h2 hw
def bp(n d:Nat):Option Int->Nat
 | none=>d
 | some v=>if v < 0 then (v+(n:Int)).toNat else min v.toNat n
def tU(n d:Nat):bp n d none=d:=rfl
def yz(n d k:Nat):bp n d (some (k:Int))=min k n:=by
 show (if (k:Int) < 0 then ((k:Int)+(n:Int)).toNat else min (k:Int).toNat n)=min k n;rw[yL (by lia),yF]
def hJ(n d:Nat)(hd:d<=n)(o:Option Int):bp n d o<=n:=by
 cases o with
 | none=>exact hd
 | some v =>
  show (if v < 0 then (v+(n:Int)).toNat else min v.toNat n)<=n;by_cases hv:v < 0
  ·rw[yJ hv];lia
  ·rw[yL hv];exact Nat.min_le_right _ _
def xx(v:Int)(n d:Nat):(if v < 0 then max (v+(n:Int)) 0 else min v (n:Int))=((bp n d (some v):Nat):Int):=by
 show (if v < 0 then max (v+(n:Int)) 0 else min v (n:Int))=(((if v < 0 then (v+(n:Int)).toNat else min v.toNat n):Nat):Int)
 by_cases hv:v < 0
 ·simp?[yJ hv];lia
 ·simp?[yL hv];lia
def vq(lo hi:Option Int)(n:Nat):Builtin.Slice.sliceAdjust lo hi 1 (n:Int)=(((bp n 0 lo:Nat):Int),((bp n n hi:Nat):Int)):=by
 have h1:¬ ((1:Int) < 0):=by lia
 unfold Builtin.Slice.sliceAdjust;simp?[h1,qM];refine Prod.ext ?_ ?_
 ·cases lo with
  | none=>rfl
  | some v=>exact xx v n 0
 ·cases hi with
  | none=>rfl
  | some v=>exact xx v n n
def wz(i j:Nat):Builtin.Slice.slicePlaces (i:Int) (j:Int) 1=j - i:=by
 unfold Builtin.Slice.slicePlaces;have h1:(1:Int) > 0:=by lia
 simp?[h1,xF,Int.ediv_one];split<;>lia
def oz(p:IsPart v o)(h:Q o s):wpAny (model prog w) A (Builtin.Slice.slicePartIndex v) Q E s:=by
 cases p with
 | none=>exact slicePart_none h
 | int i t=>exact slicePart_int h
def gg{vl:Value}{lo hi:Option Int}{n:Nat}{Q:Int×Int×Nat->Shared->Prop}(hs:s.heap.IsSliceOf sl vl vu .none)(pl:IsPart vl lo)(pu:IsPart vu hi)
  (h:Q (((bp n 0 lo:Nat):Int),1,bp n n hi - bp n 0 lo) s):wpAny (model prog w) A (Builtin.Slice.sliceApplied (.ref sl) (pure (n:Int))) Q E s:=by
 let⟨os,RV,UA,So⟩:=id hs;unfold Builtin.Slice.sliceApplied Builtin.Slice.sliceFields;refine zU (zU (qQ RV So (x:=vl) rfl (zU (qQ RV So (x:=vu) rfl (zU (qQ RV So (x:=.none) rfl (zV ?_)))))));refine zU (slicePart_none ?_);show wpAny _ _ (if ((1:Int) == 0)=true then _ else _) _ _ s;rw[yL (by decide)];refine zU (oz pl (zU (oz pu (zU (zV ?_)))));show wpAny _ _ (match Builtin.Slice.sliceAdjust lo hi 1 (n:Int) with|(lo,hi)=>pure (lo,(1:Int),Builtin.Slice.slicePlaces lo hi 1)) _ _ s;rw[vq lo hi n];show wpAny _ _ (pure (((bp n 0 lo:Nat):Int),(1:Int),Builtin.Slice.slicePlaces ((bp n 0 lo:Nat):Int) ((bp n n hi:Nat):Int) 1)) _ _ s;rw[wz];exact zV h
def DK(xs:Array Value)(i k:Nat):((List.range k).filterMap λ(m:Nat)=>xs[((i:Int)+(m:Int) * 1).toNat]?).toArray=((xs.toList.drop i).take k).toArray:=by
 have e:(λ(m:Nat)=>xs[((i:Int)+(m:Int) * 1).toNat]?)=λm=>xs[i+m]?:=by
  funext m;have:((i:Int)+(m:Int) * 1).toNat=i+m:=by lia
  rw[this]
 rw[e];have:=pick_run xs i k;rw[List.filterMap_map] at this;have e2:((λx=>xs[x]?) ∘ λx=>i+x)=λm=>xs[i+m]?:=rfl;rw[e2] at this;rw[this]
def j7{items:Array Value}{vl:Value}{lo:Option Int}(ht:IsTup s.heap t items)(hs:s.heap.IsSliceOf sl vl vu .none)(pl:IsPart vl lo)(pu:IsPart vu hi)
  (hw:¬ (bp items.size 0 lo=0/\bp items.size items.size hi=items.size))
  (h:Q (.ref s.heap.objs.size) { s with heap:=s.heap.push { cls:=.type "tuple",data:=.seq ((items.toList.drop (bp items.size 0 lo)).take (bp items.size items.size hi - bp items.size 0 lo)).toArray } })
  (hsz:items.size<=sizeLine):wpAny (model prog w) A (getItem (.ref t) (.ref sl)) Q E s:=by
 have RW:sizeOk (.seq ((items.toList.drop (bp items.size 0 lo)).take (bp items.size items.size hi - bp items.size 0 lo)).toArray):=by
  show ((items.toList.drop (bp items.size 0 lo)).take (bp items.size items.size hi - bp items.size 0 lo)).toArray.size<=sizeLine;rw[zH,jS,qF,vN];lia
 have hj:bp items.size items.size hi<=items.size:=hJ _ _ (yK _) hi;let⟨os,RV,UA,So⟩:=id hs;have UM:s.TypeIs (.ref sl) "slice":=⟨os,RV,UA⟩
 unfold getItem
 try with_reducible refine xV ?_
 first|refine zU (zV ?_)|skip
 refine zU (wpAny_sequenceKey ht.typeIs (by decide) ?_);refine zU (qA (name:=Str.ofString "__getitem__") ht.typeIs jB
  (qS jB ht.typeIs entry_tuple_getitem ?_ (args_tuple_getitem _ _)))
 show wpAny _ _ (Builtin.Tuple.tupleItemsOf (.ref t) >>= _) _ _ s;refine zU (tupleItemsOf_ ht ?_);refine zU (vS UM ?_);rw[yJ (by decide)];refine zU (gg hs pl pu ?_);have S5:¬ ((((bp items.size 0 lo:Nat):Int) == 0&&(1:Int) == 1&&(bp items.size items.size hi - bp items.size 0 lo) == items.size)=true):=by
  intro q;rw[zF,zF] at q;have q1:((bp items.size 0 lo:Nat):Int)=0:=eq_of_beq q.1.1;have q2:bp items.size items.size hi - bp items.size 0 lo=items.size:=eq_of_beq q.2;exact hw ⟨by lia,by lia⟩
 show wpAny _ _ (if (((bp items.size 0 lo:Nat):Int) == 0&&(1:Int) == 1&&(bp items.size items.size hi - bp items.size 0 lo) == items.size)=true then _ else _) _ _ s;rw[yL S5,DK]
 first
  | exact zU (m:=Builtin.Tuple.tupleExact _) (qJ (zV ⟨_,rfl,zV h⟩) RW)
  | exact zU (m:=Builtin.Tuple.tupleExact _) (qJ (zU (zV (zV ⟨_,rfl,zV h⟩))) RW)
  | exact zU (zU (m:=Builtin.Tuple.tupleExact _) (qJ (zV (zV ⟨_,rfl,zV h⟩)) RW))
  | exact zU (zU (m:=Builtin.Tuple.tupleExact _) (qJ (zV ⟨_,rfl,zV h⟩) RW))
end HT
namespace L2
open PySem PySem.Spec PyProof.Rows
abbrev TO:=St->Hp->(Option Int->Hp->Prop)->Prop
def PO(X:Cx)(e:Option Expr)(t:TO):Prop :=
 ∀ (pins:List (Addr×Obj)) (s:Shared) (σ:St) (H:Hp) (Q:Option Int->Hp->Prop),Inv X pins σ H s->t σ H Q ->
  wpAny (model X.prog X.w) X.A (evalPart e X.env) (λu s'=>∃o H',Inv X pins σ H' s'/\IsPart u o/\Q o H') X.xe s
def Hw:TO:=λ_ H Q=>Q none H
def Ml(t:TE):TO:=λσ H Q=>t σ H λx H1=>∃i,x=.int i/\Q (some i) H1
def intsAre_of:∀ {us:List Value},aA (ns.map V.int) us->IntsAre us ns:=by
 induction ns with
 | nil=>intro us r;rw[yS] at r;cases r;exact .nil
 | cons n ns ih =>
  intro us r;rw[zI] at r;cases r with
  | cons r1 r2 =>
   let⟨t,e⟩:=r1;subst e;exact .cons n t (ih r2)
section
variable {lo hi:Option Expr}
def GC:PO X none Hw:=by
 intro pins s σ H Q I h;rw[evalPart_none];exact zV ⟨none,H,I,.none,h⟩
def se(h:PE X e te):PO X (some e) (Ml te):=by
 intro pins s σ H Q I hw;rw[evalPart_some];refine bC (h pins s σ H _ I hw) λu s1 ⟨x,H1,I1,r1,q1⟩=>?_;let⟨i,rfl,q⟩:=q1;let⟨t,rfl⟩:=r1;exact⟨some i,H1,I1,.int i t,q⟩
def GE(X:Cx)(r:V->Option Int->Option Int->Hp->VK->Prop):Prop :=
 ∀ (pins:List (Addr×Obj)) (s:Shared) (σ:St) (H:Hp) (x:V) (v vl vu:Value) (lo hi:Option Int) (sl:Addr) (Q:VK),Inv X pins σ H s->RelV x v->s.heap.IsSliceOf sl vl vu .none->IsPart vl lo->IsPart vu hi->r x lo hi H Q ->
  ∃T id,typeLookup (.type T) "__getitem__"=pure (some (.builtin id))/\s.TypeIs v T/\wpAny (model X.prog X.w) X.A (getItem v (.ref sl)) (EP X pins σ Q) X.xe s
def GE.or(h:GE X r)(h':GE X r'):GE X (λx lo hi H Q=>r x lo hi H Q\/r' x lo hi H Q):=by
 intro pins s σ H x v vl vu lo hi sl Q I rx hs pl pu q;rcases q with q|q
 ·exact h pins s σ H x v vl vu lo hi sl Q I rx hs pl pu q
 ·exact h' pins s σ H x v vl vu lo hi sl Q I rx hs pl pu q
def PR(r:V->Option Int->Option Int->Hp->VK->Prop)(te:TE)(tl th:TO):TE:=λσ H Q=>te σ H λx H1=>tl σ H1 λl H2=>th σ H2 λu H3=>r x l u H3 Q
def uo(hr:GE X r)(he:PE X e te)(hl:PO X lo tl)(hu:PO X hi th):PE X (.Subscript e (.Slice lo hi none p2) pos) (PR r te tl th):=by
 intro pins s σ H Q I h;refine Subscript_ (bC (he pins s σ H _ I h) λv s1 ⟨x,H1,I1,r1,q1⟩=>?_);refine wpAny_Slice (bC (hl pins s1 σ H1 _ I1 q1) λvl s2 ⟨l,H2,I2,pl,q2⟩=>bC (hu pins s2 σ H2 _ I2 q2) λvu s3 ⟨u,H3,I3,pu,q3⟩=>?_);rw[evalPart_none];refine zV ?_;have I4:Inv X pins σ H3 { s3 with heap:=s3.heap.push { cls:=.type "slice",data:=.fields #[vl,vu,.none] } }:=I3.kept (t':=s3.toks) λb ob q=>zT _ q;let⟨T,id,hT,ht,hg⟩:=hr pins { s3 with heap:=s3.heap.push { cls:=.type "slice",data:=.fields #[vl,vu,.none] } } σ H3 x v vl vu l u s3.heap.objs.size Q I4 r1 (Heap.IsSliceOf.new ..) pl pu q3;show wpAny (model X.prog X.w) X.A (subscriptTail e (.Slice lo hi none p2) v (.ref s3.heap.objs.size)) (EP X pins σ Q) X.xe { s3 with heap:=s3.heap.push { cls:=.type "slice",data:=.fields #[vl,vu,.none] } };exact tail_any (ops:=[.ref s3.heap.objs.size,v]) ht hT hg (by with_unfolding_all rfl)
def FX(xs:List V)(lo hi:Option Int):List V:=(xs.drop (HT.bp xs.length 0 lo)).take (HT.bp xs.length xs.length hi - HT.bp xs.length 0 lo)
def tI(xs:List V)(lo hi:Option Int):(FX xs lo hi).length<=xs.length:=by
 unfold FX;rw[jS,qF];lia
def Ot(K:W.Frag):V->Option Int->Option Int->Hp->VK->Prop:=λx lo hi H Q=>∃a xs,x=.ref a/\eE K H a xs /\
 ¬ (HT.bp xs.length 0 lo=0/\HT.bp xs.length xs.length hi=xs.length)/\∀p,H p=none->Q (.ref p) (upd H p (.tup (FX xs lo hi)))
def J1:GE X (Ot X.K):=by
 intro pins s σ H x v vl vu lo hi sl Q I rx hs pl pu h;let⟨a,xs,rfl,hx,hw,q⟩:=h;cases rx;let⟨its,r,ht,hz⟩:=I.tuple hx;have hlen:its.toArray.size=xs.length:=by rw[zH];exact r.length.symm
 refine⟨"tuple",_,PyProof.Rows.slot_tuple_getitem.lookup,ht.typeIs,?_⟩;refine HT.j7 ht hs pl pu (by rw[hlen];exact hw) ?_ (by rw[hlen];exact hz);rw[hlen];refine⟨.ref s.heap.objs.size,_,I.laid (t':=s.toks) (o:=.tup (FX xs lo hi)) (λb ob q=>zT _ q) (yK _) ?_,rfl,q _ (I.Qh.fresh (yK _))⟩;exact⟨yC (tI xs lo hi) hz,_,(r.drop (HT.bp xs.length 0 lo)).take (HT.bp xs.length xs.length hi - HT.bp xs.length 0 lo),mz.new _ _⟩
def Mn(K:W.Frag):R2:=λx y H Q=>∃a b xs ys,x=.ref a/\y=.ref b/\eE K H a xs/\eE K H b ys/\xs≠[]/\xs.length+ys.length<=sizeLine /\
 (ys=[]->Q (.ref a) H)/\(ys≠[]->∀p,H p=none->Q (.ref p) (upd H p (.tup (xs++ys))))
def aA.Q3(r:aA xs us):us=[]↔xs=[]:=by
 cases r with
 | nil=>simp
 | cons _ _=>simp
def Gr:eN X (binaryOp .Add) (Mn X.K):=by
 intro pins s σ H x y v u Q I rx ry h;let⟨a,b,xs,ys,rfl,rfl,ha,hb,hx,hz,q1,q2⟩:=h;cases rx;cases ry;let⟨its,r1,p1,_⟩:=I.tuple ha;let⟨QS,r2,p2,_⟩:=I.tuple hb;refine HT.GU p1 p2 (λz=>hx (r1.Q3.mp z)) (λz=>⟨.ref a,H,I,rfl,q1 (r2.Q3.mp z)⟩) (λz=>?_) (by rw[<- r1.length,<- r2.length];exact hz);refine⟨.ref s.heap.objs.size,_,I.laid (t':=s.toks) (o:=.tup (xs++ys)) (λb ob q=>zT _ q) (yK _) ?_,rfl,q2 (λw=>z (r2.Q3.mpr w)) _ (I.Qh.fresh (yK _))⟩;exact⟨by rw[zN];exact hz,_,r1.append r2,mz.new _ _⟩
end
def C8(n:Nat)(i:Int):Option Nat:=if 0<=i then (if i < n then some i.toNat else none) else if -(n:Int)<=i then some (i+n).toNat else none
def jj(xs:List α)(i:Int):Option α:=(C8 xs.length i).bind λj=>xs[j]?
def ym(h:C8 n i=some j):seqIndex? i n=some j/\j < n/\-(n:Int)<=i/\i < n:=by
 unfold C8 at h;by_cases h0:0<=i
 ·rw[yJ h0] at h;by_cases h1:i < n
  ·rw[yJ h1] at h;have e:i.toNat=j:=xB h;exact⟨by rw[seqIndex_of h0 h1,e],by lia,by lia,h1⟩
  ·rw[yL h1] at h;cases h
 ·rw[yL h0] at h;by_cases h1:-(n:Int)<=i
  ·rw[yJ h1] at h;have e:(i+n).toNat=j:=xB h;exact⟨by rw[seqIndex_neg (by lia) h1,e],by lia,h1,by lia⟩
  ·rw[yL h1] at h;cases h
def rC(h:jj xs i=some v):∃j,seqIndex? i xs.length=some j/\xs[j]?=some v/\j < xs.length/\-(xs.length:Int)<=i/\i < xs.length:=by
 unfold jj at h;cases e:C8 xs.length i with
 | none=>rw[e] at h;cases h
 | some j =>
  rw[e] at h;let⟨h1,h2,h3,h4⟩:=ym e;exact⟨j,h1,h,h2,h3,h4⟩
def su{α:Type}{xs:List α}{j:Nat}{v:α}(h:xs[j]?=some v):jj xs (j:Int)=some v:=by
 have hj:j < xs.length:=(List.getElem?_eq_some_iff.mp h).1;have e:C8 xs.length (j:Int)=some j:=by
  unfold C8;rw[yJ (by lia),yJ (by lia)];simp
 unfold jj;rw[e];exact h
def kf(b:Expr):Prop:=∀o i,subscripted b false o i=operate [o,i] (getItem o i)
def Fc(X:Cx)(r:R2):Prop :=
 ∀ (value slice:Expr) (pins:List (Addr×Obj)) (s:Shared) (σ:St) (H:Hp) (x y:V) (v u:Value) (Q:VK),Inv X pins σ H s->RelV x v->RelV y u->r x y H Q ->
  subscripted slice false v u=operate [v,u] (getItem v u)->wpAny (model X.prog X.w) X.A (subscriptTail value slice v u) (EP X pins σ Q) X.xe s
def Ph(X:Cx)(id:String)(r:V->List V->Hp->VK->Prop):Prop :=
 ∀ (pins:List (Addr×Obj)) (s:Shared) (σ:St) (H:Hp) (x:V) (xs:List V) (v:Value) (us:List Value) (Q:VK),Inv X pins σ H s->RelV x v->aA xs us->r x xs H Q ->
  wpAny (model X.prog X.w) X.A (call (.builtin id) (v::us)) (EP X pins σ Q) X.xe s
section
def Fc.or(h:Fc X r)(h':Fc X r'):Fc X (λx y H Q=>r x y H Q\/r' x y H Q):=by
 intro value slice pins s σ H x y v u Q I rx ry q hs;rcases q with q|q
 ·exact h value slice pins s σ H x y v u Q I rx ry q hs
 ·exact h' value slice pins s σ H x y v u Q I rx ry q hs
def Da(hr:Fc X r)(ha:PE X a ta)(hb:PE X b tb)(hs:kf b):PE X (.Subscript a b pos) (Mb r ta tb):=by
 intro pins s σ H Q I h;exact Subscript_ (Lm ha hb I h λv u s2 x y H2 I2 rx ry q=>hr a b pins s2 σ H2 x y v u Q I2 rx ry q (hs _ _))
def MS(K:W.Frag):R2:=λx y H Q=>∃p xs i v,x=.ref p/\y=.int i/\eH K H p xs/\jj xs i=some v/\Q v H
def LU(K:W.Frag):R2:=λx y H Q=>∃p xs i v,x=.ref p/\y=.int i/\eE K H p xs/\jj xs i=some v/\Q v H
def Jh:R2:=λx y H Q=>∃z i c,x=.str z/\y=.int i/\z.length<=sizeLine/\jj z.cps.toList i=some c/\Q (.str ⟨#[c]⟩) H
def GD:Fc X (MS X.K):=by
 intro value slice pins s σ H x y v u Q I rx ry h hs;let⟨p,xs,i,z,rfl,rfl,hq,he,q⟩:=h;cases rx;let⟨t,rfl⟩:=ry;let⟨its,r,pl,hz⟩:=I.list hq;let⟨j,h1,h2,h3,h4,h5⟩:=rC he;let⟨w,ew,UN⟩:=r.get h2;have hl:=r.length;have hn:=lC;have fin:EP X pins σ Q w s:=⟨z,H,I,UN,q⟩
 by_cases h0:0<=i
 ·have hj:i.toNat=j:=by
   rw[seqIndex_of h0 h5] at h1;exact xB h1
  exact item_listR pl.isList h0 (by lia) (by rw[hj];simpa using ew) fin hs
 ·have hj:(i+(its.toArray.size:Int)).toNat=j:=by
   rw[seqIndex_neg (by lia) h4] at h1;rw[zH,<- hl];exact xB h1
  exact subscriptTail_builtinR (x:=w) pl.isList.typeIs slot_list_getitem.lookup
   (wpAny_getItem_list_neg (Q:=λr s'=>r=w/\EP X pins σ Q r s') pl.isList (by lia) (by rw[zH]<;>lia) (by lia) (by rw[hj];simpa using ew) ⟨rfl,fin⟩) hs
def DP:Fc X (LU X.K):=by
 intro value slice pins s σ H x y v u Q I rx ry h hs;let⟨p,xs,i,z,rfl,rfl,hq,he,q⟩:=h;cases rx;let⟨t,rfl⟩:=ry;let⟨its,r,pl,hz⟩:=I.tuple hq;let⟨j,h1,h2,h3,h4,h5⟩:=rC he;let⟨w,ew,UN⟩:=r.get h2;have hl:=r.length;have hn:=lC;have fin:EP X pins σ Q w s:=⟨z,H,I,UN,q⟩
 exact subscriptTail_builtinR (x:=w) pl.typeIs slot_tuple_getitem.lookup
  (getItem_tuple (j:=j) (Q:=λr s'=>r=w/\EP X pins σ Q r s') pl (by lia) (by lia) (by rw[zH,<- hl];exact h1) (by simpa using ew) ⟨rfl,fin⟩) hs
def Dw:Fc X Jh:=by
 intro value slice pins s σ H x y v u Q I rx ry h hs;let⟨z,i,c,rfl,rfl,hz,he,q⟩:=h;let⟨t,rfl⟩:=rx;let⟨t',rfl⟩:=ry;let⟨j,h1,h2,h3,h4,h5⟩:=rC he;have hl:z.cps.toList.length=z.length:=by simp[Str.length]
 rw[hl] at h1 h4 h5;have hn:=lC;exact tail_any (typeIs_str s z t) slot_str_getitem.lookup (getItem_str (c:=c) (by
  have e1:decide (i < -(2 ^ 63:Int))=false:=zY (by lia);have e2:decide (i >= 2 ^ 63)=false:=zY (by lia);rw[e1,e2,Bool.or_false]) (by rw[h1];simpa using h2) ⟨.str ⟨#[c]⟩,H,I.tok _,⟨_,rfl⟩,q⟩) hs
def Pa(K:W.Frag):R2:=λx y H Q=>MS K x y H Q\/LU K x y H Q\/Jh x y H Q
def Ld:Fc X (Pa X.K):=GD.or (DP.or Dw)
def vi(its:List Value)(n j:Nat)(u:Value):Obj.mapSeq (·.setIfInBounds j u) { cls:=.type "list",data:=.seq its.toArray n }={ cls:=.type "list",data:=.seq (its.set j u).toArray n }:=by
 simp[Obj.mapSeq]
def Inv.lst(I:Inv X pins σ H s)(h:H p=some (.lst xs)) :
  ∃ (its:List Value) (n:Nat),aA xs its/\s.heap.get? p=some { cls:=.type "list",data:=.seq its.toArray n }/\xs.length<=sizeLine:=by
 let⟨z,its,n,r,e⟩:=I.Qh p _ h;exact⟨its,n,r,e,z⟩
def Inv.T3{ys:List V}{its its':List Value}{n n':Nat}{f:Obj->Obj}(I:Inv X pins σ H s)(h:H p=some (.lst xs))
  (ho:s.heap.get? p=some { cls:=.type "list",data:=.seq its.toArray n }) (hf:f { cls:=.type "list",data:=.seq its.toArray n }={ cls:=.type "list",data:=.seq its'.toArray n' }) (r:aA ys its') (hz:ys.length<=sizeLine) (t:Nat) :
  Inv X pins σ (upd H p (.lst ys)) { s with heap:=s.heap.update p f,toks:=t }:=by
 have e:(s.heap.update p f).get? p=some { cls:=.type "list",data:=.seq its'.toArray n' }:=by
  rw[Heap.get?_update_self f ho (by rw[hf]<;>rfl),hf]
 refine I.write (x:=p) (e:=p) (by rw[h];trivial) (.inl rfl) (λb u hb q=>(xK _ _ (jJ hb)).trans q) ⟨_,e⟩ ?_;exact⟨hz,its',n',r,e⟩
def L7:V->V->V->Hp->(Hp->Prop)->Prop:=λo i v H Q=>∃p xs k j,o=.ref p/\i=.int k/\H p=some (.lst xs)/\C8 xs.length k=some j/\Q (upd H p (.lst (xs.set j v)))
def set_list:KQ X L7:=by
 intro pins s σ H o i v ov iv u Q I ro ri rv h;let⟨p,xs,k,j,rfl,rfl,hp,hj,q⟩:=h;cases ro;let⟨t,rfl⟩:=ri;let⟨its,n,r,ho,hz⟩:=I.lst hp;let⟨h1,h2,h3,h4⟩:=ym hj;have hl:=r.length;have hn:=lC;have I':Inv X pins σ (upd H p (.lst (xs.set j v))) { s with heap:=s.heap.update p (Obj.mapSeq (·.setIfInBounds j u)) } :=
  I.T3 hp ho (vi its n j u) (r.set rv j) (by rw[yB];exact hz) s.toks
 by_cases h0:0<=k
 ·have hk:k.toNat=j:=by
   rw[seqIndex_of h0 h4] at h1;exact xB h1
  exact W.ki_setAt ho h0 (by lia) (by rw[zH,<- hl];exact h4) (by rw[hk];exact⟨_,I',q⟩)
 ·have hk:(k+(its.toArray.size:Int)).toNat=j:=by
   rw[seqIndex_neg (by lia) h3] at h1;rw[zH,<- hl];exact xB h1
  exact W.ki_setBack ho (by lia) (by rw[zH,<- hl];exact h3) (by lia) (by rw[hk];exact⟨_,I',q⟩)
def rN:cS X (.builtin "len") (λxs H Q=>∃p ys,xs=[.ref p]/\(eH X.K H p ys\/eE X.K H p ys)/\Q (.int ys.length) H):=by
 intro pins s σ H xs us Q I r h;let⟨p,ys,rfl,hq,q⟩:=h;let⟨u,rfl,rx⟩:=vals1 r;cases rx;have hn:=lC;rcases hq with hq|hq
 ·let⟨its,r',pl,hz⟩:=I.list hq;have hlen:=r'.length;exact Calls.call_len_list pl.isList (by simp?[zH]<;>lia) ⟨.int ys.length,H,I.tok _,⟨s.toks+1,by rw[zH,hlen]⟩,q⟩
 ·let⟨its,r',pl,hz⟩:=I.tuple hq;have hlen:=r'.length;exact len_tuple pl (by simp?[zH]<;>lia) ⟨.int ys.length,H,I.tok _,⟨s.toks+1,by rw[zH,hlen]⟩,q⟩
def rO:cS X (.builtin "len") (λxs H Q=>∃z,xs=[.str z]/\z.length<=sizeLine/\Q (.int z.length) H):=by
 intro pins s σ H xs us Q I r h;let⟨z,rfl,hz,q⟩:=h;let⟨u,rfl,t,rfl⟩:=vals1 r;have hn:=lC;exact len_str (by lia) ⟨.int z.length,H,I.tok _,⟨_,rfl⟩,q⟩
def sN:cS X (.type "list") (λxs H Q=>∃p ys,xs=[.ref p]/\(eH X.K H p ys\/eE X.K H p ys)/\∀l,H l=none->Q (.ref l) (upd H l (.lst ys))):=by
 intro pins s σ H xs us Q I r h;let⟨p,ys,rfl,hq,q⟩:=h;let⟨u,rfl,rx⟩:=vals1 r;cases rx;have fin:∀ (its:List Value),aA ys its->ys.length<=sizeLine->∀ (h':Heap) (c':Nat),(∀b o',s.heap.get? b=some o'->h'.get? b=some o') ->
   h'.get? s.heap.objs.size=some { cls:=.type "list",dict:=none,data:=.seq its.toArray c',slots:=#[] }->EP X pins σ Q (.ref s.heap.objs.size) { s with heap:=h' }:=λits r' hz h' c' kp e =>
  ⟨.ref s.heap.objs.size,_,I.laid (t':=s.toks) kp (yK _) (show cU X.prog X.w _ h' _ (.lst ys) from ⟨hz,its,c',r',e⟩),rfl,q _ (I.Qh.fresh (yK _))⟩
 rcases hq with hq|hq
 ·let⟨its,r',pl,hz⟩:=I.list hq;have hlen:=r'.length;let⟨o,ho,hc,n,hd⟩:=pl.isList;exact call_list_seq p (.inl rfl) ho hc hd (λh' c' kp e=>fin its r' hz h' c' kp e) (by simp?[zH]<;>lia)
 ·let⟨its,r',pl,hz⟩:=I.tuple hq;have hlen:=r'.length;let⟨o,ho,hc,n,hd⟩:=pl;exact call_list_seq p (.inr rfl) ho hc hd (λh' c' kp e=>fin its r' hz h' c' kp e) (by simp?[zH]<;>lia)
def oZ:cS X (.type "tuple") (λxs H Q=>∃p ys,xs=[.ref p]/\((eH X.K H p ys/\∀l,H l=none->Q (.ref l) (upd H l (.tup ys)))\/(eE X.K H p ys/\Q (.ref p) H))):=by
 intro pins s σ H xs us Q I r h;let⟨p,ys,rfl,h⟩:=h;let⟨u,rfl,rx⟩:=vals1 r;cases rx;rcases h with ⟨hq,q⟩|⟨hq,q⟩
 ·let⟨its,r',pl,hz⟩:=I.list hq;have hlen:=r'.length;refine call_tuple_list pl.isList (λh' kp=>?_) (by simp?[zH]<;>lia);have I1:Inv X pins σ H { s with heap:=h' }:=I.kept (t':=s.toks) kp;have I2:Inv X pins σ (upd H h'.objs.size (.tup ys)) { s with heap:=h'.push { cls:=.type "tuple",data:=.seq its.toArray } } :=
   I1.laid (t':=s.toks) (λb o e=>zT _ e) (yK _) (show cU X.prog X.w _ _ _ (.tup ys) from ⟨hz,its,r',mz.new _ _⟩)
  exact⟨.ref h'.objs.size,_,I2,rfl,q _ (I1.Qh.fresh (yK _))⟩
 ·let⟨its,r',pl,hz⟩:=I.tuple hq;exact call_tuple_same pl ⟨.ref p,H,I,rfl,q⟩
def Pf(K:W.Frag)(T:String)(x:V)(H:Hp):Prop:=match x with
 | .str _=>T="str"
 | .int _=>T="int"
 | .ref p=>(T="list"/\∃xs,eH K H p xs)\/(T="tuple"/\∃xs,eE K H p xs) \/
   (T="dict"/\((∃QF,H p=some (.dK QF))\/∃QF,H p=some (.dT QF)))\/(T="set"/\∃S n,H p=some (.set S n))
 | _=>False
def JW(I:Inv X pins σ H s)(r:RelV x v)(ty:Pf X.K T x H) :
  s.TypeIs v T/\∀a,v=.ref a->∃ob,s.heap.get? a=some ob/\ob.dict=none:=by
 cases x with
 | str z =>
  let⟨t,rfl⟩:=r;cases (show T="str" from ty);exact⟨typeIs_str s z t,λ_ e=>nomatch e⟩
 | int i =>
  let⟨t,rfl⟩:=r;cases (show T="int" from ty);exact⟨vO s i t,λ_ e=>nomatch e⟩
 | ref p =>
  cases r;rcases ty with ⟨rfl,xs,hq⟩|⟨rfl,xs,hq⟩|⟨rfl,hk⟩|⟨rfl,S,n,hk⟩
  ·let⟨its,_,pl,_⟩:=I.list hq;refine⟨pl.isList.typeIs,λa e=>?_⟩;cases e;let⟨o,n,e,c,hd,_⟩:=pl;exact⟨o,e,hd⟩
  ·rcases hq with hq|⟨o,its,n,hk,hc,hd,_⟩
   ·let⟨_,_,_,⟨o,e1,e2,_⟩,o2,e3,e4⟩:=hq.ok I.Qh;exact⟨⟨o,e1,e2⟩,λa e=>by cases e;exact⟨o2,e3,e4⟩⟩
   ·exact⟨⟨o,I.RF p o hk,hc⟩,λa e=>by cases e;exact⟨o,I.RF _ o hk,hd⟩⟩
  ·have z:∃o,s.heap.get? p=some o/\o.ExactDict:=by
    rcases hk with ⟨QF,hk⟩|⟨QF,hk⟩
    ·let⟨_,_,_,_,o,_,_,e,ex,_⟩:=I.Qh p _ hk;exact⟨o,e,ex⟩
    ·let⟨_,_,_,_,o,_,_,e,ex,_⟩:=I.Qh p _ hk;exact⟨o,e,ex⟩
   let⟨o,e,ex⟩:=z;refine⟨⟨o,e,ex.1⟩,λa e2=>?_⟩;cases e2;exact⟨o,e,ex.2.1⟩
  ·let⟨o,_,_,_,e,ex,_⟩:=I.Qh p _ hk;refine⟨⟨o,e,ex.1⟩,λa e2=>?_⟩;cases e2;exact⟨o,e,ex.2.1⟩
 | _=>exact False.elim ty
def Pt(K:W.Frag)(T:String)(r:V->List V->Hp->VK->Prop)(to:TE)(t:TA):TE:=λσ H Q=>to σ H λx H1=>Pf K T x H1/\t σ H1 λxs H2=>r x xs H2 Q
variable {T id:String}
def mn(pa:PlainAttrs T)(slot:Slot T name id)(Wc:typeOf (.builtin id)=pure (.type "method_descriptor"))(hm:Ph X id r)(ho:PE X o to)(ha:PA X (e::es) t)
  (Qz:attributeBase o name X.env (eval o X.env)=eval o X.env:=by rfl)
  (QB:((backTo Qe (starEach (e::es) X.env)).all (λx=>!x.1)&&(backToKw Qe (keywordEach [] X.env)).all (λx=>x.1.isSome)
   &&decide ((e::es).length+([]:List Keyword).length+(if ([]:List Keyword).isEmpty then 0 else 1) < 30))=true:=by rfl)
  (Qm:(apos.endLine == Qe.line)=true:=by rfl) (hs:starEach (e::es) X.env=(false,eval e X.env)::starEach es X.env:=by rfl) (T5:(backTo Qe (starEach es X.env)).any (·.1)=false:=by rfl) :
  PE X (.Call (.Attribute o name apos) (e::es) [] Qe) (Pt X.K T r to t):=by
 intro pins s σ H Q I h;refine wpAny_Call_method_late Qz QB Qm rfl (bC (ho pins s σ H _ I h) λv s1 ⟨x,H1,I1,r1,ty,q1⟩=>?_);let⟨h1,h2⟩:=JW I1 r1 ty;refine⟨T,id,pa,slot,Wc,h1,h2,?_⟩;have hA:=ha Qe pins s1 σ H1 _ I1 q1;rw[hs] at hA ⊢;refine Calls.callWith_builtin (by show (false||(backTo Qe (starEach es X.env)).any (·.1))=false;rw[T5]<;>rfl) (Calls.evalArgs_plain ?_);exact bC hA λus s2 ⟨vs,H2,I2,r2,q2⟩=>hm pins s2 σ H2 x vs v us Q I2 r1 r2 q2
/- xs.append(e),list.index on a UO tuple .. are Ph facts of 06m -/
end
def IV(X:Cx)(id:String)(r:V->List V->Hp->VK->Prop):Prop :=
 ∀ (pins:List (Addr×Obj)) (s:Shared) (σ:St) (H:Hp) (x:V) (xs:List V) (v:Value) (us:List Value) (Q:VK),Inv X pins σ H s->RelV x v->aA xs us->r x xs H Q ->
  wpAny (model X.prog X.w) X.A (call (.builtin id) (v::us)) (EP X pins σ Q) X.xe s
def aA.one:∀ {x:V}{us:List Value},aA [x] us->∃u,us=[u]/\RelV x u
 | _,_,.cons r .nil=>⟨_,rfl,r⟩
def aA.two:∀ {x y:V}{us:List Value},aA [x,y] us->∃u v,us=[u,v]/\RelV x u/\RelV y v
 | _,_,_,.cons r (.cons q .nil)=>⟨_,_,rfl,r,q⟩
def aA.reverse(h:aA xs us):aA xs.reverse us.reverse:=by
 induction h with
 | nil=>exact .nil
 | cons r t ih=>rw[kO,kO];exact aA.append ih (.cons r .nil)
def aA.rep(h:aA xs us):∀k:Nat,aA (List.replicate k xs).flatten (List.replicate k us).flatten
 | 0=>.nil
 | k+1=>by
  rw[xC,xC,qK,qK];exact aA.append h (aA.rep h k)
def foldl_rep(its:List Value):∀ (k:Nat) (acc:List Value),
  List.foldl (λx1 x2=>x1++x2) acc.toArray (List.replicate k its.toArray)=(acc++(List.replicate k its).flatten).toArray
 | 0,acc=>by simp
 | k+1,acc=>by
  have e:acc.toArray++its.toArray=(acc++its).toArray:=by simp
  have e2:(acc++its)++(List.replicate k its).flatten=acc++(List.replicate (k+1) its).flatten:=by
   rw[xC,qK,List.append_assoc]
  rw[<- e2,<- foldl_rep its k (acc++its),<- e,xC,List.foldl_cons]
section
variable {xs ys zs:List V}
def Inv.T7{its its':List Value}{n:Nat}{f:Array Value->Array Value}{t':Nat}(I:Inv X pins σ H s)(hH:H l=some (.lst xs))
  (e:s.heap.get? l=some { cls:=.type "list",data:=.seq its.toArray n }) (hf:f its.toArray=its'.toArray) (hv:aA ys its') (hz:ys.length<=sizeLine) :
  Inv X pins σ (upd H l (.lst ys)) { s with heap:=s.heap.update l (Obj.mapSeq f),toks:=t' }:=by
 have q:=PySem.IsL.update e f;rw[hf] at q;refine I.write (x:=l) (e:=l) (by rw[hH];exact trivial) (.inl rfl) (λb' u hb hu=>(xK s.heap (Obj.mapSeq f) (jJ hb)).trans hu) ⟨_,q⟩ ?_;exact⟨hz,its',_,hv,q⟩
def Inv.S6{t':Nat}(I:Inv X pins σ H s)(hv:aA ys its)(hz:ys.length<=sizeLine) :
  Inv X pins σ (upd H s.heap.objs.size (.lst ys)) { s with heap:=s.heap.push { cls:=.type "list",data:=.seq its.toArray },toks:=t' } :=
 I.laid (λ_ _ q=>zT _ q) (yK _) ⟨hz,its,0,hv,zW _ rfl⟩
def Inv.fresh(I:Inv X pins σ H s):H s.heap.objs.size=none:=I.Qh.fresh (yK _)
def Inv.Sq(I:Inv X pins σ H s)(hH:H l=some (.lst xs)):xs.length<=sizeLine/\∃ (its:List Value) (n:Nat),aA xs its/\xs.length=its.length/\s.heap.get? l=some { cls:=.type "list",data:=.seq its.toArray n }:=by
 let⟨z,its,n,r,e⟩:=I.Qh l _ hH;exact⟨z,its,n,r,r.length,e⟩
def uE(h:n<=sizeLine):Builtin.List.listTooLong n=false:=by
 unfold Builtin.List.listTooLong;exact zY (by lia)
end
def GR:V->List V->Hp->VK->Prop:=λx vs H Q=>∃l xs y,x=.ref l/\vs=[y]/\H l=some (.lst xs)/\xs.length < sizeLine/\Q .Qb (upd H l (.lst (xs++[y])))
def p7:IV X "list.append" GR:=by
 intro pins s σ H x vs v us Q I rx rv h;let⟨l,xs,y,rfl,rfl,hH,hz,q⟩:=h;cases rx;let⟨u,rfl,ru⟩:=rv.one;let⟨z,its,n,r,hl,e⟩:=I.Sq hH;refine qT F.slot_list_append ⟨_,e,rfl⟩ F.entry_list_append (F.args_list_append_2 _ _) (PySem.list_append l its.toArray n u (by rw[zH];lia)) ⟨e,?_⟩;refine⟨.Qb,_,I.T7 (its':=its++[u]) hH e (by simp) (r.append (.cons ru .nil)) ?_,rfl,q⟩;rw[zN,xA];lia
def HV:V->List V->Hp->VK->Prop:=λx vs H Q=>∃l b xs zs,x=.ref l/\vs=[.ref b]/\H l=some (.lst xs)/\H b=some (.lst zs)/\xs.length+zs.length<=sizeLine/\Q .Qb (upd H l (.lst (xs++zs)))
def AL:IV X "list.extend" HV:=by
 intro pins s σ H x vs v us Q I rx rv h;let⟨l,b,xs,zs,rfl,rfl,hH,hB,hz,q⟩:=h;cases rx;let⟨u,rfl,ru⟩:=rv.one;cases ru;let⟨z,its,n,r,hl,e⟩:=I.Sq hH;let⟨z2,QS,n2,r2,hl2,e2⟩:=I.Sq hB;have hsz:its.toArray.size+QS.toArray.size<=sizeLine:=by rw[zH,zH];lia
 have Sr:¬ (!its.toArray.isEmpty&&Builtin.List.listTooLong (its.toArray.size+QS.toArray.size))=true:=by
  rw[uE hsz,kK];exact yX
 refine qT F.slot_list_extend ⟨_,e,rfl⟩ F.entry_list_extend (F.args_list_extend_2 _ _)
  (AutoSeq1.list_extend_list_list_0 l its.toArray n b QS.toArray n2 Sr (by rw[zH];lia) (by lia)) ⟨e,e2,?_⟩
 refine⟨.Qb,_,I.T7 (its':=its++QS) hH e (by simp) (r.append r2) ?_,rfl,q⟩;rw[zN];lia
def NZ:R2:=λx y H Q=>∃l k xs,x=.ref l/\y=.int k/\H l=some (.lst xs)/\-(2 ^ 63)<=k/\k < 2 ^ 63/\xs.length * k.toNat<=sizeLine /\
 ∀p,H p=none->Q (.ref p) (upd H p (.lst (List.replicate k.toNat xs).flatten))
def len_rep(xs:List α)(k:Nat):(List.replicate k xs).flatten.length=k * xs.length:=by
 induction k with
 | zero=>simp
 | succ k ih=>rw[xC,qK,zN,ih,Nat.succ_mul,Nat.add_comm]
def JI:eN X (binaryOp .Mult) NZ:=by
 intro pins s σ H x y v u Q I rx ry h;let⟨l,k,xs,rfl,rfl,hH,h1,h2,hz,q⟩:=h;cases rx;let⟨t,rfl⟩:=ry;let⟨z,its,n,r,hl,e⟩:=I.Sq hH;have hlen:its.toArray.size * k.toNat<=sizeLine:=by rw[zH,<- hl];exact hz
 have Ss:¬ its.toArray.size * k.toNat > (2 ^ 63 - 1) / 8:=by
  have:(sizeLine:Nat)<=(2 ^ 63 - 1) / 8:=by decide
  lia
 have Su:¬ (!Builtin.List.listFitsIndex k)=true:=by
  rw[fitsIndex_both h1 h2];exact yX
 have Sr:¬ Builtin.List.listTooLong (its.toArray.size * k.toNat)=true:=by
  rw[uE hlen];exact yX
 have We:List.foldl (λx1 x2=>x1++x2) #[] (List.replicate (if its.toArray.isEmpty=true then 0 else k.toNat) its.toArray)=(List.replicate k.toNat its).flatten.toArray:=by
  have f0:∀m:Nat,List.foldl (λx1 x2=>x1++x2) #[] (List.replicate m its.toArray)=(List.replicate m its).flatten.toArray:=λm=>by
   have:=foldl_rep its m [];rw[xM] at this;exact this
  rw[f0];cases its with
  | nil=>simp
  | cons a r'=>rw[yL (by simp)]
 refine wpAny_binaryOp_repeat_ref (T:="list") (U:="int") (by decide) ⟨_,e,rfl⟩ (λs'=>vO s' k t) noFill_list_mul F.fills_int_mul vG repeat_list F.slot_int_index.lookup
  (qT vG (vO s k t) F.entry_int_rmul (F.args_int_rmul_2 _ _) (int___rmul___int_list k t l its.toArray n)
   ⟨e,rfl,⟨_,e,rfl⟩,qT F.slot_list_mul ⟨_,e,rfl⟩ F.entry_list_mul (F.args_list_mul_2 _ _) (AutoListH.list___mul___list_int_3 l its.toArray n k t Su Ss Sr) ⟨e,?_⟩⟩)
 rw[We];exact⟨.ref _,_,I.S6 (t':=s.toks) (r.rep k.toNat) (by rw[len_rep,Nat.mul_comm];exact hz),rfl,q _ I.fresh⟩
end L2
namespace Xx
open PySem PySem.W PySem.Calls PyProof.Rows
def Q0:∀ (ns:List Int) (vs:List Value),WellAll P h vs (ns.map WData.int)->IntsAre vs ns:=by
 intro ns
 induction ns with
 | nil =>
  intro vs w;rw[yS] at w;cases w;exact .nil
 | cons n ns ih =>
  intro vs w;rw[zI] at w;cases w with
  | cons a b =>
   cases a;exact .cons _ _ (ih _ b)
def R4{l:OpenLaw}{n:Nat}(hn:l.most=some n){P:Params}{h:Heap}{args:List WData}{vals:List Value}
  (S7:l.row.toRowW.claim.pre args=true) (Tu:WellAll P h vals args) :
  ∃a vs ns,vals=[Value.ref a]/\args=[WData.list (ns.map WData.int)]/\h.get? a=some { cls:=.type "list",data:=.seq vs.toArray }/\IntsAre vs ns/\ns.length<=n:=by
 have Yy:WShape.hasAll [] args [.list .int]=true:=(pre_splitW S7).1;have hc:l.pre.holds [] { args:=args }=true:=(pre_splitW S7).2;let⟨d,r,rfl,h1,h2⟩:=hasAllW_cons Yy;obtain rfl:=hasAllW_nil h2;let⟨xs,rfl,h3⟩:=hasW_list h1;let⟨ns,rfl⟩:=items_int h3;have hlen:ns.length<=n:=by
  unfold OpenLaw.pre at hc;have h4:(WTm.not (.lt (.lit (.int (n:Int))) (.len (.arg 0)))).holds [] { args:=[.list (ns.map .int)] }=true:=by
   have h4:=(holds_andW hc).1;rw[hn] at h4;exact h4
  have h5:=condW_of h4 (w_not (w_lt w_lit (w_len_list (w_arg rfl))));rw[zD] at h5;refine Nat.le_of_not_lt λq=>?_;have q':(n:Int) < ((ns.length:Nat):Int):=by lia
  first
   | (rw[zZ q'] at h5;exact absurd h5 (by decide))
   | (simp at h5;lia)
 cases Tu with
 | cons w1 w2 =>
  cases w2;cases w1 with
  | list ho Rj=>exact⟨_,_,ns,rfl,rfl,ho,Q0 ns _ Rj,hlen⟩
def R5(l:OpenLaw)(args:List WData):l.row.toRowW.claim.post args (.bool true) args=true :=
 postW_of (r:=l.row.toRowW) (X:=(true == true))
  (show WShape.has [] (.bool true) .bool=true by first|rfl|decide|simp[WShape.has,WShape.arms,WShape.armsAll])
  (show (WTm.eq .res (.lit (.bool true))).value [] { args:=args,res:=some (.bool true),after:=args }=some (.bool (true == true)) from w_eq_bool (w_res rfl) w_lit) rfl
def Rw{l:OpenLaw}{n:Nat}{q:Program}{loose:List Str}{XP:(Str->Option Value)->Heap->Prop}{YP:World->Heap->Prop}{d:DefRec}
  (hn:l.most=some n) (UP:d.params.defaults=[])
  (call:∀ (w:World) (Qo Qg:Shared) (mg mb:Str->Option Value) (fa:Addr) (o:Obj) (pm cd doc:Value) (a:Addr) (vs:List Value) (ns:List Int),
   Ground q loose [] XP w Qo mg mb Qg.heap->YP w Qg.heap ->
   Qg.heap.get? fa=some o->o.data=.func (docDef d.name d.params d.body d.scope pm cd doc)->Qg.heap.CodeRec cd d.name->mg d.name=some (.ref fa) ->
   Qg.heap.get? a=some { cls:=.type "list",data:=.seq vs.toArray }->IntsAre vs ns->ns.length<=n->Qg.gens=#[] ->
   codeAny (model l.prog w) callerA (.call (.ref fa) ⟨[.ref a],[]⟩) (λr s'=>r=.ok (.ret (.bool true))/\OldK Qg.heap s'.heap/\s'.os=Qg.os/\AllBare s'.gens) Qg) :
  WalkO q loose XP YP l.row.toRowW d [] (λf vs=>PySem.call f vs):=by
 intro w Qo Qg mg mb G Y fa o pm cd doc dV kV ho hd QW hD UQ hg args vals as S7 YA Xy Tu Xz;obtain rfl:dV=.none:=Dflts.none hD UP;obtain rfl:kV=.none:=Dflts.noKw hD;let⟨a,vs,ns,rfl,rfl,T8,hints,hlen⟩:=R4 hn S7 Tu;refine enter_call (jO (call w Qo Qg mg mb fa o pm cd doc a vs ns G Y ho (fd_plain hd) QW UQ T8 hints hlen hg) λr s' hq=>?_);let⟨rfl,h2,h3,h4⟩:=hq;exact⟨.inl ⟨.bool true,.bool true,[],rfl,λ_=>rfl,.bool true,R5 l _,λ_=>⟨List.Pairwise.nil,λ_ hm=>(nomatch hm)⟩⟩,h2,h3,h4⟩
section
variable {K:Frag}
end
end Xx
namespace L2
open PySem PySem.Spec PyProof.Rows
variable {B:Prop}
def pw:∀ {vs:List Value}{ns:List Int},IntsAre vs ns->aA (ns.map V.int) vs
 | _,_,.nil=>.nil
 | _,_,.cons n t h=>.cons ⟨t,rfl⟩ (pw h)
abbrev Io:Fw:=λ_ _ _ _ _ _=>False
abbrev E0:XK:=λ_ _ _=>False
def MJ:eQ Io X E0:=λ_ _ _ _ _ _ _ h=>h.elim
structure Fg(K:W.Frag)(x qual:Str)(st:Stmt)(f:Addr)(fd:FuncData):Prop where
 ex:∃ (oc:Value) (od:Option Addr) (kV doc pm:Value) (an:Option Addr) (QI ct:Value) (Sn:Array (Option Value)),
  fd=W.fnOf x qual (fD st) (bh st) (ah st) .none kV doc pm an QI ct/\K.lookup f=some ⟨oc,od,.func fd,Sn⟩/\W.codeIn K QI qual=true
 kp:W.keepIn K (.ref f)=true
section
variable {K:W.Frag}
def Fg.binds{st:Stmt}(F:Fg K x qual st f fd)
  (h:∀ (kV doc pm:Value) (an:Option Addr) (QI ct:Value) (us:List Value),us.length=ps.length->bindArgs (W.fnOf x qual (fD st) (bh st) (ah st) .none kV doc pm an QI ct) ⟨us,[]⟩=pure (ps.zip us)):Binds K fd ps []:=by
 let⟨oc,od,kV,doc,pm,an,QI,ct,Sn,rfl,lk,QW⟩:=F.ex;exact .all (h kV doc pm an QI ct)
def Em{st:Stmt}{kV:Value}(l:K.lookup f=some ⟨oc,od,.func (W.fnOf x qual (fD st) (bh st) (ah st) .none kV doc pm an QI ct),Sn⟩)
  (c:W.codeIn K QI qual=true) (k:W.keepIn K (.ref f)=true):Fg K x qual st f (W.fnOf x qual (fD st) (bh st) (ah st) .none kV doc pm an QI ct):=⟨⟨oc,od,kV,doc,pm,an,QI,ct,Sn,rfl,l,c⟩,k⟩
end
def oQ{A B:Prop}(h:B):if false=true then A else B:=by
 rw[yL yX];exact h
def mI{A B:Prop}(h:A):if true=true then A else B:=by
 rw[yJ rfl];exact h
def aK(H H':Hp):Prop:=∀b o,H b=some o->H' b=some o
def aK.refl(H:Hp):aK H H:=λ_ _ h=>h
def aK.trans(a:aK H H1)(b:aK H1 H2):aK H H2:=λc o h=>b c o (a c o h)
def aK.free(e:aK H H')(h:H' l=Option.none):H l=Option.none:=by
 cases q:H l with
 | none=>rfl
 | some o =>
  rw[e l o q] at h;cases h
def aK.seq{K:W.Frag}(e:aK H H')(h:eH K H a xs):eH K H' a xs:=by
 rcases h with (h|⟨o,h⟩)|h
 ·exact .inl (.inl (e _ _ h))
 ·exact .inl (.inr ⟨o,e _ _ h⟩)
 ·exact .inr h
def bL:∀ (names:List (Str×NameKind)) (n:Nat) (acc:List (Str×Addr)),cellsFrom n names acc=cellsFrom n names []++acc
 | [],_,_=>rfl
 | (name,kind)::r,n,acc=>by
  unfold cellsFrom;split
  ·rw[bL r (n+1) ((name,n)::acc),bL r (n+1) [(name,n)]];simp
  ·exact bL r n acc
def gP:∀ {l m:List (Str×α)},(l++m).lookup x=some c->l.lookup x=some c\/(l.lookup x=none/\m.lookup x=some c)
 | [],_,h=>.inr ⟨rfl,h⟩
 | (k,v)::r,m,h=>by
  have ih:=@gP α x c r m;rw[xD,yA] at h;rw[yA];cases e:x == k with
  | true=>rw[e] at h;exact .inl h
  | false=>rw[e] at h;exact ih h
def gQ:∀ {l m:List (Str×α)},l.lookup x=some c->(l++m).lookup x=some c
 | [],_,h=>by cases h
 | (k,v)::r,m,h=>by
  have ih:=@gQ α x c r m;rw[yA] at h;rw[xD,yA];cases e:x == k with
  | true=>rw[e] at h;exact h
  | false=>rw[e] at h;exact ih h
def fY:∀ {l m:List (Str×α)},l.lookup x=none->(l++m).lookup x=m.lookup x
 | [],_,_=>rfl
 | (k,v)::r,m,h=>by
  have ih:=@fY α x r m;rw[yA] at h;rw[xD,yA];cases e:x == k with
  | true=>rw[e] at h;cases h
  | false=>rw[e] at h;exact ih h
def eZ:∀ (names:List (Str×NameKind)) (n:Nat) (x:Str) (c:Addr),(x,c)∈cellsFrom n names []->(x,NameKind.cell)∈names
 | [],_,_,_,h=>by cases h
 | (name,kind)::r,n,x,c,h=>by
  unfold cellsFrom at h;split at h
  ·rename_i hk;rw[bL] at h;rcases List.mem_append.mp h with h|h
   ·exact zC _ (eZ r _ x c h)
   ·have:(x,c)=(name,n):=by simpa using h
    cases this;have:kind=.cell:=by simpa using hk
    subst this;exact zE
  ·exact zC _ (eZ r n x c h)
def g9(env:Env):List (Str×NameKind)->List (Str×Addr)->List (Str×Addr)
 | [],acc=>acc
 | (n,k)::r,acc=>if k == .free then g9 env r ((n,(env.cells.lookup n).getD 0)::acc) else g9 env r acc
def i6(env:Env):∀ (names:List (Str×NameKind)) (acc:List (Str×Addr)),(∀x∈names,x.2=.free->∃c,env.cells.lookup x.1=some c) ->
  (forIn names acc (λ(p:Str×NameKind) (cs:List (Str×Addr))=>(if p.2 == .free then (do let a <- cellOf env p.1;pure (.yield ((p.1,a)::cs))) else pure (.yield cs):Sem (ForInStep (List (Str×Addr))))))=pure (g9 env names acc)
 | [],acc,_=>rfl
 | (n,k)::r,acc,h=>by
  rw[List.forIn_cons];have hr:=λx hx=>h x (zC _ hx);unfold g9;by_cases hk:k=.free
  ·let⟨c,hc⟩:=h (n,k) zE hk;subst hk;have e1:cellOf env n=pure c:=by
    have Q2:env.cells.lookup n=some c:=hc;unfold cellOf;rw[Q2]
   have Q2:env.cells.lookup n=some c:=hc;simp?[beq_self_eq_true,xF,e1,pure_bind,Q2,qE];exact i6 env r _ hr
  ·have hb:(k == NameKind.free)=false:=by simpa using hk
   simp?[hb,yM,qM,pure_bind];exact i6 env r _ hr
def oh{env:Env}(h:∀x∈scope.names,x.2=.free->∃c,env.cells.lookup x.1=some c):closureFor scope env=pure (g9 env scope.names []):=by
 have:=i6 env scope.names [] h;unfold closureFor;exact (bind_pure _).trans this
def lq{env:Env}:∀ {names:List (Str×NameKind)}{acc:List (Str×Addr)},(∀x∈names,x.2=.free->∃c,env.cells.lookup x.1=some c)->(∀x c,(x,c)∈acc->env.cells.lookup x=some c) ->
  ∀x c,(x,c)∈g9 env names acc->env.cells.lookup x=some c
 | [],acc,_,ha,x,c,hm=>ha x c hm
 | (n,k)::r,acc,h,ha,x,c,hm=>by
  unfold g9 at hm;have hr:=λx hx=>h x (zC _ hx);split at hm
  ·rename_i hk;have UR:k=.free:=by simpa using hk
   let⟨c',hc⟩:=h (n,k) zE UR;have hc:env.cells.lookup n=some c':=hc;refine lq hr (λy d hy=>?_) x c hm;rcases List.mem_cons.mp hy with e|hy
   ·cases e;rw[hc];rfl
   ·exact ha y d hy
  ·exact lq hr ha x c hm
def gU{env:Env}:∀ {names:List (Str×NameKind)}{acc:List (Str×Addr)}{x:Str},(names.lookup x=some .free\/∃c,acc.lookup x=some c)->∃c,(g9 env names acc).lookup x=some c
 | [],acc,x,h=>by
  rcases h with h|h
  ·cases h
  ·exact h
 | (n,k)::r,acc,x,h=>by
  unfold g9;split
  ·rename_i hk;refine gU ?_;rcases h with h|⟨c,h⟩
   ·rw[yA] at h;cases e:x == n with
    | true=>exact .inr ⟨_,by rw[yA,e]⟩
    | false=>rw[e] at h;exact .inl h
   ·refine .inr ?_;rw[yA];cases e:x == n with
    | true=>exact⟨_,rfl⟩
    | false=>exact⟨c,h⟩
  ·rename_i hk;refine gU ?_;rcases h with h|h
   ·rw[yA] at h;cases e:x == n with
    | true =>
     rw[e] at h;cases h;exact absurd rfl hk
    | false=>rw[e] at h;exact .inl h
   ·exact .inr h
def j8{env:Env}:∀ {names:List (Str×NameKind)}{x:Str}{k:NameKind},names.lookup x=some k ->
  (names.map λ(n,k)=>if (k == NameKind.free&&env.scope.kind == .function&&env.kindOf n == some .cell) then (n,NameKind.cell) else (n,k)).lookup x=some (if (k == NameKind.free&&env.scope.kind == .function&&env.kindOf x == some .cell) then NameKind.cell else k)
 | [],_,_,h=>by cases h
 | (n,k)::r,x,k',h=>by
  have ih:=@j8 env r x k';rw[zI];dsimp only;cases hx:x == n with
  | true =>
   have e:x=n:=by simpa using hx
   subst e;rw[yA,hx] at h;cases h;split<;>simp[yA, *]
  | false =>
   rw[yA,hx] at h;have ih:=ih h;split
   ·rw[yA,hx];exact ih
   ·rw[yA,hx];exact ih
def mq{env:Env}:∀ {names:List (Str×NameKind)}{x:Str},names.lookup x=none ->
  (names.map λ(n,k)=>if (k == NameKind.free&&env.scope.kind == .function&&env.kindOf n == some .cell) then (n,NameKind.cell) else (n,k)).lookup x=none
 | [],_,h=>rfl
 | (n,k)::r,x,h=>by
  have ih:=@mq env r x;rw[zI];dsimp only;cases hx:x == n with
  | true=>rw[yA,hx] at h;cases h
  | false =>
   rw[yA,hx] at h;split
   ·rw[yA,hx];exact ih h
   ·rw[yA,hx];exact ih h
def dU(X:Cx)(scope:Scope)(C:Addr):Env :=
 { scope:=relabel scope X.env,locals:=C,globals:=X.env.globals,cells:=cellsFrom (C+1) scope.names (g9 X.env scope.names []),qual:=X.env.qual,func:=none,code:=X.env.code,frame:=X.env.frame,builtins:=X.env.builtins }
def aM(X:Cx)(scope:Scope)(N:List Str)(fp:List Addr)(s:Shared)(H:Hp):Cx :=
 { X with N:=N,Qo:=s,Qc:=H,env:=dU X scope s.heap.objs.size,outer:=X.stack,ex:=fp,fn:=λx=>decide (scope.names.lookup x=some .cell),pn:=[],xe:=λ_ _=>False }
def wb{M:Model}{A:Around}{E:Value->Shared->Prop}{globals:Addr}{cl:List (Str×Addr)}{qual:Str}{env:Env}
  (hQ:∀h',h'.Ns s.heap.objs.size (λ_=>none)->(∀b o,s.heap.get? b=some o->h'.get? b=some o)->CellsOk h' (s.heap.objs.size+1) (cellsFrom (s.heap.objs.size+1) scope.names []) ->
   Q { scope:=scope,locals:=s.heap.objs.size,globals:=globals,cells:=cellsFrom (s.heap.objs.size+1) scope.names cl,qual:=qual,func:=none,code:=env.code,frame:=env.frame,builtins:=env.builtins } { s with heap:=h' }) :
  wpAny M A (newFunctionEnv scope globals cl [] qual none .none (some env)) Q E s:=by
 simp?[newFunctionEnv,Option.isSome_some,xF];refine zU (wpAny_alloc ?_);refine zU (wpAny_layCells _ (λname kind cells=>by cases YB:kind == NameKind.cell<;>simp[YB]) _ _ _ _ ?_);have ok:=cellsFrom_ok scope.names (s.heap.push { cls:=.type "dict",data:=.dict #[] }) (s.heap.objs.size+1) [] ⟨λ_ _ hm=>(nomatch hm),List.Pairwise.nil⟩ (by rw[xH];exact yK _);rw[xH] at ok;rw[show ({ s with heap:=s.heap.push { cls:=.type "dict",data:=.dict #[] } }:Shared).heap.objs.size=s.heap.objs.size+1 from xH ..];rw[List.forIn_nil];refine zU (zV (zV ?_));exact hQ _ ((Heap.Ns.new s.heap (.type "dict")).keeps (pushCells_keeps _ _)) (λb o e=>pushCells_keeps _ _ b o (zT _ e)) ok
section
variable {X:Cx}{pins:List (Addr×Obj)}{σ σ':St}{H:Hp}{s:Shared}{fp:List Addr}{scope:Scope}{N:List Str}{h4:Heap}
def oA(ok:X.Ok)(QN:∀x∈scope.names,x.2=.free->X.env.kindOf x.1=some .cell\/X.env.kindOf x.1=some .free):∀x∈scope.names,x.2=.free->∃c,X.env.cells.lookup x.1=some c :=
 λx hx hk=>ok.has x.1 (QN x hx hk)
def lE(h:scope.names.lookup x=some k):(dU X scope C).kindOf x=some k\/(k=.free/\(dU X scope C).kindOf x=some .cell):=by
 have q:=j8 (env:=X.env) h;have q':(dU X scope C).kindOf x=some (if (k == NameKind.free&&X.env.scope.kind == .function&&X.env.kindOf x == some .cell) then NameKind.cell else k):=q;rw[q'];split
 ·rename_i hc;have:k=.free:=by
   simp?[zF,kX] at hc;exact hc.1.1
  exact .inr ⟨this,rfl⟩
 ·exact .inl rfl
def iV(h:(dU X scope C).kindOf x=some k):scope.names.lookup x=some k\/(k=.cell/\scope.names.lookup x=some .free):=by
 cases e:scope.names.lookup x with
 | none =>
  have q:(dU X scope C).kindOf x=none:=mq (env:=X.env) e;rw[q] at h;cases h
 | some k' =>
  rcases lE (X:=X) (C:=C) e with q|⟨q,q'⟩
  ·rw[q] at h;cases h;exact .inl rfl
  ·rw[q'] at h;cases h;subst q;exact .inr ⟨rfl,rfl⟩
def Cb(I:Inv X pins σ H s)(hf:∀b∈fp,fP X pins H b)(QA:∀b∈fp,b < s.heap.objs.size)(hk:scope.kind=.function)
  (QN:∀x∈scope.names,x.2=.free->X.env.kindOf x.1=some .cell\/X.env.kindOf x.1=some .free)
  (Sj:h4.Ns s.heap.objs.size (λ_=>none)) (RX:∀b o,s.heap.get? b=some o->h4.get? b=some o) (US:CellsOk h4 (s.heap.objs.size+1) (cellsFrom (s.heap.objs.size+1) scope.names []))
  (T9:∀ {x:Str},(x,NameKind.cell)∈scope.names->(x,NameKind.free)∈scope.names->False) (Ss:∀ (i:Nat) (x:Str) (v:V),N[i]?=some x->σ'[i]?=some (some v)->scope.names.lookup x=some .free/\∃j:Nat,X.N[j]?=some x/\σ[j]?=some (some v)) (hlen:σ'.length=N.length) (t':Nat) :
  Inv (aM X scope N fp s H) [] σ' H { s with heap:=h4,toks:=t' }:=by
 have QX:=oA I.ok QN;have XA:∀x c,(g9 X.env scope.names []).lookup x=some c->X.env.cells.lookup x=some c:=λx c e=>lq QX (λ_ _ z=>by cases z) x c (mem_of_lookup e);have look:∀x c,(dU X scope s.heap.objs.size).cells.lookup x=some c->(x,c)∈cellsFrom (s.heap.objs.size+1) scope.names []\/X.env.cells.lookup x=some c:=λx c e=>by
  have e:(cellsFrom (s.heap.objs.size+1) scope.names (g9 X.env scope.names [])).lookup x=some c:=e;rw[bL] at e;rcases gP e with q|⟨_,q⟩
  ·exact .inl (mem_of_lookup q)
  ·exact .inr (XA x c q)
 have old:∀x c,X.env.cells.lookup x=some c->c < s.heap.objs.size:=λx c e=>let ⟨_,q⟩:=I.cell x c e;q.lt;have new:∀x c,(x,c)∈cellsFrom (s.heap.objs.size+1) scope.names []->s.heap.objs.size < c:=λx c e=>(US.empty x c e).2;refine⟨⟨I.ok.mod,?_,I.ok.glob,I.ok.blt,yK _,?_,?_,?_,I.ok.hd,I.ok.frames,.inl rfl,?_,I.bs,yC I.ok.SW I.sz,?_,?_,I.stack,I.Q1⟩,rfl,I.bare,Un.kept RX,⟨_,Sj,?_⟩,?_,I.Qh.fresh (yK _),?_,
  λp hp=>absurd (show p∈([]:List (Addr×Obj)) from hp) (by simp),I.Qh.kept RX,hlen⟩
 ·show (relabel scope X.env).kind=_;exact hk
 ·intro x y c e1 e2;rcases look x c e1 with a|a<;>rcases look y c e2 with b|b
  ·exact name_of_addr US.apart a b
  ·exact absurd (vU (new x c a) (old y c b)) (qC _)
  ·exact absurd (vU (new y c b) (old x c a)) (qC _)
  ·exact I.ok.inj x y c a b
 ·intro x hx;show ∃c,(cellsFrom (s.heap.objs.size+1) scope.names (g9 X.env scope.names [])).lookup x=some c;refine Option.isSome_iff_exists.mp (W.cellsFrom_some _ _ _ ?_);rcases hx with hx|hx
  ·rcases iV hx with q|⟨_,q⟩
   ·exact .inl q
   ·exact .inr (Option.isSome_iff_exists.mpr (gU (.inl q)))
  ·rcases iV hx with q|⟨q,_⟩
   ·exact .inr (Option.isSome_iff_exists.mpr (gU (.inl q)))
   ·cases q
 ·intro x c SY e;have SY:scope.names.lookup x=some .cell:=yO SY;have e:(cellsFrom (s.heap.objs.size+1) scope.names (g9 X.env scope.names [])).lookup x=some c:=e;let⟨c',Q2⟩:=nE (n:=s.heap.objs.size+1) SY;rw[bL,gQ Q2] at e;cases e;exact jP (new x c (mem_of_lookup Q2))
 ·intro b hb;refine⟨yP (QA b hb),λx c e z=>?_⟩;rcases look x c e with a|a
  ·exact absurd (vU (new x c a) (by rw[z];exact QA b hb)) (qC _)
  ·exact (hf b hb).2.2.2.2.1 x c a z
 ·intro b o e hb;let⟨f0,f1,f2,f3,f4,f5⟩:=hf b hb;rcases f3 with z|z
  ·exact I.ok.Ru b o e z
  ·exact absurd (zP (zX (I.ok.bs b o e).1) z) (qC _)
 ·intro b hb hz;let⟨f0,f1,f2,f3,f4,f5⟩:=hf b hb;rcases List.mem_cons.mp (I.RK b hz) with z|z
  ·exact f1 z
  ·exact f2 z
 ·intro i x v e1 e2 e3;let⟨Tv,j,hj,hv⟩:=Ss i x v e1 e2;have hm:(x,NameKind.free)∈scope.names:=mem_of_lookup Tv;let⟨m,hn,hl⟩:=I.loc;have kx:=QN _ hm rfl;let⟨u,ru,lk⟩:=hl j x v hj hv (kx.elim (λk=>.inr (.inl k)) λk=>.inr (.inr k));refine⟨u,ru,.inr ⟨?_,?_⟩⟩
  ·rcases lE (X:=X) (C:=s.heap.objs.size) Tv with q|⟨_,q⟩
   ·exact .inr q
   ·exact .inl q
  ·rcases lk with ⟨k,_⟩|⟨_,c,ec,ic⟩
   ·have k:X.env.kindOf x=some .local:=k;rcases kx with k'|k'<;>· rw[k] at k';cases k'
   ·let⟨c',Q2⟩:=gU (env:=X.env) (acc:=[]) (.inl Tv);have e':=XA x c' Q2;rw[ec] at e';cases e';refine⟨c,?_,ic.keeps RX⟩;show (cellsFrom (s.heap.objs.size+1) scope.names (g9 X.env scope.names [])).lookup x=some c;rw[bL];cases eo:(cellsFrom (s.heap.objs.size+1) scope.names []).lookup x with
    | none=>rw[fY eo];exact Q2
    | some d =>
     have YC:=eZ _ _ _ _ (mem_of_lookup eo);exact (T9 YC hm).elim
 ·intro x c e;rcases look x c e with a|a
  ·exact⟨_,(US.empty x c a).1⟩
  ·let⟨v,q⟩:=I.cell x c a;exact⟨v,q.keeps RX⟩
 ·intro x c e;rcases look x c e with a|a
  ·exact I.Qh.fresh (jP (new x c a))
  ·exact I.Qr x c a
end
abbrev ub(ifs:List Expr)(env:Env):Sem Bool:=forIn ifs true λc r=>if r=true then do let ok <- isTrue c env (eval c env);pure (ForInStep.yield ok) else pure (ForInStep.yield r)
def LQ(X:Cx)(ifs:List Expr)(t:TT):Prop :=
 ∀ (pins:List (Addr×Obj)) (s:Shared) (σ:St) (H:Hp) (Q:Bool->Hp->Prop),Inv X pins σ H s->t σ H Q->wpAny (model X.prog X.w) X.A (ub ifs X.env) (TP X pins σ Q) X.xe s
def Gz:LQ X [] (λ_ H Q=>Q true H):=λ_ _ _ H _ I h=>wpAny_tests_nil ⟨H,I,h⟩
def Fs(h:PT X c t):LQ X [c] t:=λpins s σ H Q I q=>wpAny_tests_one (h pins s σ H Q I q)
def rK{R:Result->Shared->Prop}{elt target iter:Expr}{ifs:List Expr}{scope:Scope}{pos:Pos}{acc:Value}{env:Env}(I:Nat->Shared->Prop)
  (turn:∀n s,I n s->wpAny (model prog w) A (pyNext it) (λr Qg=>match r with
   | none=>R (.ok .next) Qg
   | some v=>wpAny (model prog w) A (letOwnedTupleGo target it v) (λ_ Tw=>wpAny (model prog w) A (assign target env v) (λ_ S3 =>
     wpAny (model prog w) A (ub ifs env) (λok Sv =>
      if ok=true then wpAny (model prog w) A (eval elt env) (λx S8 =>
       wpAny (model prog w) A (call (.builtin "list.append") [acc,x]) (λ_ UT=>∃m,m < n/\I m UT) (λ_ _=>False) S8) (λ_ _=>False) Sv
      else ∃m,m < n/\I m Sv) (λ_ _=>False) S3) (λ_ _=>False) Tw) (λ_ _=>False) Qg) (λ_ _=>False) s)
  (n:Nat) (h:I n s) :
  codeAny (model prog w) A (.compLoop (.ListComp elt [⟨target,iter,ifs,0⟩] scope pos) 0 it acc env) R s:=by
 refine codeAny_loop rfl I (λn s hI=>?_) n h;show wpAny _ A ((compTurn (.ListComp elt [⟨target,iter,ifs,0⟩] scope pos) 0 it acc env).onRaise (λx=>do noteFrame x env;theTreesLotGoes x)) _ _ s;refine wpAny_noted ?_;rw[compTurn_list];refine zU (wpAny_standAt (zU (yY (turn n s hI) (λr Qg UU=>?_) λ_ _ h'=>h'.elim)));cases r with
 | none=>exact zV UU
 | some v =>
  refine zU (yY UU (λ_ Tw UW=>?_) λ_ _ h'=>h'.elim);refine zU (yY UW (λ_ S3 Wf=>zU (yY Wf (λok Sv UX=>?_) λ_ _ h'=>h'.elim)) λ_ _ h'=>h'.elim);cases ok with
  | false=>exact zV ⟨rfl,UX⟩
  | true =>
   exact zU (zU (yY UX (λx S8 Wg=>zU (yY Wg (λ_ UT Wh=>zV (zV ⟨rfl,Wh⟩)) λ_ _ h'=>h'.elim)) λ_ _ h'=>h'.elim))
def Ag(X:Cx)(pins:List (Addr×Obj))(σ:St)(Q:VK)(acc:Value)(C:Addr)(r:Result)(s5:Shared):Prop :=
 ∃ (D:Addr) (H5:Hp) (m:Str->Option Value),acc=.ref D/\r=.ok .next/\Inv X pins σ H5 s5/\s5.heap.Ns C m/\fP X pins H5 C/\Q (.ref D) H5
def BW(J:It)(g:TG)(tt:TT)(te:TE)(D:Addr)(YD:St)(H0:Hp)(Q:VK):Prop :=
 ∃W:Nat->Nat->St->Hp->Prop,(∃m,W 0 m YD H0)/\∀i m σ H,W i m σ H ->
  (J.stop i H/\Q (.ref D) H)\/(J.go i H/\∀x H',J.SK i H x H'->g x σ H' λRq H2=>tt Rq H2 λb H3 =>
   if b=true then te Rq H3 λv H4=>∃ys,H4 D=some (.lst ys)/\ys.length < sizeLine/\∃m',m' < m/\W (i+1) m' Rq (upd H4 D (.lst (ys++[v])))
   else ∃m',m' < m/\W (i+1) m' Rq H3)
section
variable {X:Cx}{pins:List (Addr×Obj)}{σ σ':St}{H:Hp}{s:Shared}{scope:Scope}{N:List Str}
 {tg iter elt:Expr}{ifs:List Expr}{pos:Pos}{g:TG}{tt:TT}{te:TE}
def pH(hc:X.calm=true)(I:Inv X pins σ H s)(T:Turn X.prog X.w X.K tg J fp it tn)(st:tn 0 s.heap)(hf:∀b∈fp,fP X pins H b)(hk:scope.kind=.function)
  (QN:∀x∈scope.names,x.2=.free->X.env.kindOf x.1=some .cell\/X.env.kindOf x.1=some .free) (T9:∀ {x:Str},(x,NameKind.cell)∈scope.names->(x,NameKind.free)∈scope.names->False)
  (Ss:∀ (i:Nat) (x:Str) (v:V),N[i]?=some x->σ'[i]?=some (some v)->scope.names.lookup x=some .free/\∃j:Nat,X.N[j]?=some x/\σ[j]?=some (some v)) (hlen:σ'.length=N.length)
  (hY:∀fp s H,PG (aM X scope N fp s H) tg g/\LQ (aM X scope N fp s H) ifs tt/\PE (aM X scope N fp s H) elt te)
  (Xy:∀D,H D=none->BW J g tt te D σ' (upd H D (.lst [])) Q) {E:Value->Shared->Prop} :
  wpAny (model X.prog X.w) X.A (newList []) (λacc Sv=>wpAny (model X.prog X.w) X.A (newFunctionEnv scope X.env.globals (g9 X.env scope.names []) [] X.env.qual none .none (some X.env)) (λSw S8 =>
   codeAny (model X.prog X.w) X.A (.compStart (.ListComp elt [⟨tg,iter,ifs,0⟩] scope pos) 0 (.ref it) acc { Sw with scope:=relabel scope X.env }) (Ag X pins σ Q acc Sw.locals) S8) E Sv) E s:=by
 refine qJ ?_;have QA:∀b∈fp,b < s.heap.objs.size:=λb hb=>let ⟨o,e,_⟩:=T.obj _ _ st b hb;zX e;have I3:=I.S6 (ys:=[]) (its:=[]) (t':=s.toks) .nil (xS _);have hD:H s.heap.objs.size=none:=I.fresh;let⟨W,⟨m0,w0⟩,turn⟩:=Xy _ hD;generalize e3:({ s with heap:=s.heap.push { cls:=.type "list",data:=.seq ([]:List Value).toArray },toks:=s.toks }:Shared)=s3 at I3;have XB:s3.heap=s.heap.push { cls:=.type "list",data:=.seq ([]:List Value).toArray }:=by rw[<- e3]
 generalize YE:upd H s.heap.objs.size (.lst [])=H3 at I3 w0 turn;have QL:s.heap.objs.size < s3.heap.objs.size:=by rw[XB,xH];exact kF _
 have YF:∀b o,s.heap.get? b=some o->s3.heap.get? b=some o:=λb o e=>by rw[XB];exact zT _ e
 generalize s.heap.objs.size=D at *;have f3:∀b∈fp,fP X pins H3 b:=λb hb=>by
  let⟨f0,f⟩:=hf b hb;refine⟨?_,f⟩;rw[<- YE,aE (yP (QA b hb))];exact f0
 have SM:tn 0 s3.heap:=T.keep _ _ _ st λb _ o e=>YF b o e;refine wb λh4 Sj Wi US=>?_;dsimp only;have I4:=Cb (N:=N) (σ':=σ') (fp:=fp) I3 f3 (λb hb=>vU (QA b hb) QL) hk QN Sj Wi US T9 Ss hlen s3.toks;have fC:∀H',H' s3.heap.objs.size=none->fP X pins H' s3.heap.objs.size:=λH' hn=>I3.Q9 (yK _) hn;let⟨hg,Ua,UY⟩:=hY fp s3 H3;have Wj:∀b∈fp,∀H':Hp,H' b=none->fP (aM X scope N fp s3 H3) [] H' b:=λb hb H' hn=>by
  refine⟨hn,(I4.ok.Ut b hb).1,I4.ok.RJ b hb,.inl hb,(I4.ok.Ut b hb).2,λp hp=>?_⟩;cases hp
 have loop:codeAny (model X.prog X.w) X.A (.compLoop (.ListComp elt [⟨tg,iter,ifs,0⟩] scope pos) 0 (.ref it) (.ref D) (dU X scope s3.heap.objs.size)) (Ag X pins σ Q (.ref D) s3.heap.objs.size) { s3 with heap:=h4 }:=by
  refine rK (λn s'=>∃i σ' H',Inv (aM X scope N fp s3 H3) [] σ' H' s'/\tn i s'.heap/\(∀b∈fp,H' b=none)/\W i n σ' H') ?_ m0
   ⟨0,σ',H3,I4,T.keep _ _ _ SM λb _ o e=>Wi b o e,λb hb=>(f3 b hb).1,w0⟩
  rintro n s5 ⟨i,VD,H5,I5,SN,Uw,w5⟩;rcases turn i n VD H5 w5 with ⟨stop,q⟩|⟨go,step⟩
  ·refine bC (T.done (aM X scope N fp s3 H3) rfl rfl rfl hc i [] s5 VD H5 _ I5 (λb hb=>Wj b hb H5 (Uw b hb)) SN stop) λr s6 ⟨hr,I6⟩=>?_;subst hr;let⟨m,YG,_⟩:=I6.loc;refine⟨D,H5,m,rfl,rfl,I3.Tq I6.os I6.base I6.Qh I6.bare (λb hb=>?_),YG,fC H5 I6.free,q⟩;let⟨f0,f1,f2,f4,f5,f6⟩:=f3 b hb;exact⟨f4,f1,f5,f6⟩
  ·refine bC (T.item (aM X scope N fp s3 H3) rfl rfl rfl hc i [] s5 VD H5 _ I5 (λb hb=>Wj b hb H5 (Uw b hb)) SN go) λr s6 ⟨u,hr,h6⟩=>?_;subst hr;refine bC h6 λ_ s7 ⟨x,H7,I7,r7,y7,Wl,YH⟩=>?_;have YI:=I7.pinned (λb hb=>Wj b hb H7 (YH b hb)) (T.obj _ _ Wl);have again:∀ {pl:List (Addr×Obj)}{VE:St}{H9:Hp}{s9:Shared}{n':Nat},Inv (aM X scope N fp s3 H3) ([]++lT fp s7.heap) VE H9 s9->W (i+1) n' VE H9->∃i σ' H',Inv (aM X scope N fp s3 H3) [] σ' H' s9/\tn i s9.heap/\(∀b∈fp,H' b=none)/\W i n' σ' H':=λ{pl VE H9 s9 n'} I9 w9=>by
    refine⟨i+1,VE,H9,I9.Qt,T.keep _ _ _ Wl λb hb o e=>(I9.pin (b,o) (yD _ (yD _ (dA hb e)))).1,λb hb=>?_,w9⟩;let⟨o,e,d⟩:=T.obj _ _ Wl b hb;exact (I9.pin (b,o) (yD _ (yD _ (dA hb e)))).2.1
   refine bC (hg _ s7 VD H7 x u _ YI r7 (step x H7 y7)) λ_ s8 ⟨VF,H8,I8,q8⟩=>?_;refine bC (Ua _ s8 VF H8 _ I8 q8) λok s9 ⟨H9,I9,q9⟩=>?_;cases ok with
   | false =>
    rw[yL (by decide)] at q9;rw[yL (by decide)];let⟨m',hm,w9⟩:=q9;exact⟨m',hm,again (pl:=[]) I9 w9⟩
   | true =>
    rw[yJ rfl] at q9;rw[yJ rfl];refine bC (UY _ s9 VF H9 _ I9 q9) λy YJ ⟨v,YK,YL,YM,ys,Wn,hz,m',hm,YN⟩=>?_;refine bC (p7 (X:=aM X scope N fp s3 H3) _ YJ VF YK (.ref D) [v] (.ref D) [y] (λ_ H'=>W (i+1) m' VF H') YL rfl (.cons YM .nil) ⟨D,ys,v,rfl,rfl,Wn,hz,YN⟩) λ_ s11 ⟨_,H11,YO,_,YQ⟩=>?_;exact⟨m',hm,again (pl:=[]) YO YQ⟩
 exact codeAny_compStart_list loop (T.self _ 0 _ _ _ (T.keep _ _ _ SM λb _ o e=>Wi b o e) loop)
end
def E6(wi:TI)(g:TG)(tt:TT)(te:TE)(Rk:St->St):TE:=λσ H Q=>wi σ H λJ H1=>∀D,H1 D=none->BW J g tt te D (Rk σ) (upd H1 D (.lst [])) Q
structure ly(X:Cx)(scope:Scope)(N:List Str)(Rk:St->St):Prop where
 kind:scope.kind=.function
 free:∀x∈scope.names,x.2=.free->X.env.kindOf x.1=some .cell\/X.env.kindOf x.1=some .free
 dup:∀ {x:Str},(x,NameKind.cell)∈scope.names->(x,NameKind.free)∈scope.names->False
 loc:∀x∈scope.names,x.2=.local -> scope.names.lookup x.1=some .local
 XC:∀ (σ:St) (i:Nat) (x:Str) (v:V),N[i]?=some x->(Rk σ)[i]?=some (some v)->scope.names.lookup x=some .free/\∃j:Nat,X.N[j]?=some x/\σ[j]?=some (some v)
 len:∀σ:St,(Rk σ).length=N.length
section
variable {X:Cx}{scope:Scope}{N:List Str}{Rk:St->St}{tg iter elt:Expr}{ifs:List Expr}{pos:Pos}{wi:TI}{g:TG}{tt:TT}{te:TE}
def GI(hc:X.calm=true)(S:ly X scope N Rk)(hi:PI X tg iter wi)
  (hY:∀fp s H,PG (aM X scope N fp s H) tg g/\LQ (aM X scope N fp s H) ifs tt/\PE (aM X scope N fp s H) elt te)
  (hs:∀x,foldedSetIterable iter X.env x=pure x:=by intro _;rfl):PE X (.ListComp elt [⟨tg,iter,ifs,0⟩] scope pos) (E6 wi g tt te Rk):=by
 intro pins s σ H Q I h;rw[eval_ListComp];refine wpAny_comprehension_free (use:=none) rfl hs (oh (oA I.ok S.free)) S.kind S.loc (bC (hi pins s σ H _ I h) λv s1 h1=>bC h1 λUH s2 h2=>?_);let⟨it,fp,tn,J,H2,e,I2,T,Sh,f2,rd⟩:=h2;subst e;refine bC (pH (iter:=iter) (pos:=pos) (E:=X.xe) hc I2 T Sh f2 S.kind S.free S.dup (S.XC σ) (S.len σ) hY rd) λacc s3 h3=>bC h3 λSw s4 h4=>?_;refine jO h4 λr s5 h5=>?_;let⟨D,H5,m,rfl,rfl,I5,hn,fC,q⟩:=h5;refine⟨m,hn,λh' sb=>?_⟩;let⟨f0,f1,RY,f3,f4,f5⟩:=fC;exact⟨.ref D,H5,I5.turned (t':=s5.toks) (λb o hb e=>(sb.2 b hb).trans e) f0 f1 f3 f4 f5,rfl,q⟩
def F5(hc:X.calm=true)(S:ly X scope N Rk)(hi:PI X tg iter wi)
  (hY:∀fp s H,PG (aM X scope N fp s H) tg g/\LQ (aM X scope N fp s H) ifs tt/\PE (aM X scope N fp s H) elt te)
  (hN:X.N.Nodup) (Wo:X.N[i]?=some y) (hy:X.env.scope.names.lookup y=some .local)
  (Wq:swapsWith (.ListComp elt [⟨tg,iter,ifs,0⟩] scope pos) (some (.Name y py)) Qx.line X.env=pure true)
  (hs:∀x,foldedSetIterable iter X.env x=pure x:=by intro _;rfl):PS X (.Assign [.Name y py] (.ListComp elt [⟨tg,iter,ifs,0⟩] scope pos) Qx) (Cr (E6 wi g tt te Rk) (tw i)):=by
 intro pins s σ H D I h;rw[exec_Assign_Name_used _ _ _ _ Wq];refine zU (wpAny_standAt (zU ?_));show wpAny _ X.A (do let _ <- comprehension (.ListComp elt [⟨tg,iter,ifs,0⟩] scope pos) scope X.env _ (newList []) false (eval iter X.env) (some (assign (.Name y py) X.env))) _ _ s;refine zU (yY (wpAny_comprehension_free (use:=some (assign (.Name y py) X.env)) (Q:=λ_ s'=>SP X pins D .next s') rfl hs (oh (oA I.ok S.free)) S.kind S.loc
  (bC (hi pins s σ H _ I h) λv s1 h1=>bC h1 λUH s2 h2=>?_)) (λ_ s' hq=>zV (zV hq)) λ_ _ e=>e)
 let⟨it,fp,tn,J,H2,e,I2,T,Sh,f2,rd⟩:=h2;subst e;refine bC (pH (iter:=iter) (pos:=pos) (E:=X.xe) hc I2 T Sh f2 S.kind S.free S.dup (S.XC σ) (S.len σ) hY rd) λacc s3 h3=>bC h3 λSw s4 h4=>?_;refine jO h4 λr s5 h5=>?_;let⟨D',H5,m,rfl,rfl,I5,hn,fC,q⟩:=h5;show wpAny _ X.A (assign (.Name y py) X.env (.ref D')) _ _ _;refine wpAny_assign_Name (lR (v:=.ref D') I5 hN Wo (.inl hy) rfl (λs6 I6 ⟨a,sa,ha⟩=>?_) (.inr hy));let⟨f0,f1,RY,f3,f4,f5⟩:=fC;have QT:Sw.locals≠a:=by
  rcases ha with z|z
  ·rw[z];exact f1
  ·exactλw=>f4 y a z w.symm
 refine⟨m,hn.sameBut sa QT,λh' sb=>?_⟩;exact⟨_,H5,I6.turned (t':=s6.toks) (λb o hb e=>(sb.2 b hb).trans e) f0 f1 f3 f4 f5,q⟩
end
abbrev N3(X:Cx)(qual:Str)(scope:Scope)(f c L:Addr):Env:=W.envX qual scope L f (.ref c) (g9 X.env scope.names [])
def IR(X:Cx)(A:Around)(qual:Str)(scope:Scope)(N:List Str)(f c:Addr)(s:Shared)(H:Hp):Cx where
 prog:=X.prog
 w:=X.w
 K:=X.K
 mg:=X.mg
 base:=X.base
 A:=A.deeper (N3 X qual scope f c s.heap.objs.size)
 N:=N
 Qo:=s
 Qc:=H
 env:=N3 X qual scope f c s.heap.objs.size
 outer:=X.stack
 stack:=N3 X qual scope f c s.heap.objs.size::X.stack
 ex:=[]
 fn:=λ_=>false
 calm:=true
 pn:=[]
 xe:=λ_ _=>False
end L2
namespace Dl
open PySem L2 PySem.Spec PyProof.Rows
abbrev D:=PyData
def dE(ks:List (Str×List Int)):List (D×D):=ks.map λp=>(.str p.1,.tuple (p.2.map PyData.int))
abbrev dD(ks:List (Str×List Int)):D:=.dict (dE ks)
def eJ(K:W.Frag)(H:Hp):List (Str×List Int)->List (fj×V)->Prop
 | [],us=>us=[]
 | p::r,us=>∃b t,us=(Sum.inr p.1,V.ref b)::t/\eE K H b (p.2.map V.int)/\eJ K H r t
mutual
def Rep(K:W.Frag)(H:Hp):D->V->Prop
 | .none,v=>v=.Qb
 | .bool b,v=>v=.bl b
 | .int i,v=>v=.int i
 | .str x,v=>v=.str x
 | .tuple ds,v=>∃a vs,v=.ref a/\eE K H a vs/\au K H ds vs
 | .list ds,v=>∃a vs,v=.ref a/\eH K H a vs/\au K H ds vs
 | .dict l,v=>∃a ks us,v=.ref a/\l=dE ks/\H a=some (.dK us)/\eJ K H ks us
def au(K:W.Frag)(H:Hp):List D->List V->Prop
 | [],vs=>vs=[]
 | d::ds,vs=>∃v r,vs=v::r/\Rep K H d v/\au K H ds r
end
def ax{K:W.Frag}(e:aK H H')(h:eE K H a xs):eE K H' a xs:=by
 rcases h with (h|⟨o,h⟩)|h
 ·exact .inl (.inl (e _ _ h))
 ·exact .inl (.inr ⟨o,e _ _ h⟩)
 ·exact .inr h
def eJ.mono{K:W.Frag}{H H':Hp}(e:aK H H'):∀ {ks:List (Str×List Int)}{us:List (fj×V)},eJ K H ks us->eJ K H' ks us
 | [],_,h=>h
 | p::r,us,⟨b,t,h1,h2,h3⟩=>⟨b,t,h1,ax e h2,eJ.mono e h3⟩
mutual
theorem Rep.mono{K:W.Frag}{H H':Hp}(e:aK H H'):∀ {d:D}{v:V},Rep K H d v->Rep K H' d v
 | .none,_,h=>h
 | .bool _,_,h=>h
 | .int _,_,h=>h
 | .str _,_,h=>h
 | .tuple ds,_,h=>by
  simp?[Rep] at h ⊢;let⟨a,vs,rfl,q,r⟩:=h;exact⟨a,vs,rfl,ax e q,au.mono e r⟩
 | .list ds,_,h=>by
  simp?[Rep] at h ⊢;let⟨a,vs,rfl,q,r⟩:=h;exact⟨a,vs,rfl,e.seq q,au.mono e r⟩
 | .dict l,_,h=>by
  simp?[Rep] at h ⊢;let⟨a,ks,us,h1,h2,h3,h4⟩:=h;exact⟨a,ks,us,h1,h2,e _ _ h3,h4.mono e⟩
theorem au.mono{K:W.Frag}{H H':Hp}(e:aK H H'):∀ {ds:List D}{vs:List V},au K H ds vs->au K H' ds vs
 | [],_,h=>h
 | d::ds,_,h=>by
  simp?[au] at h ⊢;let⟨v,r,rfl,a,b⟩:=h;exact⟨v,r,rfl,Rep.mono e a,au.mono e b⟩
end
section
variable {K:W.Frag}
def au.nil:au K H [] []:=by simp[au]
def au.cons(a:Rep K H d v)(b:au K H ds vs):au K H (d::ds) (v::vs):=by
 simp?[au];exact⟨v,vs,rfl,a,b⟩
def au.cons_inv(h:au K H (d::ds) vs):∃v r,vs=v::r/\Rep K H d v/\au K H ds r:=by simpa only[au] using h
def au.nil_inv(h:au K H [] vs):vs=[]:=by simpa only[au] using h
def au.length:∀ {ds:List D}{vs:List V},au K H ds vs->vs.length=ds.length
 | [],_,h=>by rw[h.nil_inv];rfl
 | d::ds,_,h=>by let⟨v,r,rfl,_,b⟩:=h.cons_inv;simp[au.length b]
def au.getD:∀ {ds:List D}{vs:List V}{i:Nat}{d:D},au K H ds vs->ds[i]?=some d->∃v,vs[i]?=some v/\Rep K H d v
 | [],_,i,d,h,e=>by simp at e
 | d::ds,_,i,d',h,e=>by
  let⟨v',r,rfl,a,b⟩:=h.cons_inv;cases i with
  | zero=>simp at e;subst e;exact⟨v',rfl,a⟩
  | succ i=>simp at e;let⟨v,h1,h2⟩:=au.getD b e;exact⟨v,by simpa using h1,h2⟩
def au.append:∀ {ds es:List D}{vs us:List V},au K H ds vs->au K H es us->au K H (ds++es) (vs++us)
 | [],_,_,_,h,g=>by rw[h.nil_inv];exact g
 | d::ds,_,_,_,h,g=>by let⟨v,r,rfl,a,b⟩:=h.cons_inv;exact au.cons a (au.append b g)
def au.take:∀ {ds:List D}{vs:List V}(n:Nat),au K H ds vs->au K H (ds.take n) (vs.take n)
 | [],_,n,h=>by rw[h.nil_inv];simp[au]
 | d::ds,_,0,h=>by simp[au]
 | d::ds,_,n+1,h=>by let⟨v,r,rfl,a,b⟩:=h.cons_inv;exact au.cons a (au.take n b)
def au.drop:∀ {ds:List D}{vs:List V}(n:Nat),au K H ds vs->au K H (ds.drop n) (vs.drop n)
 | [],_,n,h=>by rw[h.nil_inv];simp[au]
 | d::ds,_,0,h=>h
 | d::ds,_,n+1,h=>by let⟨v,r,rfl,a,b⟩:=h.cons_inv;exact au.drop n b
def au.reverse:∀ {ds:List D}{vs:List V},au K H ds vs->au K H ds.reverse vs.reverse
 | [],_,h=>by rw[h.nil_inv];simp[au]
 | d::ds,_,h=>by
  let⟨v,r,rfl,a,b⟩:=h.cons_inv;rw[kO,kO];exact au.append (au.reverse b) (au.cons a au.nil)
end
structure bQ(HF H Qd H':Hp):Prop where
 hh:aK H H'
 ff:aK HF Qd
 fh:aK Qd H'
 nw:∀a o,Qd a=some o->HF a=some o\/H a=none
def bQ.refl(s:aK HF H):bQ HF H HF H:=⟨.refl _,.refl _,s,λ_ _ e=>.inl e⟩
def bQ.trans(a:bQ HF H Qf H1)(b:bQ Qf H1 Qp H2):bQ HF H Qp H2 :=
 ⟨a.hh.trans b.hh,a.ff.trans b.ff,b.fh,λx o e=>(b.nw x o e).elim (λz=>a.nw x o z) λz=>.inr (a.hh.free z)⟩
def cu(h:H p=none):aK H (upd H p o):=λb u e=>by rw[aE (aJ e h)];exact e
def bQ.new(s:aK HF H)(h:H p=none):bQ HF H (upd HF p o) (upd H p o):=by
 have hf:HF p=none:=s.free h;refine⟨cu h,cu hf,λb u e=>?_,λb u e=>?_⟩
 ·by_cases hb:b=p
  ·subst hb;rw[aF] at e ⊢;exact e
  ·rw[aE hb] at e ⊢;exact s b u e
 ·by_cases hb:b=p
  ·subst hb;exact .inr h
  ·rw[aE hb] at e;exact .inl e
def bQ.own(s:aK HF H)(h:H p=none):bQ HF H HF (upd H p o) :=
 ⟨cu h,.refl _,λb u e=>by rw[aE (aJ (s b u e) h)];exact s b u e,λ_ _ e=>.inl e⟩
def bQ.freeze(g:bQ HF H Qf H1)(h:H p=none)(h1:H1 p=some o)(hf:Qf p=none):bQ HF H (upd Qf p o) H1 :=
 ⟨g.hh,g.ff.trans (cu hf),λb u e=>by
  by_cases hb:b=p
  ·subst hb;rw[aF] at e;rw[h1,<- e]
  ·rw[aE hb] at e;exact g.fh b u e,λb u e=>by
  by_cases hb:b=p
  ·subst hb;exact .inr h
  ·rw[aE hb] at e;exact g.nw b u e⟩
def nO:List Str:=["ways_of","turned_order","fairest"]
def dv(K:W.Frag)(HF:Hp):Prop:=∀ (f:Addr) (oc:Value) (od:Option Addr) (fd:FuncData) (sl:Array (Option Value)) (c P:Addr),K.lookup f=some ⟨oc,od,.func fd,sl⟩->fd.qualname∈nO->fd.code=.ref c->W.codeHdIn K c P=true->HF P=some (.tab (fd.qualname++".<locals>."++"<lambda>"))
def dv.mono{K:W.Frag}(h:dv K HF)(e:aK HF Qd):dv K Qd:=λf oc od fd sl c P a b d q=>e _ _ (h f oc od fd sl c P a b d q)
abbrev Env:=List (Option D)
structure cy(K:W.Frag)(HF:Hp)(ρ:Env)(σ:L2.St):Prop where
 get:∀ (i:Nat) (d:D),ρ[i]?=some (some d)->∃v,σ[i]?=some (some v)/\Rep K HF d v
 len:ρ.length<=σ.length
 tb:dv K HF
def cy.mono{K:W.Frag}(h:cy K HF ρ σ)(e:aK HF Qd):cy K Qd ρ σ:=⟨λi d q=>let ⟨v,a,b⟩:=h.get i d q;⟨v,a,b.mono e⟩,h.len,h.tb.mono e⟩
def tD(K:W.Frag)(f:Env->Option D):TE:=λσ H Q=>∃HF ρ d,aK HF H/\cy K HF ρ σ/\f ρ=some d/\∀v H' Qd,bQ HF H Qd H'->Rep K Qd d v->Q v H'
def DE(X:Cx)(e:Expr)(f:Env->Option D):Prop:=PE X e (tD X.K f)
def tF(K:W.Frag)(f:Env->Option (List D)):TE:=λσ H Q=>∃HF ρ ds,aK HF H/\cy K HF ρ σ/\f ρ=some ds /\
 ∀a vs H' Qd,bQ HF H Qd H'->H a=none->Qd a=none->H' a=some (.lst vs)->au K Qd ds vs->Q (.ref a) H'
def DF(X:Cx)(e:Expr)(f:Env->Option (List D)):Prop:=PE X e (tF X.K f)
def Jw(K:W.Frag)(f:Env->Option Bool):TT:=λσ H Q=>∃HF ρ b,aK HF H/\cy K HF ρ σ/\f ρ=some b/\∀H' Qd,bQ HF H Qd H'->Q b H'
def DT(X:Cx)(e:Expr)(f:Env->Option Bool):Prop:=PT X e (Jw X.K f)
def NR(K:W.Frag)(f:Env->Option (List D)):TA:=λσ H Q=>∃HF ρ ds,aK HF H/\cy K HF ρ σ/\f ρ=some ds/\∀vs H' Qd,bQ HF H Qd H'->au K Qd ds vs->Q vs H'
def DA(X:Cx)(es:List Expr)(f:Env->Option (List D)):Prop:=PA X es (NR X.K f)
def aD(h:PE X e t)(i:∀σ H Q,t' σ H Q->t σ H Q):PE X e t':=λpins s σ H Q I q=>h pins s σ H Q I (i σ H Q q)
def rQ(h:PT X e t)(i:∀σ H Q,t' σ H Q->t σ H Q):PT X e t':=λpins s σ H Q I q=>h pins s σ H Q I (i σ H Q q)
def rH(h:PA X e t)(i:∀σ H Q,t' σ H Q->t σ H Q):PA X e t':=λpos pins s σ H Q I q=>h pos pins s σ H Q I (i σ H Q q)
def bs(h:x.bind f=some b):∃a,x=some a/\f a=some b:=by
 cases x with
 | none=>cases h
 | some a=>exact⟨a,rfl,h⟩
def DF.de(h:DF X e f):DE X e (λρ=>(f ρ).map PyData.list):=aD h λσ H Q ⟨HF,ρ,d,sm,eo,hf,q⟩=>by
 have hf:(f ρ).map PyData.list=some d:=hf;cases e1:f ρ with
 | none=>rw[e1] at hf;cases hf
 | some ds =>
  rw[e1] at hf;obtain rfl:PyData.list ds=d:=xB hf;refine⟨HF,ρ,ds,sm,eo,e1,λa vs H' Qd g ha SQ h' r=>q _ _ (upd Qd a (.lst vs)) (g.freeze ha h' SQ) ?_⟩;simp?[Rep];exact⟨a,vs,rfl,.inl (.inl aF),r.mono (cu SQ)⟩
def aa(i:Nat):Env->Option D:=λρ=>(ρ[i]?).getD none
def LC(i:Nat)(hN:X.N[i]?=some x)(hv:FC X.env.scope x)(hd:(x == ("__debug__":Str))=false:=by decide)(QW:(x == ("__classdict__":Str))=false:=by decide):DE X (.Name x pos) (aa i) :=
 aD (ja hN hv hd QW) λσ H Q ⟨HF,ρ,d,sm,eo,hf,q⟩=>by
  have hf:(ρ[i]?).getD none=some d:=hf;cases e:ρ[i]? with
  | none=>rw[e] at hf;cases hf
  | some o =>
   rw[e] at hf;have hf:o=some d:=hf;subst hf;let⟨v,a,b⟩:=eo.get i d e;exact⟨v,a,q v H HF (.refl sm) b⟩
def fC(d:D):Env->Option D:=λ_=>some d
def Jz{i j pos}:DE X (.Constant (.int i) j pos) (fC (.int i)):=aD wR λσ H Q ⟨HF,ρ,d,sm,eo,hf,q⟩=>by cases hf;exact q _ H HF (.refl sm) (by simp[Rep])
def MA{b j pos}:DE X (.Constant (.bool b) j pos) (fC (.bool b)):=aD IA λσ H Q ⟨HF,ρ,d,sm,eo,hf,q⟩=>by cases hf;exact q _ H HF (.refl sm) (by simp[Rep])
def Jd{j pos}:DE X (.Constant .none j pos) (fC .none):=aD D0 λσ H Q ⟨HF,ρ,d,sm,eo,hf,q⟩=>by cases hf;exact q _ H HF (.refl sm) (by simp[Rep])
def La{x j pos}:DE X (.Constant (.str x) j pos) (fC (.str x)):=aD Kl λσ H Q ⟨HF,ρ,d,sm,eo,hf,q⟩=>by cases hf;exact q _ H HF (.refl sm) (by simp[Rep])
def Hy(hg:Gl X x)(hm:X.mg x=some (.int i t))(hd:(x == ("__debug__":Str))=false:=by decide):DE X (.Name x pos) (fC (.int i)) :=
 aD (zu (v:=.int i) hg hm ⟨t,rfl⟩ hd) λσ H Q ⟨HF,ρ,d,sm,eo,hf,q⟩=>by cases hf;exact q _ H HF (.refl sm) (by simp[Rep])
def di(K:W.Frag)(r:R2)(g:D->D->Option D):Prop:=∀HF H x y v1 v2 d Q,aK HF H->Rep K HF x v1->Rep K HF y v2->g x y=some d->(∀v H' Qd,bQ HF H Qd H'->Rep K Qd d v->Q v H')->r v1 v2 H Q
def f2(g:D->D->Option D)(f1 f2:Env->Option D):Env->Option D:=λρ=>(f1 ρ).bind λx=>(f2 ρ).bind λy=>g x y
def A9{X:Cx}{fa fb:Env->Option D}(hr:di X.K r g):∀σ H Q,tD X.K (f2 g fa fb) σ H Q->Mb r (tD X.K fa) (tD X.K fb) σ H Q:=λσ H Q ⟨HF,ρ,d,sm,eo,hf,q⟩=>by
 let⟨x,hx,hf⟩:=bs hf;let⟨y,hy,hg⟩:=bs hf;exact⟨HF,ρ,x,sm,eo,hx,λv1 H1 Qf g1 r1=>⟨Qf,ρ,y,g1.fh,eo.mono g1.ff,hy,λv2 H2 Qp g2 r2=>hr Qp H2 x y v1 v2 d Q g2.fh (r1.mono g2.ff) r2 hg λv H' Qd g3 r3=>q v H' Qd ((g1.trans g2).trans g3) r3⟩⟩
def pZ(ho:eN X (binaryOp op) r)(hr:di X.K r g)(ha:DE X a fa)(hb:DE X b fb):DE X (.BinOp a op b pos) (f2 g fa fb):=aD (BP ho ha hb) (A9 hr)
def d6(ho:eN X (compareOp op) r)(hr:di X.K r g)(ha:DE X a fa)(hb:DE X b fb)(hm:behindInMarks op b=false):DE X (.Compare a [op] [b] pos) (f2 g fa fb):=aD (Hj ho ha hb hm) (A9 hr)
def qt(C:Int->Int->Prop)[∀i j,Decidable (C i j)](g:Int->Int->D):D->D->Option D
 | .int i,.int j=>if C i j then some (g i j) else none
 | _,_=>none
def Dt{K:W.Frag}{C:Int->Int->Prop}[∀i j,Decidable (C i j)]{gi:Int->Int->Int}:di K (rI C λi j=>.int (gi i j)) (qt C λi j=>.int (gi i j)):=by
 intro HF H x y v1 v2 d Q sm r1 r2 hg q;cases x<;>cases y<;>simp?[qt] at hg<;>try cases hg
 rename_i i j;simp?[Rep] at r1 r2;by_cases hc:C i j
 ·rw[yJ hc] at hg;cases hg;exact⟨i,j,r1,r2,hc,q _ H HF (.refl sm) (by simp[Rep])⟩
 ·rw[yL hc] at hg;cases hg
def B4{K:W.Frag}{gi:Int->Int->Int}:di K (FB λi j=>.int (gi i j)) (qt (λ_ _=>True) λi j=>.int (gi i j)):=by
 intro HF H x y v1 v2 d Q sm r1 r2 hg q;cases x<;>cases y<;>simp?[qt] at hg<;>try cases hg
 rename_i i j;simp?[Rep] at r1 r2;exact⟨i,j,r1,r2,q _ H HF (.refl sm) (by simp[Rep])⟩
def iu{K:W.Frag}{gi:Int->Int->Bool}:di K (FB λi j=>.bl (gi i j)) (qt (λ_ _=>True) λi j=>.bool (gi i j)):=by
 intro HF H x y v1 v2 d Q sm r1 r2 hg q;cases x<;>cases y<;>simp?[qt] at hg<;>try cases hg
 rename_i i j;simp?[Rep] at r1 r2;exact⟨i,j,r1,r2,q _ H HF (.refl sm) (by simp[Rep])⟩
noncomputable instance (i j:Int):Decidable (oW i j):=by unfold oW;infer_instance
noncomputable instance (i j:Int):Decidable (F6 i j):=by unfold F6;infer_instance
section
variable {X:Cx}{a b c:Expr}{fa fb fc:Env->Option D}{pos:Pos}{rest:List Expr}
def iP(fa fb:Env->Option D):Env->Option D:=λρ=>(fa ρ).bind fun|.bool true=>fb ρ|.bool false=>some (.bool false)|_=>none
def Oq(fa fb:Env->Option D):Env->Option D:=λρ=>(fa ρ).bind fun|.bool true=>some (.bool true)|.bool false=>fb ρ|_=>none
def MN:D->Option D|.bool b=>some (.bool (!b))|_=>none
def Oj(fa:Env->Option D):Env->Option D:=λρ=>(fa ρ).bind MN
def Ja{op}(h:DE X a fa):DE X (.BoolOp op [a] pos) fa:=JY h
def KS(ha:DE X a fa)(hb:DE X (.BoolOp .And (b::rest) pos) fb):DE X (.BoolOp .And (a::b::rest) pos) (iP fa fb):=aD (IY ha hb) λσ H Q ⟨HF,ρ,d,sm,eo,hf,q⟩=>by
 let⟨x,hx,hf⟩:=bs hf;refine⟨HF,ρ,x,sm,eo,hx,λv1 H1 Qf g1 r1=>?_⟩;cases x<;>try cases hf
 rename_i k;simp?[Rep] at r1;refine⟨k,r1,?_⟩;cases k with
 | true=>exact mI ⟨Qf,ρ,d,g1.fh,eo.mono g1.ff,hf,λv H' Qd g r=>q v H' Qd (g1.trans g) r⟩
 | false=>cases hf;exact oQ (q _ H1 Qf g1 (by simp[Rep]))
def MF(ha:DE X a fa)(hb:DE X (.BoolOp .Or (b::rest) pos) fb):DE X (.BoolOp .Or (a::b::rest) pos) (Oq fa fb):=aD (D2 ha hb) λσ H Q ⟨HF,ρ,d,sm,eo,hf,q⟩=>by
 let⟨x,hx,hf⟩:=bs hf;refine⟨HF,ρ,x,sm,eo,hx,λv1 H1 Qf g1 r1=>?_⟩;cases x<;>try cases hf
 rename_i k;simp?[Rep] at r1;refine⟨k,r1,?_⟩;cases k with
 | false=>exact oQ ⟨Qf,ρ,d,g1.fh,eo.mono g1.ff,hf,λv H' Qd g r=>q v H' Qd (g1.trans g) r⟩
 | true=>cases hf;exact mI (q _ H1 Qf g1 (by simp[Rep]))
def gB:D->Option Bool|.bool b=>some b|_=>none
def fB(f:Env->Option D):Env->Option Bool:=λρ=>(f ρ).bind gB
def wg:∀σ H (Q:Bool->Hp->Prop),Jw X.K (fB f) σ H Q->tD X.K f σ H λx H1=>∃c,x=.bl c/\Q c H1:=λσ H Q ⟨HF,ρ,k,sm,eo,hf,q⟩=>by
 let⟨x,hx,hf⟩:=bs hf;refine⟨HF,ρ,x,sm,eo,hx,λv1 H1 Qf g1 r1=>?_⟩;cases x<;>try cases hf
 simp?[Rep] at r1;exact⟨_,r1,q H1 Qf g1⟩
def LD(h:DE X a f)(he:∀whole,isTrue a X.env whole=(do let v <- whole;standAt a.pos;holding [v] (truthy v)):=by intro _;rfl):DT X a (fB f):=rQ (Es h he) wg
def dX(ho:eN X (compareOp op) r)(hr:di X.K r g)(ha:DE X a fa)(hb:DE X b fb)(hm:behindInMarks op b=false):DT X (.Compare a [op] [b] pos) (fB (f2 g fa fb)) :=
 rQ (yr ho ha hb hm) λσ H Q h=>A9 hr σ H _ (wg σ H Q h)
def ow(fa fb:Env->Option Bool):Env->Option Bool:=λρ=>(fa ρ).bind fun|true=>fb ρ|false=>some false
def dk(fa fb:Env->Option Bool):Env->Option Bool:=λρ=>(fa ρ).bind fun|true=>some true|false=>fb ρ
def bK(fa:Env->Option Bool):Env->Option Bool:=λρ=>(fa ρ).map (!·)
variable {ta tb:Env->Option Bool}
def DW(X:Cx)(e:Expr)(f:Env->Option Bool):Prop:=PW X e (Jw X.K f)
def BX(h:PW X e t)(i:∀σ H Q,t' σ H Q->t σ H Q):PW X e t':=λwh pins s σ H Q I q=>h wh pins s σ H Q I (i σ H Q q)
def DW.dt(h:DW X a ta):DT X a ta:=PW.pt h
def Fp(ha:DT X a ta):DW X (.BoolOp .And [a] pos) ta:=zm ha
def Js(ha:DT X a ta):DW X (.BoolOp .Or [a] pos) ta:=Ka ha
def J8(ha:DT X a ta)(hb:DW X (.BoolOp .And (b::rest) pos) tb):DW X (.BoolOp .And (a::b::rest) pos) (ow ta tb):=BX (Dh ha hb) λσ H Q ⟨HF,ρ,d,sm,eo,hf,q⟩=>by
 let⟨x,hx,hf⟩:=bs hf;refine⟨HF,ρ,x,sm,eo,hx,λH1 Qf g1=>?_⟩;cases x with
 | true=>exact mI ⟨Qf,ρ,d,g1.fh,eo.mono g1.ff,hf,λH' Qd g=>q H' Qd (g1.trans g)⟩
 | false=>cases hf;exact oQ (q H1 Qf g1)
def Md(ha:DT X a ta)(hb:DW X (.BoolOp .Or (b::rest) pos) tb):DW X (.BoolOp .Or (a::b::rest) pos) (dk ta tb):=BX (MP ha hb) λσ H Q ⟨HF,ρ,d,sm,eo,hf,q⟩=>by
 let⟨x,hx,hf⟩:=bs hf;refine⟨HF,ρ,x,sm,eo,hx,λH1 Qf g1=>?_⟩;cases x with
 | false=>exact oQ ⟨Qf,ρ,d,g1.fh,eo.mono g1.ff,hf,λH' Qd g=>q H' Qd (g1.trans g)⟩
 | true=>cases hf;exact mI (q H1 Qf g1)
def JA(ha:DT X a ta):DT X (.UnaryOp .Not a pos) (bK ta):=rQ (JE ha) λσ H Q ⟨HF,ρ,d,sm,eo,hf,q⟩=>by
 have hf:(ta ρ).map (!·)=some d:=hf;cases e:ta ρ with
 | none=>rw[e] at hf;cases hf
 | some k=>rw[e] at hf;cases hf;exact⟨HF,ρ,k,sm,eo,e,λH1 Qf g1=>q H1 Qf g1⟩
def Fd(tc:Env->Option Bool)(fa fb:Env->Option D):Env->Option D:=λρ=>(tc ρ).bind fun|true=>fa ρ|false=>fb ρ
def Nc(hc:DT X c ta)(ha:DE X a fa)(hb:DE X b fb):DE X (.IfExp c a b pos) (Fd ta fa fb):=aD (ug hc ha hb) λσ H Q ⟨HF,ρ,d,sm,eo,hf,q⟩=>by
 let⟨x,hx,hf⟩:=bs hf;refine⟨HF,ρ,x,sm,eo,hx,λH1 Qf g1=>?_⟩;cases x with
 | true=>exact mI ⟨Qf,ρ,d,g1.fh,eo.mono g1.ff,hf,λv H' Qd g r=>q v H' Qd (g1.trans g) r⟩
 | false=>exact oQ ⟨Qf,ρ,d,g1.fh,eo.mono g1.ff,hf,λv H' Qd g r=>q v H' Qd (g1.trans g) r⟩
def il(g g':D->D->Option D)(fa fb fc:Env->Option D):Env->Option D:=λρ=>(fa ρ).bind λx=>(fb ρ).bind λy=>(g x y).bind fun|.bool true=>(fc ρ).bind λz=>g' y z|.bool false=>some (.bool false)|_=>none
def zh(hr:di X.K r g)(Rm:di X.K r' g'):∀σ H Q,tD X.K (il g g' fa fb fc) σ H Q->vf r r' (tD X.K fa) (tD X.K fb) (tD X.K fc) σ H Q:=λσ H Q ⟨HF,ρ,d,sm,eo,hf,q⟩=>by
 let⟨x,hx,hf⟩:=bs hf;let⟨y,hy,hf⟩:=bs hf;let⟨z,hz,hf⟩:=bs hf;refine⟨HF,ρ,x,sm,eo,hx,λv1 H1 Qf g1 r1=>⟨Qf,ρ,y,g1.fh,eo.mono g1.ff,hy,λv2 H2 Qp g2 r2=>hr Qp H2 x y v1 v2 z _ g2.fh (r1.mono g2.ff) r2 hz λv3 H3 QC g3 r3=>?_⟩⟩;cases z<;>try cases hf
 rename_i k;simp?[Rep] at r3;refine⟨k,r3,?_⟩;have G:=(g1.trans g2).trans g3;cases k with
 | false=>cases hf;exact oQ (q _ H3 QC G (by simp[Rep]))
 | true =>
  let⟨w,hw,hg⟩:=bs hf;exact mI ⟨QC,ρ,w,G.fh,eo.mono G.ff,hw,λv4 H4 RZ g4 r4=>Rm RZ H4 y w v2 v4 d Q g4.fh (r2.mono (g3.ff.trans g4.ff)) r4 hg λv H' Qd g5 r5=>q v H' Qd ((G.trans g4).trans g5) r5⟩
def EW(ho:eN X (compareOp op) r)(hr:di X.K r g)(QV:eN X (compareOp RU) r')(Rm:di X.K r' g')(ha:DE X a fa)(hb:DE X b fb)(hc:DE X c fc)
  (hm:lastMarks [op,RU] [b,c]=false:=by with_unfolding_all rfl):DE X (.Compare a [op,RU] [b,c] pos) (il g g' fa fb fc):=aD (DY ho QV ha hb hc hm) (zh hr Rm)
def Cq(ho:eN X (compareOp op) r)(hr:di X.K r g)(QV:eN X (compareOp RU) r')(Rm:di X.K r' g')(ha:DE X a fa)(hb:DE X b fb)(hc:DE X c fc)
  (hm:lastMarks [op,RU] [b,c]=false:=by with_unfolding_all rfl):DT X (.Compare a [op,RU] [b,c] pos) (fB (il g g' fa fb fc)) :=
 rQ (Eb ho QV ha hb hc hm) λσ H Q h=>zh hr Rm σ H _ (wg σ H Q h)
def ag:Env->Option (List D):=λ_=>some []
def ae(f:Env->Option D)(g:Env->Option (List D)):Env->Option (List D):=λρ=>(f ρ).bind λx=>(g ρ).map (x::·)
def Ku:DA X [] ag:=rH dc λσ H Q ⟨HF,ρ,d,sm,eo,hf,q⟩=>by cases hf;exact q [] H HF (.refl sm) au.nil
def GK(he:DE X e f)(hs:DA X es g)(RG:starEach (e::es) X.env=(false,eval e X.env)::starEach es X.env:=by rfl):DA X (e::es) (ae f g) :=
 rH (bS he hs RG) λσ H Q ⟨HF,ρ,d,sm,eo,hf,q⟩=>by
  let⟨x,hx,hf⟩:=bs hf;have hf:(g ρ).map (x::·)=some d:=hf;cases e1:g ρ with
  | none=>rw[e1] at hf;cases hf
  | some xs =>
   rw[e1] at hf;cases hf;exact⟨HF,ρ,x,sm,eo,hx,λv1 H1 Qf g1 r1=>⟨Qf,ρ,xs,g1.fh,eo.mono g1.ff,e1,λvs H2 Qp g2 r2=>q (v1::vs) H2 Qp (g1.trans g2) (au.cons (r1.mono g2.ff) r2)⟩⟩
variable {es:List Expr}{fs:Env->Option (List D)}
def small(ds:List D):Option (List D):=if ds.length<=sizeLine then some ds else none
def dB{ds es:List D}(h:small ds=some es):es=ds/\ds.length<=sizeLine:=by
 unfold small at h;split at h
 ·cases h;exact⟨rfl,‹_›⟩
 ·cases h
def bc(g:Env->Option (List D)):Env->Option D:=λρ=>(g ρ).bind λds=>(small ds).map PyData.tuple
def cP(g:Env->Option (List D)):Env->Option (List D):=λρ=>(g ρ).bind small
def JK{x1}(h:DA X es fs):DE X (.Tuple es x1 pos) (bc fs):=aD (JC h) λσ H Q ⟨HF,ρ,d,sm,eo,hf,q⟩=>by
 let⟨ds,hx,hf⟩:=bs hf;have hf:(small ds).map PyData.tuple=some d:=hf;cases e:small ds with
 | none=>rw[e] at hf;cases hf
 | some Uu =>
  rw[e] at hf;cases hf;let⟨rfl,hz⟩:=dB e;refine⟨HF,ρ,_,sm,eo,hx,λvs H1 Qf g1 r1=>⟨by rw[r1.length];exact hz,λp hp=>q _ _ (upd Qf p (.tup vs)) (g1.trans (.new g1.fh hp)) ?_⟩⟩;simp?[Rep];exact⟨p,vs,rfl,.inl (.inl aF),r1.mono (cu (g1.fh.free hp))⟩
def JP(h:DA X es fs):DF X (.List es pos) (cP fs):=aD (wL h) λσ H Q ⟨HF,ρ,d,sm,eo,hf,q⟩=>by
 let⟨ds,hx,hf⟩:=bs hf;let⟨rfl,hz⟩:=dB hf;exact⟨HF,ρ,_,sm,eo,hx,λvs H1 Qf g1 r1=>⟨by rw[r1.length];exact hz,λp hp=>q p vs _ Qf (g1.trans (.own g1.fh hp)) (g1.hh.free hp) (g1.fh.free hp) aF r1⟩⟩
def aC:D->D->Option D
 | .tuple ds,.int i=>jj ds i
 | .list ds,.int i=>jj ds i
 | _,_=>none
def uO{K:W.Frag}(r:au K HF ds vs)(h:jj ds i=some d):∃v,jj vs i=some v/\Rep K HF d v:=by
 unfold jj at h ⊢;rw[r.length];let⟨j,hj,h⟩:=bs h;let⟨v,a,b⟩:=r.getD h;exact⟨v,by rw[hj];exact a,b⟩
def Lz{K:W.Frag}:di K (Pa K) aC:=by
 intro HF H x y v1 v2 d Q sm r1 r2 hg q;cases x<;>cases y<;>simp?[aC] at hg<;>try cases hg
 ·simp?[Rep] at r1 r2;let⟨a,vs,rfl,hs,r⟩:=r1;let⟨v,hv,rv⟩:=uO r hg;exact .inl ⟨a,vs,_,v,rfl,r2,sm.seq hs,hv,q v H HF (.refl sm) rv⟩
 ·simp?[Rep] at r1 r2;let⟨a,vs,rfl,hs,r⟩:=r1;let⟨v,hv,rv⟩:=uO r hg;exact .inr (.inl ⟨a,vs,_,v,rfl,r2,ax sm hs,hv,q v H HF (.refl sm) rv⟩)
def L6(ha:DE X a fa)(hb:DE X b fb)(hs:kf b:=by intro _ _;rfl):DE X (.Subscript a b pos) (f2 aC fa fb):=aD (Da Ld ha hb hs) (A9 Lz)
def vc{x:Str}{v:Value}(h:Value.isStrOf x v=true):∃t,v=.str x t:=by
 unfold Value.isStrOf at h;split at h
 ·exact⟨_,by rw[eq_of_beq h]⟩
 ·cases h
def oa{h:Heap}:∀ {ns:List Int}{us:List Value},aA (ns.map V.int) us->∃as,ReadsAll h us (ns.map PyData.int) as
 | [],_,r=>by cases r;exact⟨_,.nil⟩
 | n::ns,_,r=>by
  rw[zI] at r ⊢;cases r with
  | cons a b =>
   let⟨t,rfl⟩:=a;let⟨as,q⟩:=oa b;exact⟨_,.cons (.int n t) q⟩
def pK{pins:List (Addr×Obj)}{σ:L2.St}{H HF:Hp}{s:Shared}(I:Inv X pins σ H s)(sm:aK HF H):∀ {ks:List (Str×List Int)}{us:List (fj×V)}{vs:List (fj×Value)}{es:List DictEntry},eJ X.K HF ks us->KV us vs->PySem.Pairs (gG X.prog X.w) es vs ->
  ∃as bs,ReadsAll s.heap (es.map (·.key)) ((dE ks).map (·.1)) as/\ReadsAll s.heap (es.map (·.val)) ((dE ks).map (·.2)) bs
 | [],us,vs,es,h,kv,hp=>by
  have h:us=[]:=h;subst h;cases kv;cases hp;exact⟨_,_,.nil,.nil⟩
 | p::r,us,vs,es,⟨b,t,h1,h2,h3⟩,kv,hp=>by
  subst h1;cases kv with
  | cons q kv =>
   cases hp with
   | cons k1 k2 hp =>
    let⟨as,bs,q1,q2⟩:=pK I sm h3 kv hp;let⟨z1,z2⟩:=q;have z2:_=Value.ref b:=z2;have z1:Sum.inr p.1=_:=z1;rw[<- z1] at k1;let⟨tk,ek⟩:=vc (show Value.isStrOf p.1 _=true from k1);let⟨its,rv,⟨o,ho,hc,n,hd⟩,_⟩:=I.tuple (ax sm h2);let⟨cs,q3⟩:=oa (h:=s.heap) rv;have r1:Reads s.heap (.str p.1 tk) (.str p.1) []:=.str p.1 tk;have r2:Reads s.heap (.ref b) (.tuple (p.2.map PyData.int)) cs:=.tuple ho hc hd (by simpa using q3);rw[<- z2,<- k2] at r2;rw[<- ek] at r1;exact⟨_,_,.cons r1 q1,.cons r2 q2⟩
mutual
theorem da{pins:List (Addr×Obj)}{σ:L2.St}{H HF:Hp}{s:Shared}(I:Inv X pins σ H s)(sm:aK HF H):∀ {d:D}{v:V}{u:Value},Rep X.K HF d v->RelV v u->∃as,Reads s.heap u d as
 | .none,_,_,h,r=>by simp?[Rep] at h;subst h;cases r;exact⟨_,.none⟩
 | .bool b,_,_,h,r=>by simp?[Rep] at h;subst h;cases r;exact⟨_,.bool b⟩
 | .int i,_,_,h,r=>by simp?[Rep] at h;subst h;let⟨t,rfl⟩:=r;exact⟨_,.int i t⟩
 | .str i,_,_,h,r=>by simp?[Rep] at h;subst h;let⟨t,rfl⟩:=r;exact⟨_,.str i t⟩
 | .tuple ds,_,_,h,r=>by
  simp?[Rep] at h;let⟨a,vs,rfl,hs,rr⟩:=h;cases r;let⟨its,rv,⟨o,ho,hc,n,hd⟩,_⟩:=I.tuple (ax sm hs);let⟨as,q⟩:=lW I sm rr rv;exact⟨as,.tuple ho hc hd (by simpa using q)⟩
 | .list ds,_,_,h,r=>by
  simp?[Rep] at h;let⟨a,vs,rfl,hs,rr⟩:=h;cases r;let⟨its,rv,pl,_⟩:=I.list (sm.seq hs);let⟨o,ho,hc,n,hd⟩:=pl.isList;let⟨as,q⟩:=lW I sm rr rv;exact⟨_,.list ho hc hd (by simpa using q)⟩
 | .dict l,_,_,h,r=>by
  simp?[Rep] at h;let⟨a,ks,us,rfl,rfl,e,dr⟩:=h;cases r;let⟨_,_,vs,kv,o,es,ep,ho,hx,hd,_,hp,_⟩:=(show cU X.prog X.w H s.heap a (.dK us) from I.Qh a _ (sm _ _ e))
  let⟨as,bs,q1,q2⟩:=pK I sm dr kv hp;exact⟨_,.dict ho hx.1 hd q1 q2⟩
theorem lW{pins:List (Addr×Obj)}{σ:L2.St}{H HF:Hp}{s:Shared}(I:Inv X pins σ H s)(sm:aK HF H):∀ {ds:List D}{vs:List V}{us:List Value},au X.K HF ds vs->aA vs us->∃as,ReadsAll s.heap us ds as
 | [],_,_,h,r=>by rw[h.nil_inv] at r;cases r;exact⟨_,.nil⟩
 | d::ds,_,_,h,r=>by
  let⟨v,vr,rfl,a,b⟩:=h.cons_inv;cases r with
  | cons r rr =>
   let⟨as,q⟩:=da I sm a r;let⟨bs,p⟩:=lW I sm b rr;exact⟨_,.cons q p⟩
end
def KE(K:W.Frag)(g:D->D->Option Bool):R2:=λv1 v2 H Q=>∃HF x y k,aK HF H/\Rep K HF x v1/\Rep K HF y v2/\g x y=some k/\Q (.bl k) H
def d7{K:W.Frag}:di K (KE K g) (λx y=>(g x y).map PyData.bool):=by
 intro HF H x y v1 v2 d Q sm r1 r2 hg q;have hg:(g x y).map PyData.bool=some d:=hg;cases e:g x y with
 | none=>rw[e] at hg;cases hg
 | some k=>rw[e] at hg;cases hg;exact⟨HF,x,y,k,sm,r1,r2,e,q _ H HF (.refl sm) (by simp[Rep])⟩
def Fh(x y:D):Option Bool:=if SeqAt.shaped x=true/\SeqAt.shaped y=true then some (PyData.eqv x y) else none
def FH(x y:D):Option Bool:=if SeqAt.shaped x=true/\SeqAt.shaped y=true then some (!PyData.eqv x y) else none
def wD(hu:X.A.units+64 < cLine):eN X (compareOp .Eq) (KE X.K Fh):=by
 intro pins s σ H v1 v2 u1 u2 Q I rx ry h;let⟨HF,x,y,k,sm,r1,r2,hg,q⟩:=h;unfold Fh at hg;split at hg<;>cases hg;rename_i hh;let⟨as,ra⟩:=da I sm r1 rx;let⟨bs,rb⟩:=da I sm r2 ry;exact eq_dataH ra rb hh.1 hh.2 hu ⟨.bl _,H,I,rfl,q⟩
def E5(hu:X.A.units+64 < cLine):eN X (compareOp .NotEq) (KE X.K FH):=by
 intro pins s σ H v1 v2 u1 u2 Q I rx ry h;let⟨HF,x,y,k,sm,r1,r2,hg,q⟩:=h;unfold FH at hg;split at hg<;>cases hg;rename_i hh;let⟨as,ra⟩:=da I sm r1 rx;let⟨bs,rb⟩:=da I sm r2 ry;exact ne_dataH ra rb hh.1 hh.2 hu ⟨.bl _,H,I,rfl,q⟩
def items:D->Option (List D)|.tuple ds=>some ds|.list ds=>some ds|_=>none
def Oi(x y:D):Option Bool:=match y with
 | .tuple ds=>if SeqAt.shaped x=true/\SeqAt.shaped y=true then some (ds.any λz=>PyData.eqv z x) else none
 | .list ds=>if SeqAt.shaped x=true/\SeqAt.shaped y=true then some (ds.any λz=>PyData.eqv z x) else none
 | _=>none
def C9(hu:X.A.units+66 < cLine):eN X (compareOp .In) (KE X.K Oi):=by
 intro pins s σ H v1 v2 u1 u2 Q I rx ry h;let⟨HF,x,y,k,sm,r1,r2,hg,q⟩:=h;let⟨as,ra⟩:=da I sm r1 rx;let⟨bs,rb⟩:=da I sm r2 ry;cases y<;>simp?[Oi] at hg<;>try cases hg
 all_goals
  split at hg<;>cases hg;rename_i ds hh;have c1:=jZ hh.1;have c2:=jZ hh.2;have d1:=SeqAt.depth_of_shaped hh.1;simp?[PyData.canLay0] at c2;have m:=Nat.min_le_right (PyData.depthAll ds) x.depth
  first
   | exact SeqAt.in_list_reads rb ra c2 c1 (by lia) ⟨.bl _,H,I,rfl,q⟩
   | exact SeqAt.in_tuple_reads rb ra c2 c1 (by lia) ⟨.bl _,H,I,rfl,q⟩
end
def Nb(K:W.Frag)(n:Nat)(m:List D->Option D):Sp:=λvs H Q _=>∃HF ds d,aK HF H/\dv K HF/\au K HF ds vs/\ds.length=n/\m ds=some d/\∀v H' Qd,bQ HF H Qd H'->Rep K Qd d v->Q v H'
structure EY(P:Program)(w:World)(K:W.Frag)(mg:Str->Option Value)(base:Heap)(k:Nat)(x:Str)(n:Nat)(m:List D->Option D):Prop where
 ex:∃ (f:Addr) (fd:FuncData) (ps:List Str),mF P w K mg base Io k f fd ps (Nb K n m)/\mg x=some (.ref f)/\W.keepIn K (.ref f)=true/\Binds K fd ps []
def EY.mono{K:W.Frag}(F:EY P w K mg base k x n m)(h:k<=j):EY P w K mg base j x n m:=by
 let⟨f,fd,ps,a,b,c,d⟩:=F.ex;exact⟨f,fd,ps,a.mono h,b,c,d⟩
def ai(n:Nat)(m:List D->Option D)(fs:Env->Option (List D)):Env->Option D:=λρ=>(fs ρ).bind λds=>if ds.length=n then m ds else none
def Hu(F:EY X.prog X.w X.K X.mg X.base k x n m)(hr:gF k X.A)(hg:Gl X x)(ha:DA X (e::es) fs)(QD:(x == ("__debug__":Str))=false:=by decide)
  (he:starEach (e::es) X.env=(false,eval e X.env)::starEach es X.env:=by rfl) (QZ:(backTo pos (starEach es X.env)).any (·.1)=false:=by rfl):DE X (.Call (.Name x p) (e::es) [] pos) (ai n m fs):=by
 let⟨f,fd,ps,ok,hm,hk,hb⟩:=F.ex;refine aD (yl (E:=E0) ok hr hg hm hk hb .nil MJ ha QD he QZ) λσ H Q ⟨HF,ρ,d,sm,eo,hf,q⟩=>?_;let⟨ds,hx,hf⟩:=bs hf;split at hf
 ·rename_i hl;exact⟨HF,ρ,ds,sm,eo,hx,λvs H1 Qf g1 r1=>⟨Qf,ds,d,g1.fh,eo.tb.mono g1.ff,by rw[qD];exact r1,hl,hf,λv H' Qd g r=>q v H' Qd (g1.trans g) r⟩⟩
 ·cases hf
def Ce(K:W.Frag)(r:List V->Hp->VK->Prop)(g:List D->Option D):Prop:=∀HF H ds vs d Q,aK HF H->au K HF ds vs->g ds=some d->(∀v H' Qd,bQ HF H Qd H'->Rep K Qd d v->Q v H')->r vs H Q
def aW(g:List D->Option D)(fs:Env->Option (List D)):Env->Option D:=λρ=>(fs ρ).bind g
def Mp{X:Cx}{fs:Env->Option (List D)}(hs:Ce X.K r g):∀σ H Q,tD X.K (aW g fs) σ H Q->Nw r (NR X.K fs) σ H Q:=λσ H Q ⟨HF,ρ,d,sm,eo,hf,q⟩=>by
 let⟨ds,hx,hf⟩:=bs hf;exact⟨HF,ρ,ds,sm,eo,hx,λvs H1 Qf g1 r1=>hs Qf H1 ds vs d Q g1.fh r1 hf λv H' Qd g2 r2=>q v H' Qd (g1.trans g2) r2⟩
def zx(K:W.Frag)(r:List V->Hp->VK->Prop)(g:List D->Option (List D)):Prop:=∀HF H ds vs es Q,aK HF H->au K HF ds vs->g ds=some es ->
 (∀a us H' Qd,bQ HF H Qd H'->H a=none->Qd a=none->H' a=some (.lst us)->au K Qd es us->Q (.ref a) H')->r vs H Q
def lG(g:List D->Option (List D))(fs:Env->Option (List D)):Env->Option (List D):=λρ=>(fs ρ).bind g
def IE{X:Cx}{fs:Env->Option (List D)}(hs:zx X.K r g):∀σ H Q,tF X.K (lG g fs) σ H Q->Nw r (NR X.K fs) σ H Q:=λσ H Q ⟨HF,ρ,d,sm,eo,hf,q⟩=>by
 let⟨ds,hx,hf⟩:=bs hf;exact⟨HF,ρ,ds,sm,eo,hx,λvs H1 Qf g1 r1=>hs Qf H1 ds vs d Q g1.fh r1 hf λa us H' Qd g2 ha SQ h' r2=>q a us H' Qd (g1.trans g2) (g1.hh.free ha) SQ h' r2⟩
structure mv(X:Cx)(x:Str)(v:Value):Prop where
 gl:Gl X x
 mg:X.mg x=none
 bt:bootBuiltins x=some v
def gf{id:String}(hc:cS X (.builtin id) r)(hs:Ce X.K r g)(B:mv X x (.builtin id))(ha:DA X (e::es) fs)(hn:x≠"__name__":=by decide)(QD:(x == ("__debug__":Str))=false:=by decide)
  (he:starEach (e::es) X.env=(false,eval e X.env)::starEach es X.env:=by rfl) (QZ:(backTo pos (starEach es X.env)).any (·.1)=false:=by rfl):DE X (.Call (.Name x p) (e::es) [] pos) (aW g fs) :=
 aD (ko hc B.gl B.mg B.bt ha hn QD he QZ) (Mp hs)
def EE{id:String}(hc:cS X (.builtin id) r)(hs:zx X.K r g)(B:mv X x (.builtin id))(ha:DA X (e::es) fs)(hn:x≠"__name__":=by decide)(QD:(x == ("__debug__":Str))=false:=by decide)
  (he:starEach (e::es) X.env=(false,eval e X.env)::starEach es X.env:=by rfl) (QZ:(backTo pos (starEach es X.env)).any (·.1)=false:=by rfl):DF X (.Call (.Name x p) (e::es) [] pos) (lG g fs) :=
 aD (ko hc B.gl B.mg B.bt ha hn QD he QZ) (IE hs)
def lz(hc:cS X (.type T) r)(hs:Ce X.K r g)(B:mv X x (.type T))(ha:DA X (e::es) fs)(hn:x≠"__name__":=by decide)(QD:(x == ("__debug__":Str))=false:=by decide)
  (he:starEach (e::es) X.env=(false,eval e X.env)::starEach es X.env:=by rfl) (QZ:(backTo pos (starEach es X.env)).any (·.1)=false:=by rfl):DE X (.Call (.Name x p) (e::es) [] pos) (aW g fs) :=
 aD (lS hc B.gl B.mg B.bt ha hn QD he QZ) (Mp hs)
def Bl(hc:cS X (.type T) r)(hs:zx X.K r g)(B:mv X x (.type T))(ha:DA X (e::es) fs)(hn:x≠"__name__":=by decide)(QD:(x == ("__debug__":Str))=false:=by decide)
  (he:starEach (e::es) X.env=(false,eval e X.env)::starEach es X.env:=by rfl) (QZ:(backTo pos (starEach es X.env)).any (·.1)=false:=by rfl):DF X (.Call (.Name x p) (e::es) [] pos) (lG g fs) :=
 aD (lS hc B.gl B.mg B.bt ha hn QD he QZ) (IE hs)
def fA:D->Option (List D)|.tuple ds=>some ds|.list ds=>some ds|_=>none
def oneOf:List D->Option D|[d]=>some d|_=>none
def fg(h:oneOf ds=some d):ds=[d]:=by
 cases ds with
 | nil=>cases h
 | cons x r=>cases r with
  | nil=>cases h;rfl
  | cons _ _=>cases h
def gD(h:fA d=some ds):d=.tuple ds\/d=.list ds:=by
 cases d<;>cases h
 ·exact .inr rfl
 ·exact .inl rfl
def c7:List D->Option (List D):=λds=>(oneOf ds).bind fA
def fH{ds es:List D}(h:c7 ds=some es):ds=[.tuple es]\/ds=[.list es]:=by
 let⟨d,h1,h2⟩:=bs h;rw[fg h1];rcases gD h2 with rfl|rfl
 ·exact .inl rfl
 ·exact .inr rfl
def bD:List D->Option D:=λds=>(c7 ds).map λes=>.int es.length
def af{α β:Type}{x:Option α}{f:α->β}{b:β}(h:x.map f=some b):∃a,x=some a/\f a=b:=by
 cases x with
 | none=>cases h
 | some a=>exact⟨a,rfl,xB h⟩
def HN{K:W.Frag}:Ce K (λxs H Q=>∃p ys,xs=[.ref p]/\(eH K H p ys\/eE K H p ys)/\Q (.int ys.length) H) bD:=by
 intro HF H ds vs d Q sm r hg q;let⟨es,h1,rfl⟩:=af hg;rcases fH h1 with rfl|rfl
 all_goals
  let⟨v,r',rfl,a,b⟩:=r.cons_inv;rw[b.nil_inv];simp?[Rep] at a;let⟨p,us,rfl,h,rr⟩:=a
 ·exact⟨p,us,rfl,.inr (ax sm h),q _ H HF (.refl sm) (by simp[Rep,rr.length])⟩
 ·exact⟨p,us,rfl,.inl (sm.seq h),q _ H HF (.refl sm) (by simp[Rep,rr.length])⟩
def KB(B:mv X "len" (.builtin "len"))(ha:DA X [e] fs)(he:starEach [e] X.env=(false,eval e X.env)::starEach [] X.env:=by rfl):DE X (.Call (.Name "len" p) [e] [] pos) (aW bD fs) :=
 gf rN HN B ha (by decide) (by decide) he rfl
def BQ{K:W.Frag}:zx K (λxs H Q=>∃p ys,xs=[.ref p]/\(eH K H p ys\/eE K H p ys)/\∀l,H l=none->Q (.ref l) (upd H l (.lst ys))) c7:=by
 intro HF H ds vs d Q sm r hg q;rcases fH hg with rfl|rfl
 all_goals
  let⟨v,r',rfl,a,b⟩:=r.cons_inv;rw[b.nil_inv];simp?[Rep] at a;let⟨p,us,rfl,h,rr⟩:=a
 ·exact⟨p,us,rfl,.inr (ax sm h),λl hl=>q l us _ HF (.own sm hl) hl (sm.free hl) aF rr⟩
 ·exact⟨p,us,rfl,.inl (sm.seq h),λl hl=>q l us _ HF (.own sm hl) hl (sm.free hl) aF rr⟩
def G9(B:mv X "list" (.type "list"))(ha:DA X [e] fs)(he:starEach [e] X.env=(false,eval e X.env)::starEach [] X.env:=by rfl):DF X (.Call (.Name "list" p) [e] [] pos) (lG c7 fs) :=
 Bl sN BQ B ha (by decide) (by decide) he rfl
def cQ{K:W.Frag}(h:HF l=none)(r:au K HF ds vs):Rep K (upd HF l (.tup vs)) (.tuple ds) (.ref l):=by
 simp?[Rep];exact⟨l,vs,rfl,.inl (.inl aF),r.mono (cu h)⟩
def AK{K:W.Frag}:Ce K (λxs H Q=>∃p ys,xs=[.ref p]/\((eH K H p ys/\∀l,H l=none->Q (.ref l) (upd H l (.tup ys)))\/(eE K H p ys/\Q (.ref p) H))) (λds=>(c7 ds).map PyData.tuple):=by
 intro HF H ds vs d Q sm r hg q;let⟨es,h1,rfl⟩:=af hg;rcases fH h1 with rfl|rfl
 all_goals
  let⟨v,r',rfl,a,b⟩:=r.cons_inv;rw[b.nil_inv];have a':=a;simp?[Rep] at a;let⟨p,us,rfl,h,rr⟩:=a
 ·exact⟨p,us,rfl,.inr ⟨ax sm h,q _ H HF (.refl sm) a'⟩⟩
 ·exact⟨p,us,rfl,.inl ⟨sm.seq h,λl hl=>q _ _ _ (.new sm hl) (cQ (sm.free hl) rr)⟩⟩
def CK(B:mv X "tuple" (.type "tuple"))(ha:DA X [e] fs)(he:starEach [e] X.env=(false,eval e X.env)::starEach [] X.env:=by rfl):DE X (.Call (.Name "tuple" p) [e] [] pos) (aW (λds=>(c7 ds).map PyData.tuple) fs) :=
 lz oZ AK B ha (by decide) (by decide) he rfl
def fK:D->String|.none=>"NoneType" | .bool _=>"bool" | .int _=>"int" | .str _=>"str" | .tuple _=>"tuple" | .list _=>"list" | .dict _=>"dict"
def rJ(a b:String):Option Bool:=if ((Value.type a) == (Value.type b))=true then some true else if W.kitMeta b=true then (fastBuiltinMro a).map (·.contains (Value.type b)) else none
def HK:∀a∈["NoneType","bool","int","str","tuple","list"],rJ a "int"=some (a == "int"||a == "bool"):=by decide +kernel
def E4:∀a∈["NoneType","bool","int","str","tuple","list"],rJ a "bool"=some (a == "bool"):=by decide +kernel
def kit_tuple:∀a∈["NoneType","bool","int","str","tuple","list"],rJ a "tuple"=some (a == "tuple"):=by decide +kernel
def CS{A:Around}{E:Value->Shared->Prop}(I:Inv X pins σ H s)(sm:aK HF H)(r:Rep X.K HF d v)(rv:RelV v u)
  (e:rJ (fK d) T=some k) (h:∀tk,Q (.bool k) { s with toks:=tk }):wpAny (model X.prog X.w) A (call (.builtin "isinstance") [u,.type T]) Q E s:=by
 have e':W.kitOne X.K (.type (fK d)) (.type T)=some k:=e;cases d<;>simp?[Rep] at r
 ·subst r;cases rv;exact W.kia_one W.kitx_none I.RF True.intro e' (λz=>nomatch z) h
 ·subst r;cases rv;exact W.kia_one W.kitx_bool I.RF True.intro e' (λz=>nomatch z) h
 ·subst r;let⟨t,rfl⟩:=rv;exact W.kia_one W.kitx_int I.RF True.intro e' (λz=>nomatch z) h
 ·subst r;let⟨t,rfl⟩:=rv;exact W.kia_one W.kitx_str I.RF True.intro e' (λz=>nomatch z) h
 ·let⟨a,vs,rfl,hs,rr⟩:=r;cases rv;let⟨its,rv,pl,_⟩:=I.list (sm.seq hs);let⟨o,ho,hc,n,hd⟩:=pl.isList;exact W.kia_one W.kitx_list I.RF ⟨o,ho,hc⟩ e' (λz=>nomatch z) h
 ·let⟨a,vs,rfl,hs,rr⟩:=r;cases rv;let⟨its,rv,⟨o,ho,hc,n,hd⟩,_⟩:=I.tuple (ax sm hs);exact W.kia_one W.kitx_tuple I.RF ⟨o,ho,hc⟩ e' (λz=>nomatch z) h
 ·let⟨a,ks,us,rfl,rfl,e0,_⟩:=r;cases rv;let⟨_,_,vs,kv,o,es,ep,ho,hx,hd,_⟩:=(show cU X.prog X.w H s.heap a (.dK us) from I.Qh a _ (sm _ _ e0))
  exact W.kia_one W.kitx_dict I.RF ⟨o,ho,hx.1⟩ e' (λz=>nomatch z) h
def IB(T:String)(f:Env->Option D):Env->Option D:=λρ=>(f ρ).bind λd=>(rJ (fK d) T).map PyData.bool
def LY(B:mv X "isinstance" (.builtin "isinstance"))(C:mv X xT (.type T))(h:DE X e f)(hn:xT≠"__name__":=by decide)(hd:(xT == ("__debug__":Str))=false:=by decide)
  (he:starEach [e,.Name xT pT] X.env=(false,eval e X.env)::starEach [.Name xT pT] X.env:=by rfl):DE X (.Call (.Name "isinstance" p) [e,.Name xT pT] [] pos) (IB T f):=by
 have hc:cS X (.builtin "isinstance") (λxs H Q=>∃HF d v k,xs=[v,.ty T]/\aK HF H/\Rep X.K HF d v/\rJ (fK d) T=some k/\Q (.bl k) H):=by
  intro pins s σ H xs us Q I r h;let⟨HF,d,v,k,rfl,sm,rp,hk,q⟩:=h;cases r with
  | cons ra rr =>
   cases rr with
   | cons rb rn =>
    cases rn;cases rb;exact CS I sm rp ra hk λtk=>⟨.bl k,H,I.tok _,rfl,q⟩
 refine aD (ko hc B.gl B.mg B.bt (bS h (bS (GF (v:=.ty T) C.gl C.mg C.bt rfl hn hd) dc) he) (by decide) (by decide) he rfl) λσ H Q ⟨HF,ρ,d,sm,eo,hf,q⟩=>?_;let⟨x,hx,hf⟩:=bs hf;let⟨k,hk,rfl⟩:=af hf;exact⟨HF,ρ,x,sm,eo,hx,λv1 H1 Qf g1 r1=>⟨Qf,x,v1,k,rfl,g1.fh,r1,hk,q _ H1 Qf g1 (by simp[Rep])⟩⟩
def HE:D->D->Option D
 | .tuple xs,.tuple ys=>(small (xs++ys)).map PyData.tuple
 | _,_=>none
def yi(K:W.Frag):R2:=λx y H Q=>∃a b xs ys,x=.ref a/\y=.ref b/\eE K H a xs/\eE K H b ys/\xs.length+ys.length<=sizeLine /\
 (xs=[]->Q (.ref b) H)/\(ys=[]->Q (.ref a) H)/\(∀p,H p=none->Q (.ref p) (upd H p (.tup (xs++ys))))
def AX:eN X (binaryOp .Add) (yi X.K):=by
 intro pins s σ H x y v u Q I rx ry h;let⟨a,b,xs,ys,rfl,rfl,ha,hb,hz,q0,q1,q2⟩:=h;by_cases hx:xs=[]
 ·cases rx;cases ry;let⟨its,r1,p1,_⟩:=I.tuple ha;let⟨QS,r2,p2,_⟩:=I.tuple hb;let⟨⟨cls,dd,data,sl⟩,ho,hc,n,hd⟩:=id p1;let⟨⟨UL,Uz,data2,Si⟩,SO,Tt,n2,hd2⟩:=id p2;simp only at hc hd Tt hd2;subst hc hd Tt hd2;have e:its=[]:=(L2.aA.Q3 r1).mpr hx;exact vT ⟨_,ho,rfl⟩ ⟨_,SO,rfl⟩ noFill_tuple_add seq_tuple_add kY kU (kR _ _)
   (tuple_addW0 a b its.toArray QS.toArray n n2 dd Uz sl Si (by simp[e])) ⟨ho,SO,⟨.ref b,H,I,rfl,q0 hx⟩⟩
 ·exact Gr pins s σ H _ _ v u Q I rx ry ⟨a,b,xs,ys,rfl,rfl,ha,hb,hx,hz,q1,λ_ p hp=>q2 p hp⟩
def HA{K:W.Frag}:di K (yi K) HE:=by
 intro HF H x y v1 v2 d Q sm r1 r2 hg q;cases x<;>cases y<;>simp?[HE] at hg<;>try cases hg
 rename_i xs ys;let⟨es,h1,rfl⟩:=af hg;let⟨rfl,hz⟩:=dB h1;have VG:=r1;have VH:=r2;simp?[Rep] at r1 r2;let⟨a,vs,rfl,ha,ra⟩:=r1;let⟨b,us,rfl,hb,rb⟩:=r2;refine⟨a,b,vs,us,rfl,rfl,ax sm ha,ax sm hb,by rw[ra.length,rb.length,<- zN];exact hz,λe=>?_,λe=>?_,λp hp=>q _ _ _ (.new sm hp) (cQ (sm.free hp) (ra.append rb))⟩
 ·have:xs=[]:=by have:=ra.length;rw[e] at this;exact List.length_eq_zero_iff.mp this.symm
  subst this;exact q _ H HF (.refl sm) VH
 ·have:ys=[]:=by have:=rb.length;rw[e] at this;exact List.length_eq_zero_iff.mp this.symm
  subst this;rw[qD] at q;exact q _ H HF (.refl sm) VG
structure nz(K:W.Frag)(J:It)(HF:Hp)(ds:List D):Prop where
 go:∀i d Qy Qn,ds[i]?=some d->aK HF Qn->aK Qn Qy->J.go i Qy/\∀x Rx,J.SK i Qy x Rx->∃Tz,bQ Qn Qy Tz Rx/\Rep K Tz d x
 stop:∀Qy Qn,aK HF Qn->aK Qn Qy->J.stop ds.length Qy
def Pc(K:W.Frag)(f:Env->Option (List D)):TI:=λσ H R=>∃HF ρ ds,aK HF H/\cy K HF ρ σ/\f ρ=some ds/\∀J H' Qd,bQ HF H Qd H'->nz K J Qd ds->R J H'
def DI(X:Cx)(tg iter:Expr)(f:Env->Option (List D)):Prop:=PI X tg iter (Pc X.K f)
def pj{K:W.Frag}(h:eH K HF a vs)(r:au K HF ds vs):nz K (Nk K a) HF ds where
 go:=λi d Qy Qn e s1 s2=>by
  let⟨v,hv,rv⟩:=r.getD e;have q:=s2.seq (s1.seq h);refine⟨⟨vs,v,q,hv⟩,λx Rx ⟨e2,hy⟩=>⟨Qn,by rw[e2];exact .refl s2,?_⟩⟩;have:=hy vs q;rw[hv] at this;cases this;exact rv.mono s1
 stop:=λQy Qn s1 s2=>⟨vs,s2.seq (s1.seq h),by rw[r.length];exact yK _⟩
def ui{K:W.Frag}(h:eE K HF a vs)(r:au K HF ds vs):nz K (Nv K a) HF ds where
 go:=λi d Qy Qn e s1 s2=>by
  let⟨v,hv,rv⟩:=r.getD e;have q:=ax s2 (ax s1 h);refine⟨⟨vs,v,q,hv⟩,λx Rx ⟨e2,hy⟩=>⟨Qn,by rw[e2];exact .refl s2,?_⟩⟩;have:=hy vs q;rw[hv] at this;cases this;exact rv.mono s1
 stop:=λQy Qn s1 s2=>⟨vs,ax s2 (ax s1 h),by rw[r.length];exact yK _⟩
def n5{K:W.Frag}{lo:Int}:nz K (MI lo n) HF ((List.range n).map λi=>PyData.int (lo+(i:Nat))) where
 go:=λi d Qy Qn e s1 s2=>by
  rw[zO] at e;let⟨j,hj,rfl⟩:=af e;let⟨hi,SR⟩:=List.getElem?_eq_some_iff.mp hj;have R6:i < n:=by simpa using hi
  have:j=i:=by rw[<- SR];simp
  subst this;exact⟨R6,λx Rx ⟨e2,hx⟩=>⟨Qn,by rw[e2];exact .refl s2,by simp[Rep,hx]⟩⟩
 stop:=λQy Qn s1 s2=>by
  show n<=_;simp
section
variable {X:Cx}{tg l e:Expr}{f:Env->Option D}{fs:Env->Option (List D)}{pos p:Pos}
def lD(h:PI X tg l t)(i:∀σ H R,t' σ H R->t σ H R):PI X tg l t':=λpins s σ H R I q=>h pins s σ H R I (i σ H R q)
def KY(hl:PE X l tl):PI X tg l (λσ H R=>tl σ H λx H1=>∃a,x=.ref a/\((∃xs,eH X.K H1 a xs/\R (Nk X.K a) H1)\/∃xs,eE X.K H1 a xs/\R (Nv X.K a) H1)):=by
 intro pins s σ H R I h;refine bC (hl pins s σ H _ I h) λv s1 ⟨x,H1,I1,r1,q1⟩=>?_;let⟨a,e,q⟩:=q1;subst e;cases r1;rcases q with ⟨xs,hq,q⟩|⟨xs,hq,q⟩
 ·let⟨its,rv,pl,hz⟩:=I1.list hq;refine qH pl.isList ⟨s1.heap.objs.size,[s1.heap.objs.size],_,_,H1,rfl,I1.kept (t':=s1.toks) λb o e=>zT _ e,p6 a _,⟨_,zW _ rfl,rfl,rfl⟩,λb hb=>?_,q⟩;cases List.mem_singleton.mp hb;exact I1.Q9 (yK _) I1.fresh
 ·let⟨its,rv,pl,hz⟩:=I1.tuple hq;refine xP (show s1.heap.IsTuple a its.toArray from pl) ⟨s1.heap.objs.size,[s1.heap.objs.size],_,_,H1,rfl,I1.kept (t':=s1.toks) λb o e=>zT _ e,oo a _,⟨_,zW _ rfl,rfl,rfl⟩,λb hb=>?_,q⟩;cases List.mem_singleton.mp hb;exact I1.Q9 (yK _) I1.fresh
def aZ(f:Env->Option D):Env->Option (List D):=λρ=>(f ρ).bind fA
def E2(h:DE X l f):DI X tg l (aZ f):=lD (KY h) λσ H R ⟨HF,ρ,ds,sm,eo,hf,q⟩=>by
 let⟨x,hx,hf⟩:=bs hf;refine⟨HF,ρ,x,sm,eo,hx,λv1 H1 Qf g1 r1=>?_⟩;rcases gD hf with rfl|rfl
 ·simp?[Rep] at r1;let⟨a,vs,rfl,hs,rr⟩:=r1;exact⟨a,rfl,.inr ⟨vs,ax g1.fh hs,q _ H1 Qf g1 (ui hs rr)⟩⟩
 ·simp?[Rep] at r1;let⟨a,vs,rfl,hs,rr⟩:=r1;exact⟨a,rfl,.inl ⟨vs,g1.fh.seq hs,q _ H1 Qf g1 (pj hs rr)⟩⟩
def m4(i:Int):Bool:=decide (-(2 ^ 62)<=i)&&decide (i < 2 ^ 62)
def k9:List D->Option (List D)
 | [.int j]=>if m4 j then some ((List.range j.toNat).map λi=>PyData.int ((i:Nat):Int)) else none
 | _=>none
def tR(h:k9 ds=some es):∃j,ds=[.int j]/\m4 j=true/\es=(List.range j.toNat).map λi=>PyData.int ((i:Nat):Int):=by
 unfold k9 at h;split at h
 ·split at h
  ·cases h;exact⟨_,rfl,‹_›,rfl⟩
  ·cases h
 ·cases h
def cZ(fs:Env->Option (List D)):Env->Option (List D):=λρ=>(fs ρ).bind k9
def C4(B:mv X "range" (.type "range"))(h:DA X [e] fs)(hs:starEach [e] X.env=[(false,eval e X.env)]:=by rfl):DI X tg (.Call (.Name "range" p) [e] [] pos) (cZ fs) :=
 lD (BE B.gl B.mg h hs) λσ H R ⟨HF,ρ,ds,sm,eo,hf,q⟩=>by
  let⟨x,hx,hf⟩:=bs hf;let⟨j,rfl,hj,rfl⟩:=tR hf;refine⟨HF,ρ,_,sm,eo,hx,λvs H1 Qf g1 r1=>?_⟩;let⟨v,r,rfl,a,b⟩:=r1.cons_inv;rw[b.nil_inv];simp?[Rep] at a;subst a;unfold m4 at hj;rw[zF] at hj;refine⟨j,rfl,yO hj.1,yO hj.2,q _ H1 Qf g1 ?_⟩;have:=n5 (K:=X.K) (HF:=Qf) (lo:=0) (n:=j.toNat);simpa using this
def Nz(K:W.Frag)(f:Env->D->Option Env):TG:=λv σ H Q=>∃HF ρ d ρ',aK HF H/\cy K HF ρ σ/\Rep K HF d v/\f ρ d=some ρ'/\∀σ',cy K HF ρ' σ'->cy K HF ρ σ'->Q σ' H
def DG(X:Cx)(tg:Expr)(f:Env->D->Option Env):Prop:=PG X tg (Nz X.K f)
def lr(h:PG X tg t)(i:∀v σ H Q,t' v σ H Q->t v σ H Q):PG X tg t':=λpins s σ H v u Q I r q=>h pins s σ H v u Q I r (i v σ H Q q)
def isFree(ρ:Env)(i:Nat):Bool:=((ρ[i]?).getD none).isNone
def iC{K:W.Frag}(eo:cy K HF ρ σ)(r:Rep K HF d v):cy K HF (ρ.set i (some d)) (σ.set i (some v)):=by
 refine⟨λj e h=>?_,by rw[yB,yB];exact eo.len,eo.tb⟩;rw[xG] at h ⊢;by_cases Qj:i=j
 ·rw[yJ Qj] at h ⊢;by_cases hl:i < ρ.length
  ·rw[yJ hl] at h;cases h;rw[yJ (zP hl eo.len)];exact⟨v,rfl,r⟩
  ·rw[yL hl] at h;cases h
 ·rw[yL Qj] at h ⊢;exact eo.get j e h
def iM{K:W.Frag}(eo:cy K HF ρ σ)(hf:isFree ρ i=true):cy K HF ρ (σ.set i (some v)):=by
 refine⟨λj e h=>?_,by rw[yB];exact eo.len,eo.tb⟩;have Qj:i≠j:=by
  intro z;subst z;unfold isFree at hf;rw[h] at hf;cases hf
 rw[xG,yL Qj];exact eo.get j e h
def fG(i:Nat):Env->D->Option Env:=λρ d=>if isFree ρ i=true then some (ρ.set i (some d)) else none
def G6(i:Nat)(hN:X.N.Nodup)(hi:X.N[i]?=some x)(hx:Loc X.env.scope x)(hf:X.fn x=true\/X.env.scope.names.lookup x=some .local:=by first|exact .inl rfl|exact .inr rfl|assumption):DG X (.Name x pos) (fG i) :=
 lr (cO hN hi hx hf) λv σ H Q ⟨HF,ρ,d,ρ',sm,eo,r,hf,q⟩=>by
  unfold fG at hf;split at hf
  ·cases hf;exact q _ (iC eo r) (iM eo ‹_›)
  ·cases hf
def k6(i j:Nat):Env->D->Option Env:=λρ d=>match d with
 | .tuple [x,y]=>if isFree ρ i=true/\isFree ρ j=true then some ((ρ.set i (some x)).set j (some y)) else none
 | _=>none
def K5(i j:Nat){px py:Pos}{k:Nat}(hc:X.calm=true)(hN:X.N.Nodup)(hi:X.N[i]?=some x)(hx:Loc X.env.scope x)(hj:X.N[j]?=some y)(hy:Loc X.env.scope y)
  (hf:X.fn x=true\/X.env.scope.names.lookup x=some .local:=by first|exact .inl rfl|exact .inr rfl|assumption) (SQ:X.fn y=true\/X.env.scope.names.lookup y=some .local:=by first|exact .inl rfl|exact .inr rfl|assumption) :
  DG X (.Tuple [.Name x px,.Name y py] k pos) (k6 i j) :=
 lr (sr hc (cL (cO hN hi hx hf) (cL (cO hN hj hy SQ) mX))) λv σ H Q ⟨HF,ρ,d,ρ',sm,eo,r,hf,q⟩=>by
  unfold k6 at hf;split at hf
  ·rename_i x' y';split at hf
   ·rename_i hh;cases hf;simp?[Rep] at r;let⟨a,vs,rfl,hs,rr⟩:=r;let⟨v1,r1,rfl,a1,b1⟩:=rr.cons_inv;let⟨v2,r2,rfl,a2,b2⟩:=b1.cons_inv;rw[b2.nil_inv] at hs;exact⟨a,_,rfl,ax sm hs,rfl,v1,_,rfl,v2,_,rfl,rfl,q _ (iC (iC eo a1) a2) (iM (iM eo hh.1) hh.2)⟩
   ·cases hf
  ·cases hf
def e8(tgt:Env->D->Option Env)(tt:Env->Option Bool)(te:Env->Option D)(ρ:Env):List D->Option (List D)
 | []=>some []
 | d::ds=>(tgt ρ d).bind λρ'=>(tt ρ').bind λb=>if b=true then (te ρ').bind λx=>(e8 tgt tt te ρ ds).map (x::·) else e8 tgt tt te ρ ds
def MH(X:Cx)(ifs:List Expr)(f:Env->Option Bool):Prop:=LQ X ifs (Jw X.K f)
def G7:MH X [] (λ_=>some true):=λpins s σ H Q I ⟨HF,ρ,b,sm,eo,hf,q⟩=>Gz pins s σ H Q I (by cases hf;exact q H HF (.refl sm))
def Hm(h:DT X c t):MH X [c] t:=Fs h
def iW(t:Nat)(cs:List Nat)(σ:L2.St):L2.St:=List.replicate t none++cs.map λj=>(σ[j]?).getD none
def iy(t:Nat)(cs:List Nat)(ρ:Env):Env:=List.replicate t none++cs.map λj=>(ρ[j]?).getD none
def GO{K:W.Frag}{cs:List Nat}(eo:cy K HF ρ σ):cy K HF (iy t cs ρ) (iW t cs σ):=by
 refine⟨λi d h=>?_,by simp[iy,iW],eo.tb⟩;unfold iy at h;unfold iW;by_cases hi:i < t
 ·rw[yQ (by simpa using hi),yV,yJ hi] at h;cases h
 ·rw[yR (by simpa using hi),zO,xJ] at h;rw[yR (by simpa using hi),zO,xJ];let⟨j,hj,h⟩:=af h;rw[hj];cases e:ρ[j]? with
  | none=>rw[e] at h;cases h
  | some o =>
   rw[e] at h;have h:o=some d:=h;subst h;let⟨v,a,b⟩:=eo.get j d e;exact⟨v,by show some ((σ[j]?).getD none)=_;rw[a];rfl,b⟩
def ay(t:Nat)(cs:List Nat)(fi:Env->Option (List D))(tgt:Env->D->Option Env)(tt:Env->Option Bool)(te:Env->Option D):Env->Option (List D):=λρ=>(fi ρ).bind λds=>(e8 tgt tt te (iy t cs ρ) ds).bind small
variable {elt iter:Expr}{ifs:List Expr}{scope:Scope}{N:List Str}{t:Nat}{cs:List Nat}{fi:Env->Option (List D)}{tgt:Env->D->Option Env}{tt:Env->Option Bool}{te:Env->Option D}
def Ey:∀σ H Q,tF X.K (ay t cs fi tgt tt te) σ H Q->E6 (Pc X.K fi) (Nz X.K tgt) (Jw X.K tt) (tD X.K te) (iW t cs) σ H Q:=λσ H Q ⟨HF,ρ,out,sm,eo,hf,q⟩=>by
 let⟨ds,hx,hf⟩:=bs hf;let⟨YR,ho,hf⟩:=bs hf;let⟨rfl,hz⟩:=dB hf;refine⟨HF,ρ,ds,sm,eo,hx,λJ H1 Qf g1 it Dn hD=>?_⟩;have YS:=GO (t:=t) (cs:=cs) (eo.mono g1.ff);have YT:Qf Dn=none:=g1.fh.free hD;refine⟨λi m σ' H'=>m+i=ds.length/\∃Qd xs ys rest,bQ Qf H1 Qd H'/\Qd Dn=none/\H' Dn=some (.lst ys)/\au X.K Qd xs ys/\cy X.K Qd (iy t cs ρ) σ'/\e8 tgt tt te (iy t cs ρ) (ds.drop i)=some rest/\xs++rest=out,
  ⟨ds.length,rfl,Qf,[],[],out,.own g1.fh hD,YT,aF,au.nil,YS,ho,rfl⟩,?_⟩
 rintro i m σ' H' ⟨hm,Qd,xs,ys,rest,G,UZ,VI,rr,YU,hc,Sx⟩;by_cases hi:i < ds.length
 ·refine .inr ?_;have hd:ds.drop i=ds[i]::ds.drop (i+1):=kN hi;have he:ds[i]?=some ds[i]:=List.getElem?_eq_some_iff.mpr ⟨hi,rfl⟩;generalize ds[i]=d at hd he;rw[hd] at hc;unfold e8 at hc;let⟨ρ',h1,hc⟩:=bs hc;let⟨b,h2,hc⟩:=bs hc;let⟨go,SK⟩:=it.go i d H' Qd he G.ff G.fh;refine⟨go,λx H2 y=>?_⟩;let⟨Qp,G2,rx⟩:=SK x H2 y;refine⟨Qp,_,d,ρ',G2.fh,YU.mono G2.ff,rx,h1,λRq XD U0=>?_⟩;refine⟨Qp,ρ',b,G2.fh,XD,h2,λH3 QC G3=>?_⟩;have XF:∀RZ H4,bQ Qd H' RZ H4->RZ Dn=none:=λRZ H4 G4=>by
   cases e4:RZ Dn with
   | none=>rfl
   | some o =>
    rcases G4.nw Dn o e4 with z|z
    ·rw[UZ] at z;cases z
    ·rw[VI] at z;cases z
  cases b with
  | false =>
   refine oQ ⟨m - 1,by lia,by lia,QC,xs,ys,rest,(G.trans G2).trans G3,XF _ _ (G2.trans G3),(G2.trans G3).hh _ _ VI,rr.mono (G2.trans G3).ff,U0.mono G3.ff,by simpa using hc,Sx⟩
  | true =>
   rw[yJ rfl] at hc;let⟨z,h3,hc⟩:=bs hc;let⟨TB,h4,rfl⟩:=af hc;refine mI ⟨QC,ρ',z,G3.fh,XD.mono G3.ff,h3,λv H4 RZ G4 rv=>?_⟩;have GG:=(G2.trans G3).trans G4;have n4:=XF _ _ GG;have YV:=GG.hh _ _ VI;have hlen:ys.length < sizeLine:=by
    have e1:=rr.length;have e2:out.length=xs.length+(TB.length+1):=by rw[<- Sx];simp
    lia
   refine⟨ys,YV,hlen,m - 1,by lia,by lia,RZ,xs++[z],ys++[v],TB,?_,n4,aF,(rr.mono GG.ff).append (au.cons rv au.nil),U0.mono (G3.ff.trans G4.ff),h4,by simp[<- Sx]⟩;have G5:=G.trans GG;refine⟨λb o e=>?_,G5.ff,λb o e=>?_,G5.nw⟩
   ·rw[aE (aJ e hD)];exact G5.hh b o e
   ·rw[aE (aJ e n4)];exact G5.fh b o e
 ·have R6:i=ds.length:=by lia
  subst R6;rw[List.drop_length] at hc;cases hc;rw[qD] at Sx;subst Sx;exact .inl ⟨it.stop H' Qd G.ff G.fh,q Dn ys H' Qd (g1.trans G) (g1.hh.free hD) UZ VI rr⟩
def HC(hc:X.calm=true)(S:ly X scope N (iW t cs))(hi:DI X tg iter fi)
  (hY:∀fp s H,DG (aM X scope N fp s H) tg tgt/\MH (aM X scope N fp s H) ifs tt/\DE (aM X scope N fp s H) elt te)
  (hs:∀x,foldedSetIterable iter X.env x=pure x:=by intro _;rfl):DF X (.ListComp elt [⟨tg,iter,ifs,0⟩] scope pos) (ay t cs fi tgt tt te):=aD (GI (g:=Nz X.K tgt) (tt:=Jw X.K tt) (te:=tD X.K te) hc S hi hY hs) Ey
end
inductive Slot where
 | Qb|val (d:D)|own (ds:List D)|Qk (ks:List (Str×List Int))
abbrev aq:=List Slot
def Slot.all:Slot->Option D|.Qb=>none|.val d=>some d|.own ds=>some (.list ds)|.Qk ks=>some (dD ks)
def Slot.QK:Slot->Option D|.val d=>some d|_=>none
def Slot.U1:Slot->Slot|.own ds=>.val (.list ds)|.Qk ks=>.val (dD ks)|s=>s
def aG(ρ:aq):Env:=ρ.map Slot.all
def aY(ρ:aq):Env:=ρ.map Slot.QK
def hand(fz:List Nat):Nat->aq->aq
 | _,[]=>[]
 | k,s::r=>(if fz.contains k=true then s.U1 else s)::hand fz (k+1) r
def hU(fz:List Nat):∀ (ρ:aq) (k i:Nat),(hand fz k ρ)[i]?=(ρ[i]?).map λs=>if fz.contains (k+i)=true then s.U1 else s
 | [],k,i=>by simp[hand]
 | s::r,k,0=>by simp[hand]
 | s::r,k,i+1=>by
  simp?[hand,yW];rw[hU fz r (k+1) i,Nat.add_assoc,Nat.add_comm 1 i]
def uL(fz:List Nat):∀ (ρ:aq) (k:Nat),(hand fz k ρ).length=ρ.length
 | [],k=>rfl
 | s::r,k=>by simp[hand,uL fz r (k+1)]
structure d0(K:W.Frag)(Qa Qc HF H:Hp)(ρ:aq)(σ:L2.St):Prop where
 gr:bQ Qa Qc HF H
 val:∀ (i:Nat) (d:D),ρ[i]?=some (.val d)->∃v,σ[i]?=some (some v)/\Rep K HF d v
 own:∀ (i:Nat) (ds:List D),ρ[i]?=some (.own ds)->∃a vs,σ[i]?=some (some (.ref a))/\H a=some (.lst vs)/\HF a=none/\Qc a=none/\au K HF ds vs
 inj:∀ (i j:Nat) (ds es:List D) (a:Addr),ρ[i]?=some (.own ds)->ρ[j]?=some (.own es)->σ[i]?=some (some (.ref a))->σ[j]?=some (some (.ref a))->i=j
 len:ρ.length<=σ.length
 tb:dv K HF
 Qk:∀ (i:Nat) (ks:List (Str×List Int)),ρ[i]?=some (.Qk ks)->∃a QF,σ[i]?=some (some (.ref a))/\H a=some (.dK QF)/\HF a=none/\Qc a=none/\eJ K HF ks QF
 one:∀ (i j:Nat) (ks ls:List (Str×List Int)),ρ[i]?=some (.Qk ks)->ρ[j]?=some (.Qk ls)->i=j
section
variable {K:W.Frag}
def d0.all(S:d0 K Qa Qc HF H ρ σ):cy K H (aG ρ) σ:=by
 refine⟨λi d h=>?_,by simpa [aG] using S.len,S.tb.mono S.gr.fh⟩;unfold aG at h;rw[zO] at h;let⟨s,hs,h⟩:=af h;cases s with
 | Qb=>cases h
 | val e=>cases h;let⟨v,a,b⟩:=S.val i _ hs;exact⟨v,a,b.mono S.gr.fh⟩
 | own ds =>
  cases h;let⟨a,vs,e1,e2,e3,_,e4⟩:=S.own i ds hs;exact⟨.ref a,e1,by simp?[Rep];exact⟨a,vs,rfl,eH.of e2,e4.mono S.gr.fh⟩⟩
 | Qk ks =>
  cases h;let⟨a,us,e1,e2,e3,_,e4⟩:=S.Qk i ks hs;exact⟨.ref a,e1,by simp?[Rep];exact⟨a,ks,us,rfl,rfl,e2,e4.mono S.gr.fh⟩⟩
def d0.QK(S:d0 K Qa Qc HF H ρ σ):cy K HF (aY ρ) σ:=by
 refine⟨λi d h=>?_,by simpa [aY] using S.len,S.tb⟩;unfold aY at h;rw[zO] at h;let⟨s,hs,h⟩:=af h;cases s with
 | Qb=>cases h
 | val e=>cases h;exact S.val i _ hs
 | own ds=>cases h
 | Qk ks=>cases h
def bQ.QG(g:bQ HF H Qd H')(e3:HF a=none)(e2:H a=some u):Qd a=none:=by
 cases e:Qd a with
 | none=>rfl
 | some o =>
  rcases g.nw a o e with z|z
  ·rw[e3] at z;cases z
  ·rw[e2] at z;cases z
def d0.grow(S:d0 K Qa Qc HF H ρ σ)(g:bQ HF H Qd H'):d0 K Qa Qc Qd H' ρ σ where
 gr:=S.gr.trans g
 val:=λi d h=>let ⟨v,a,b⟩:=S.val i d h;⟨v,a,b.mono g.ff⟩
 own:=λi ds h=>by
  let⟨a,vs,e1,e2,e3,e5,e4⟩:=S.own i ds h;exact⟨a,vs,e1,g.hh _ _ e2,g.QG e3 e2,e5,e4.mono g.ff⟩
 inj:=S.inj
 len:=S.len
 tb:=S.tb.mono g.ff
 Qk:=λi ks h=>by
  let⟨a,QF,e1,e2,e3,e5,e4⟩:=S.Qk i ks h;exact⟨a,QF,e1,g.hh _ _ e2,g.QG e3 e2,e5,e4.mono g.ff⟩
 one:=S.one
def d0.step(S:d0 K Qa Qc HF H ρ σ)(g:aK H H'):d0 K Qa Qc HF H' ρ σ:=S.grow ⟨g,.refl _,S.gr.fh.trans g,λ_ _ e=>.inl e⟩
def pI:Slot->Bool|.own _=>true|.Qk _=>true|_=>false
def d0.free{i:Nat}{t:Slot}{a:Addr}(S:d0 K Qa Qc HF H ρ σ)(h:ρ[i]?=some t)(ho:pI t=true)(ha:σ[i]?=some (some (V.ref a))):HF a=none/\Qc a=none:=by
 cases t with
 | own ds =>
  let⟨a',vs,e1,e2,e3,e5,_⟩:=S.own i ds h;rw[ha] at e1;cases e1;exact⟨e3,e5⟩
 | Qk ks =>
  let⟨a',vs,e1,e2,e3,e5,_⟩:=S.Qk i ks h;rw[ha] at e1;cases e1;exact⟨e3,e5⟩
 | _=>cases ho
def d0.apart{i j:Nat}{t t':Slot}{a:Addr}(S:d0 K Qa Qc HF H ρ σ)(h:ρ[i]?=some t)(ho:pI t=true)(h':ρ[j]?=some t')(QV:pI t'=true)(ha:σ[i]?=some (some (V.ref a)))(hb:σ[j]?=some (some (V.ref a))):i=j:=by
 cases t with
 | own ds =>
  cases t' with
  | own es=>exact S.inj i j ds es a h h' ha hb
  | Qk ls =>
   let⟨_,_,e1,e2,_⟩:=S.own i ds h;let⟨_,_,f1,f2,_⟩:=S.Qk j ls h';rw[ha] at e1;rw[hb] at f1;cases e1;cases f1;rw[e2] at f2;cases f2
  | _=>cases QV
 | Qk ks =>
  cases t' with
  | own es =>
   let⟨_,_,e1,e2,_⟩:=S.Qk i ks h;let⟨_,_,f1,f2,_⟩:=S.own j es h';rw[ha] at e1;rw[hb] at f1;cases e1;cases f1;rw[e2] at f2;cases f2
  | Qk ls=>exact S.one i j ks ls h h'
  | _=>cases QV
 | _=>cases ho
def fS{ρ:aq}{fz:List Nat}{i:Nat}{t:Slot}(h:(Dl.hand fz 0 ρ)[i]?=some t)(ho:pI t=true):ρ[i]?=some t/\¬ fz.contains i=true:=by
 rw[hU] at h;let⟨s,hs,h⟩:=af h;rw[qZ] at h;split at h
 ·cases s<;>(rw[<- h] at ho;cases ho)
 ·rename_i hc;rw[<- h];exact⟨hs,hc⟩
def d0.hand(S:d0 K Qa Qc HF H ρ σ)(fz:List Nat):∃Qf,aK HF Qf/\d0 K Qa Qc Qf H (hand fz 0 ρ) σ:=by
 let C:Nat->Prop:=λi=>fz.contains i=true;let P:Addr->Prop:=λa=>∃i t,C i/\ρ[i]?=some t/\pI t=true/\σ[i]?=some (some (.ref a));have cl:=Classical.propDecidable;let Qf:Hp:=λa=>if P a then H a else HF a
 have hP:∀a,P a->HF a=none/\Qc a=none:=λa ⟨i,t,_,h1,h2,h3⟩=>S.free h1 h2 h3;have s1:aK HF Qf:=λb o e=>by
  show (if P b then H b else HF b)=some o;by_cases h:P b
  ·rw[(hP b h).1] at e;cases e
  ·rw[yL h];exact e
 have s2:aK Qf H:=λb o e=>by
  have e:(if P b then H b else HF b)=some o:=e;by_cases h:P b
  ·rw[yJ h] at e;exact e
  ·rw[yL h] at e;exact S.gr.fh b o e
 have kept:∀ {i:Nat}{t:Slot}{a:Addr},ρ[i]?=some t->pI t=true->¬ C i->σ[i]?=some (some (.ref a))->Qf a=none:=λ{i t a} h1 h2 hc h3=>by
  show (if P a then H a else HF a)=none;rw[yL ?_]
  ·exact (S.free h1 h2 h3).1
  ·rintro⟨j,t',hj,g1,g2,g3⟩;have:=S.apart h1 h2 g1 g2 h3 g3;subst this;exact hc hj
 refine⟨Qf,s1,⟨S.gr.hh,S.gr.ff.trans s1,s2,λb o e=>?_⟩,λi d h=>?_,λi ds h=>?_,λi j ds es a h1 h2=>S.inj i j ds es a (fS h1 rfl).1 (fS h2 rfl).1,by rw[uL];exact S.len,S.tb.mono s1,λi ks h=>?_,λi j ks ls h1 h2=>S.one i j ks ls (fS h1 rfl).1 (fS h2 rfl).1⟩
 ·have e:(if P b then H b else HF b)=some o:=e;by_cases h:P b
  ·exact .inr (hP b h).2
  ·rw[yL h] at e;exact S.gr.nw b o e
 ·rw[hU] at h;let⟨s,hs,h⟩:=af h;rw[qZ] at h;cases s with
  | Qb=>split at h<;>cases h
  | val e =>
   have:Slot.val e=Slot.val d:=by split at h<;>exact h
   cases this;let⟨v,a,b⟩:=S.val i _ hs;exact⟨v,a,b.mono s1⟩
  | own ds =>
   split at h
   ·rename_i hc;cases h;let⟨a,vs,e1,e2,e3,e5,e4⟩:=S.own i ds hs;refine⟨.ref a,e1,?_⟩;simp?[Rep];refine⟨a,vs,rfl,.inl (.inl ?_),e4.mono s1⟩;show (if P a then H a else HF a)=_;rw[yJ ⟨i,_,hc,hs,rfl,e1⟩];exact e2
   ·cases h
  | Qk ks =>
   split at h
   ·rename_i hc;cases h;let⟨a,us,e1,e2,e3,e5,e4⟩:=S.Qk i ks hs;refine⟨.ref a,e1,?_⟩;simp?[Rep];refine⟨a,ks,us,rfl,rfl,?_,e4.mono s1⟩;show (if P a then H a else HF a)=_;rw[yJ ⟨i,_,hc,hs,rfl,e1⟩];exact e2
   ·cases h
 ·let⟨hs,hc⟩:=fS h rfl;let⟨a,vs,e1,e2,e3,e5,e4⟩:=S.own i ds hs;exact⟨a,vs,e1,e2,kept hs rfl hc e1,e5,e4.mono s1⟩
 ·let⟨hs,hc⟩:=fS h rfl;let⟨a,vs,e1,e2,e3,e5,e4⟩:=S.Qk i ks hs;exact⟨a,vs,e1,e2,kept hs rfl hc e1,e5,e4.mono s1⟩
def d0.Rn(S:d0 K Qa Qc HF H ρ σ)(r:Rep K HF d v):d0 K Qa Qc HF H (ρ.set i (.val d)) (σ.set i (some v)):=by
 have ne:∀ {j:Nat}{s:Slot},(ρ.set i (.val d))[j]?=some s->(∀e,s≠.val e)->i≠j/\ρ[j]?=some s:=λ{j s} h hn=>by
  rw[xG] at h;by_cases Qj:i=j
  ·rw[yJ Qj] at h;split at h
   ·cases h;exact absurd rfl (hn _)
   ·cases h
  ·rw[yL Qj] at h;exact⟨Qj,h⟩
 refine⟨S.gr,λj e h=>?_,λj ds h=>?_,λj k ds es a h1 h2 h3 h4=>?_,by rw[yB,yB];exact S.len,S.tb,λj ks h=>?_,λj k ks ls h1 h2=>S.one j k ks ls (ne h1 λe z=>by cases z).2 (ne h2 λe z=>by cases z).2⟩
 ·rw[xG] at h ⊢;by_cases Qj:i=j
  ·rw[yJ Qj] at h ⊢;split at h
   ·rename_i hl;cases h;rw[yJ (zP hl S.len)];exact⟨v,rfl,r⟩
   ·cases h
  ·rw[yL Qj] at h ⊢;exact S.val j e h
 ·let⟨Qj,h⟩:=ne h λe z=>by cases z
  rw[xG,yL Qj];exact S.own j ds h
 ·let⟨n1,h1⟩:=ne h1 λe z=>by cases z
  let⟨n2,h2⟩:=ne h2 λe z=>by cases z
  rw[xG,yL n1] at h3;rw[xG,yL n2] at h4;exact S.inj j k ds es a h1 h2 h3 h4
 ·let⟨Qj,h⟩:=ne h λe z=>by cases z
  rw[xG,yL Qj];exact S.Qk j ks h
def d0.Wr(S:d0 K Qa Qc HF H ρ σ)(hs:aK H H')(h1:H' a=some (.lst vs))(h2:HF a=none)(h3:Qc a=none)(r:au K HF ds vs)
  (fr:∀j es,i≠j->ρ[j]?=some (.own es)->σ[j]?≠some (some (.ref a))):d0 K Qa Qc HF H' (ρ.set i (.own ds)) (σ.set i (some (.ref a))):=by
 have S:=S.step hs;have nt:∀ {j:Nat}{ks:List (Str×List Int)},(ρ.set i (.own ds))[j]?=some (.Qk ks)->i≠j/\ρ[j]?=some (.Qk ks):=λ{j ks} h=>by
  rw[xG] at h;by_cases Qj:i=j
  ·rw[yJ Qj] at h;split at h<;>cases h
  ·rw[yL Qj] at h;exact⟨Qj,h⟩
 refine⟨S.gr,λj e h=>?_,λj es h=>?_,λj k xs ys b e1 e2 e3 e4=>?_,by rw[yB,yB];exact S.len,S.tb,λj ks h=>by rw[xG,yL (nt h).1];exact S.Qk j ks (nt h).2,λj k ks ls h1 h2=>S.one j k ks ls (nt h1).2 (nt h2).2⟩
 ·rw[xG] at h ⊢;by_cases Qj:i=j
  ·rw[yJ Qj] at h;split at h<;>cases h
  ·rw[yL Qj] at h ⊢;exact S.val j e h
 ·rw[xG] at h ⊢;by_cases Qj:i=j
  ·rw[yJ Qj] at h ⊢;split at h
   ·rename_i hl;cases h;rw[yJ (zP hl S.len)];exact⟨a,vs,rfl,h1,h2,h3,r⟩
   ·cases h
  ·rw[yL Qj] at h ⊢;exact S.own j es h
 ·rw[xG] at e1 e2 e3 e4;by_cases Qj:i=j
  ·by_cases UB:i=k
   ·exact Qj.symm.trans UB
   ·rw[yJ Qj] at e1 e3;rw[yL UB] at e2 e4;split at e3
    ·cases e3;exact absurd e4 (fr k ys UB e2)
    ·cases e3
  ·by_cases UB:i=k
   ·rw[yL Qj] at e1 e3;rw[yJ UB] at e2 e4;split at e4
    ·cases e4;exact absurd e3 (fr j xs Qj e1)
    ·cases e4
   ·rw[yL Qj] at e1 e3;rw[yL UB] at e2 e4;exact S.inj j k xs ys b e1 e2 e3 e4
end
inductive Out where
 | nx (ρ:aq)|rt (d:D)
def Ab(K:W.Frag)(Qa Qc HF:Hp)(E:Ends):Out->Prop
 | .nx ρ'=>∀σ' H' Qd,d0 K Qa Qc Qd H' ρ' σ'->aK HF Qd->E.nx σ' H'
 | .rt d=>∀v H' Qd,bQ Qa Qc Qd H'->Rep K Qd d v->E.rt v H'
def tS(K:W.Frag)(Qa Qc:Hp)(g:aq->Option Out):TS:=λE σ H=>∃HF ρ o,d0 K Qa Qc HF H ρ σ/\g ρ=some o/\Ab K Qa Qc HF E o
def DS(X:Cx)(Qa Qc:Hp)(st:Stmt)(g:aq->Option Out):Prop:=PS X st (tS X.K Qa Qc g)
def u5(X:Cx)(Qa Qc:Hp)(st:List Stmt)(g:aq->Option Out):Prop:=ou X st (tS X.K Qa Qc g)
section
variable {X:Cx}{Qa Qc:Hp}{st:Stmt}{rest:List Stmt}{g g1 g2:aq->Option Out}{e:Expr}{pos:Pos}
def bM(h:PS X st t)(i:∀E σ H,t' E σ H->t E σ H):PS X st t':=λpins s σ H E I q=>h pins s σ H E I (i E σ H q)
def sv(h:ou X rest t)(i:∀E σ H,t' E σ H->t E σ H):ou X rest t':=λpins s σ H E I q=>h pins s σ H E I (i E σ H q)
def eM:aq->Option Out:=λρ=>some (.nx ρ)
def av(g1 g2:aq->Option Out):aq->Option Out:=λρ=>(g1 ρ).bind fun|.nx ρ'=>g2 ρ'|.rt d=>some (.rt d)
def Ab.mono{K:W.Frag}(s:aK HF Qd)(h:Ab K Qa Qc HF E o):Ab K Qa Qc Qd E o:=by
 cases o with
 | nx ρ'=>exactλσ' H' Qp S s2=>h σ' H' Qp S (s.trans s2)
 | rt d=>exact h
def F8:u5 X Qa Qc [] eM:=sv mQ λE σ H ⟨HF,ρ,o,S,hg,q⟩=>by cases hg;exact q σ H HF S (.refl _)
def uF(h1:DS X Qa Qc st g1)(h2:u5 X Qa Qc rest g2):u5 X Qa Qc (st::rest) (av g1 g2):=sv (gV h1 h2) λE σ H ⟨HF,ρ,o,S,hg,q⟩=>by
 let⟨o1,h,hg⟩:=bs hg;refine⟨HF,ρ,o1,S,h,?_⟩;cases o1 with
 | nx ρ'=>exactλσ' H' Qd S' s=>⟨Qd,ρ',o,S',hg,q.mono s⟩
 | rt d=>cases hg;exact q
def GA(h1:DS X Qa Qc st g1):u5 X Qa Qc [st] g1:=FR h1
def Gj:DS X Qa Qc (.Pass pos) eM:=bM FZ λE σ H ⟨HF,ρ,o,S,hg,q⟩=>by cases hg;exact q σ H HF S (.refl _)
def Jm{x j pos pos'}:DS X Qa Qc (.Expr (.Constant (.str x) j pos) pos') eM:=bM Le λE σ H ⟨HF,ρ,o,S,hg,q⟩=>by cases hg;exact q σ H HF S (.refl _)
def fu(t:Env->Option Bool)(g1 g2:aq->Option Out):aq->Option Out:=λρ=>(t (aG ρ)).bind λb=>if b=true then g1 ρ else g2 ρ
def MM(hc:DT X c t)(ha:u5 X Qa Qc a g1)(hb:u5 X Qa Qc b g2):DS X Qa Qc (.If c a b pos) (fu t g1 g2):=bM (ER hc ha hb) λE σ H ⟨HF,ρ,o,S,hg,q⟩=>by
 let⟨b,h,hg⟩:=bs hg;refine⟨H,aG ρ,b,.refl _,S.all,h,λH' Qd G=>?_⟩;cases b with
 | true=>exact mI ⟨HF,ρ,o,S.step G.hh,hg,q⟩
 | false=>exact oQ ⟨HF,ρ,o,S.step G.hh,hg,q⟩
def ua:∀ (ρ:aq) (k n:Nat),k+ρ.length<=n->aY (hand (List.range n) k ρ)=aG ρ
 | [],k,n,h=>rfl
 | s::r,k,n,h=>by
  have hk:(List.range n).contains k=true:=by simp at h ⊢;lia
  have ih:=ua r (k+1) n (by simp at h;lia);unfold aY aG at ih ⊢;rw[hand,yJ hk,zI,zI,ih];cases s<;>rfl
def aO(f:Env->Option D):aq->Option Out:=λρ=>(f (aG ρ)).map Out.rt
def K3(h:DE X e f):DS X Qa Qc (.Return (some e) pos) (aO f):=bM (vh h) λE σ H ⟨HF,ρ,o,S,hg,q⟩=>by
 let⟨d,h,rfl⟩:=af hg;let⟨Qf,s1,S1⟩:=S.hand (List.range ρ.length);refine⟨Qf,aG ρ,d,S1.gr.fh,?_,h,λv H' Qd G r=>q v H' Qd (S1.gr.trans G) r⟩;have:=S1.QK;rw[ua ρ 0 ρ.length (by lia)] at this;exact this
def lM:D->Bool|.none=>true|.bool _=>true|.int _=>true|.str _=>true|_=>false
def tJ{K:W.Frag}(h:lM d=true)(r:Rep K HF d v):Rep K Qd d v:=by
 cases d<;>cases h<;>(simp?[Rep] at r ⊢;exact r)
mutual
def fU:D->Bool
 | .tuple ds=>i7 ds
 | .list _=>false
 | .dict _=>false
 | _=>true
def i7:List D->Bool
 | []=>true
 | d::ds=>fU d&&i7 ds
end
mutual
theorem tf{K:W.Frag}{H1 H2:Hp}(ht:∀a xs,eE K H1 a xs->eE K H2 a xs):∀ {d:D}{v:V},fU d=true->Rep K H1 d v->Rep K H2 d v
 | .none,_,_,r=>by simp?[Rep] at r ⊢;exact r
 | .bool _,_,_,r=>by simp?[Rep] at r ⊢;exact r
 | .int _,_,_,r=>by simp?[Rep] at r ⊢;exact r
 | .str _,_,_,r=>by simp?[Rep] at r ⊢;exact r
 | .tuple ds,v,h,r=>by
  simp?[fU] at h;simp?[Rep] at r ⊢;let⟨a,vs,e,q,rr⟩:=r;exact⟨a,vs,e,ht _ _ q,p9 ht h rr⟩
 | .list _,_,h,_=>by simp[fU] at h
 | .dict _,_,h,_=>by simp[fU] at h
theorem p9{K:W.Frag}{H1 H2:Hp}(ht:∀a xs,eE K H1 a xs->eE K H2 a xs):∀ {ds:List D}{vs:List V},i7 ds=true->au K H1 ds vs->au K H2 ds vs
 | [],_,_,r=>by simp?[au] at r ⊢;exact r
 | d::ds,vs,h,r=>by
  simp?[i7,zF] at h;simp?[au] at r ⊢;let⟨v,r',e,a,b⟩:=r;exact⟨v,r',e,tf ht h.1 a,p9 ht h.2 b⟩
end
def d0.back{K:W.Frag}(S:d0 K Qa Qc HF H ρ σ)(S1:d0 K Qa Qc Qf H ρ1 σ)(s1:aK HF Qf)(G:bQ Qf H Qd H'):∃Qp,aK HF Qp/\d0 K Qa Qc Qp H' ρ σ/\(∀d v,fU d=true->Rep K Qd d v->Rep K Qp d v)/\∀b o,Qp b=some o->Qd b=some o:=by
 have cl:=Classical.propDecidable;let O:Addr->Prop:=λa=>(∃ (i:Nat) (ds:List D),ρ[i]?=some (Slot.own ds)/\σ[i]?=some (some (V.ref a)))\/∃ (i:Nat) (ks:List (Str×List Int)),ρ[i]?=some (Slot.Qk ks)/\σ[i]?=some (some (V.ref a));let Qp:Hp:=λa=>if O a then none else Qd a
 have hO:∀a,O a->HF a=none/\((∃vs,H a=some (.lst vs))\/∃QF,H a=some (.dK QF)):=λa z=>by
  rcases z with ⟨i,ds,h1,h2⟩|⟨i,ks,h1,h2⟩
  ·let⟨a',vs,e1,e2,e3,_,_⟩:=S.own i ds h1;rw[h2] at e1;cases e1;exact⟨e3,.inl ⟨vs,e2⟩⟩
  ·let⟨a',QF,e1,e2,e3,_,_⟩:=S.Qk i ks h1;rw[h2] at e1;cases e1;exact⟨e3,.inr ⟨QF,e2⟩⟩
 have h2:∀a,¬ O a->Qp a=Qd a:=λa n=>yL n;have h3:∀a,O a->Qp a=none:=λa n=>yJ n;have sa:aK HF Qp:=λb o e=>by
  have nb:¬ O b:=λz=>by rw[(hO b z).1] at e;cases e
  rw[h2 b nb];exact G.ff b o (s1 b o e)
 have sb:∀b o,Qp b=some o->Qd b=some o:=λb o e=>by
  by_cases z:O b
  ·rw[h3 b z] at e;cases e
  ·rwa [h2 b z] at e
 have g2:=S1.gr.trans G;refine⟨Qp,sa,⟨⟨g2.hh,S.gr.ff.trans sa,λb o e=>G.fh b o (sb b o e),λb o e=>g2.nw b o (sb b o e)⟩,λi d h=>?_,λi ds h=>?_,S.inj,S.len,S.tb.mono sa,λi ks h=>?_,S.one⟩,λd v hn r=>tf (λa xs q=>?_) hn r,sb⟩
 ·let⟨v,e1,r⟩:=S.val i d h;exact⟨v,e1,r.mono sa⟩
 ·let⟨a,vs,e1,e2,e3,e5,e4⟩:=S.own i ds h;exact⟨a,vs,e1,G.hh _ _ e2,h3 a (.inl ⟨i,ds,h,e1⟩),e5,e4.mono sa⟩
 ·let⟨a,QF,e1,e2,e3,e5,e4⟩:=S.Qk i ks h;exact⟨a,QF,e1,G.hh _ _ e2,h3 a (.inr ⟨i,ks,h,e1⟩),e5,e4.mono sa⟩
 ·have nt:∀o,Qd a=some o->(∀vs,o≠.lst vs)->(∀QF,o≠.dK QF)->Qp a=some o:=λo e QT Ro=>by
   by_cases z:O a
   ·rcases (hO a z).2 with ⟨vs,e2⟩|⟨vs,e2⟩
    ·have:=G.hh _ _ e2;rw[G.fh a o e] at this;cases this;exact absurd rfl (QT vs)
    ·have:=G.hh _ _ e2;rw[G.fh a o e] at this;cases this;exact absurd rfl (Ro vs)
   ·rw[h2 a z];exact e
  rcases q with (q|⟨o,q⟩)|q
  ·exact .inl (.inl (nt _ q (λvs z=>by cases z) λvs z=>by cases z))
  ·exact .inl (.inr ⟨o,nt _ q (λvs z=>by cases z) λvs z=>by cases z⟩)
  ·exact .inr q
def aH(i:Nat)(fz:List Nat)(f:Env->Option D):aq->Option Out:=λρ=>(f (aG ρ)).bind λd=>if lM d=true then some (.nx (ρ.set i (.val d))) else (f (aY (hand fz 0 ρ))).map λd'=>.nx ((if fU d'=true then ρ else hand fz 0 ρ).set i (.val d'))
def LX:∀E σ H,tS X.K Qa Qc (aH i fz f) E σ H->Cr (tD X.K f) (tw i) E σ H:=λE σ H ⟨HF,ρ,o,S,hg,q⟩=>by
 let⟨d,h,hg⟩:=bs hg;split at hg
 ·rename_i hs;cases hg;exact⟨H,aG ρ,d,.refl _,S.all,h,λv H' Qd G r=>q _ H' HF ((S.step G.hh).Rn (tJ hs r)) (.refl _)⟩
 ·let⟨d',h',rfl⟩:=af hg;let⟨Qf,s1,S1⟩:=S.hand fz;refine⟨Qf,_,d',S1.gr.fh,S1.QK,h',λv H' Qd G r=>?_⟩;by_cases hn:fU d'=true
  ·rw[yJ hn] at q;let⟨Qp,s2,S2,hb,_⟩:=S.back S1 s1 G;exact q _ H' Qp (S2.Rn (hb d' v hn r)) s2
  ·rw[yL hn] at q;exact q _ H' Qd ((S1.grow G).Rn r) (s1.trans G.ff)
def JB(i:Nat)(fz:List Nat)(hN:X.N.Nodup)(hi:X.N[i]?=some x)(hx:Loc X.env.scope x)(he:DE X e f)(hs:swapsWith e (some (.Name x pos')) pos.line X.env=pure false:=by rfl)
  (hf:X.fn x=true\/X.env.scope.names.lookup x=some .local:=by first|exact .inl rfl|exact .inr rfl|assumption):DS X Qa Qc (.Assign [.Name x pos'] e pos) (aH i fz f):=bM (oD hN hi hx he hs hf) LX
def aS(i:Nat)(fz:List Nat)(f:Env->Option (List D)):aq->Option Out:=λρ=>(f (aY (hand fz 0 ρ))).map λds=>.nx ((hand fz 0 ρ).set i (.own ds))
def EK:∀E σ H,tS X.K Qa Qc (aS i fz f) E σ H->Cr (tF X.K f) (tw i) E σ H:=λE σ H ⟨HF,ρ,o,S,hg,q⟩=>by
 let⟨ds,h,rfl⟩:=af hg;let⟨Qf,s1,S1⟩:=S.hand fz;refine⟨Qf,_,ds,S1.gr.fh,S1.QK,h,λa vs H' Qd G ha hf h' r=>q _ H' Qd ?_ (s1.trans G.ff)⟩;have S2:=S1.grow G;refine S2.Wr (.refl _) h' hf (S1.gr.hh.free ha) r λj es _ hj z=>?_;let⟨b,us,e1,e2,_⟩:=S1.own j es hj;rw[e1] at z;cases z;rw[ha] at e2;cases e2
def sH(i:Nat)(fz:List Nat)(hN:X.N.Nodup)(hi:X.N[i]?=some x)(hx:Loc X.env.scope x)(he:DF X e f)(hs:swapsWith e (some (.Name x pos')) pos.line X.env=pure false:=by rfl)
  (hf:X.fn x=true\/X.env.scope.names.lookup x=some .local:=by first|exact .inl rfl|exact .inr rfl|assumption):DS X Qa Qc (.Assign [.Name x pos'] e pos) (aS i fz f):=bM (oD hN hi hx he hs hf) EK
def Fq(i:Nat)(fz:List Nat){cs:List Nat}
  (hc:X.calm=true) (S:ly X scope N (iW t cs)) (hi:DI X tg iter fi)
  (hY:∀fp s H,DG (aM X scope N fp s H) tg tgt/\MH (aM X scope N fp s H) ifs tt/\DE (aM X scope N fp s H) elt te)
  (hN:X.N.Nodup) (Wo:X.N[i]?=some y) (hy:X.env.scope.names.lookup y=some .local)
  (Wq:swapsWith (.ListComp elt [⟨tg,iter,ifs,0⟩] scope pos) (some (.Name y py)) Qx.line X.env=pure true)
  (hs:∀x,foldedSetIterable iter X.env x=pure x:=by intro _;rfl):DS X Qa Qc (.Assign [.Name y py] (.ListComp elt [⟨tg,iter,ifs,0⟩] scope pos) Qx) (aS i fz (ay t cs fi tgt tt te)) :=
 bM (F5 (g:=Nz X.K tgt) (tt:=Jw X.K tt) (te:=tD X.K te) hc S hi hY hN Wo hy Wq hs) λE σ H q=>by
  have:=EK E σ H q;exact Ey σ H _ this
def Pv(K:W.Frag)(Qa Qc:Hp)(f:aq->D->Option aq):TG:=λv σ H Q=>∃HF ρ d ρ',d0 K Qa Qc HF H ρ σ/\Rep K HF d v/\f ρ d=some ρ'/\∀σ',d0 K Qa Qc HF H ρ' σ'->Q σ' H
def LP(X:Cx)(Qa Qc:Hp)(tg:Expr)(f:aq->D->Option aq):Prop:=PG X tg (Pv X.K Qa Qc f)
def gn(i:Nat):aq->D->Option aq:=λρ d=>some (ρ.set i (.val d))
def B0(i:Nat)(hN:X.N.Nodup)(hi:X.N[i]?=some x)(hx:Loc X.env.scope x)(hf:X.fn x=true\/X.env.scope.names.lookup x=some .local:=by first|exact .inl rfl|exact .inr rfl|assumption):LP X Qa Qc (.Name x pos) (gn i) :=
 lr (cO hN hi hx hf) λv σ H Q ⟨HF,ρ,d,ρ',S,r,hf,q⟩=>by cases hf;exact q _ (S.Rn r)
def iQ(i j:Nat):aq->D->Option aq:=λρ d=>match d with
 | .tuple [x,y]=>some ((ρ.set i (.val x)).set j (.val y))
 | _=>none
def Hf(i j:Nat){px py:Pos}{k:Nat}(hc:X.calm=true)(hN:X.N.Nodup)(hi:X.N[i]?=some x)(hx:Loc X.env.scope x)(hj:X.N[j]?=some y)(hy:Loc X.env.scope y)
  (hf:X.fn x=true\/X.env.scope.names.lookup x=some .local:=by first|exact .inl rfl|exact .inr rfl|assumption) (SQ:X.fn y=true\/X.env.scope.names.lookup y=some .local:=by first|exact .inl rfl|exact .inr rfl|assumption) :
  LP X Qa Qc (.Tuple [.Name x px,.Name y py] k pos) (iQ i j) :=
 lr (sr hc (cL (cO hN hi hx hf) (cL (cO hN hj hy SQ) mX))) λv σ H Q ⟨HF,ρ,d,ρ',S,r,hf,q⟩=>by
  unfold iQ at hf;split at hf
  ·cases hf;simp?[Rep] at r;let⟨a,vs,rfl,hs,rr⟩:=r;let⟨v1,r1,rfl,a1,b1⟩:=rr.cons_inv;let⟨v2,r2,rfl,a2,b2⟩:=b1.cons_inv;rw[b2.nil_inv] at hs;exact⟨a,_,rfl,ax S.gr.fh hs,rfl,v1,_,rfl,v2,_,rfl,rfl,q _ ((S.Rn a1).Rn a2)⟩
  ·cases hf
def cC(tgt:aq->D->Option aq)(gb:aq->Option Out):List D->aq->Option Out
 | [],ρ=>some (.nx ρ)
 | d::ds,ρ=>(tgt ρ d).bind λρ1=>(gb ρ1).bind fun|.nx QU=>cC tgt gb ds QU|.rt v=>some (.rt v)
def dh(fz:List Nat)(fi:Env->Option (List D))(tgt:aq->D->Option aq)(gb:aq->Option Out):aq->Option Out:=λρ=>(fi (aY (hand fz 0 ρ))).bind λds=>cC tgt gb ds (hand fz 0 ρ)
def J7(fz:List Nat)(hp:PassesOwn (model X.prog X.w) X.A X.env X.xe)(hc:X.calm=true)(hi:DI X tg iter fi)(hg:LP X Qa Qc tg tgt)(hb:u5 X Qa Qc body gb)
  (hs:∀x,foldedSetIterable iter X.env x=pure x:=by intro _;rfl):DS X Qa Qc (.For tg iter body [] pos) (dh fz fi tgt gb):=bM (Ks hp hc hi hg hb hs) λE σ H ⟨HF,ρ,o,S,hg,q⟩=>by
 let⟨ds,h,hg⟩:=bs hg;let⟨Qf,s1,S1⟩:=S.hand fz;refine⟨Qf,_,ds,S1.gr.fh,S1.QK,h,λJ H2 Qp G it=>?_⟩;refine⟨λi m σ' H'=>m+i=ds.length/\∃Qd ρ',d0 X.K Qa Qc Qd H' ρ' σ'/\aK Qp Qd/\cC tgt gb (ds.drop i) ρ'=some o,⟨ds.length,rfl,Qp,_,S1.grow G,.refl _,hg⟩,?_⟩;rintro i m σ' H' ⟨hm,Qd,ρ',S',s',hf⟩;by_cases hi:i < ds.length
 ·refine .inr ?_;have hd:ds.drop i=ds[i]::ds.drop (i+1):=kN hi;have he:ds[i]?=some ds[i]:=List.getElem?_eq_some_iff.mpr ⟨hi,rfl⟩;generalize ds[i]=d at hd he;rw[hd] at hf;unfold cC at hf;let⟨ρ1,h1,hf⟩:=bs hf;let⟨o1,h2,hf⟩:=bs hf;let⟨go,SK⟩:=it.go i d H' Qd he s' S'.gr.fh;refine⟨go,λRq H3=>∃QC Rr,d0 X.K Qa Qc QC H3 Rr Rq/\aK Qp QC/\cC tgt gb (ds.drop (i+1)) Rr=some o,λRq H3 ⟨QC,Rr,a1,a2,a3⟩=>⟨m - 1,by lia,by lia,QC,Rr,a1,a2,a3⟩,λx H3 y=>?_⟩;let⟨QC,G3,rx⟩:=SK x H3 y;refine⟨QC,ρ',d,ρ1,S'.grow G3,rx,h1,λRq S2=>⟨QC,ρ1,o1,S2,h2,?_⟩⟩;cases o1 with
  | nx QU=>exactλXG H4 RZ S4 s4=>⟨RZ,QU,S4,(s'.trans G3.ff).trans s4,hf⟩
  | rt d=>cases hf;exact q
 ·have R6:i=ds.length:=by lia
  subst R6;rw[List.drop_length] at hf;cases hf;exact .inl ⟨it.stop H' Qd s' S'.gr.fh,q σ' H' Qd S' ((s1.trans G.ff).trans s')⟩
end
def DM(X:Cx)(sc:Scope):Prop:=∀x k,sc.names.lookup x=some k->X.env.kindOf x=some k\/(k=.free/\X.env.kindOf x=some .cell)
structure Bk(X:Cx)(N:List Str)(sc:Scope)(k:Nat):Prop where
 n:X.N=N
 nd:N.Nodup
 tb:DM X sc
 calm:X.calm=true
 fn:∀x,sc.names.lookup x=some .cell->X.fn x=true
 room:gF k X.A
 xe:X.xe=λ_ _=>False
 kd:X.env.scope.kind=.function
def cK:List Str:=["len","isinstance","int","bool","tuple","list","range","all","any","set","sorted","enumerate","zip","sum","min","max","reversed","abs","dict","str","type","iter","next"]
def Bn(X:Cx):Prop:=∀x∈cK,X.mg x=none
def sR(sc:Scope)(x:Str):Bool:=decide (sc.names.lookup x=some .globalImplicit)
def u0(N:List Str)(sc:Scope)(i:Nat)(x:Str):Bool:=decide (N[i]?=some x)&&(decide (sc.names.lookup x=some .local)||decide (sc.names.lookup x=some .cell)||decide (sc.names.lookup x=some .free))&&!(x == ("__debug__":Str))&&!(x == ("__classdict__":Str))
def my(N:List Str)(sc:Scope)(i:Nat)(x:Str):Bool:=decide (N[i]?=some x)&&(decide (sc.names.lookup x=some .local)||decide (sc.names.lookup x=some .cell))
def Bk.gl(C:Bk X N sc k)(h:sR sc x=true):Gl X x:=by
 rcases C.tb x _ (yO h) with q|⟨q,_⟩
 ·exact q
 ·cases q
def Bk.VJ(C:Bk X N sc k)(h:u0 N sc i x=true):X.N[i]?=some x/\FC X.env.scope x/\(x == ("__debug__":Str))=false/\(x == ("__classdict__":Str))=false:=by
 unfold u0 at h;simp?[zF,qX,zJ,yN] at h;let⟨⟨⟨h1,h2⟩,h3⟩,h4⟩:=h;refine⟨by rw[C.n];exact h1,?_,h3,h4⟩;rcases h2 with (h2|h2)|h2
 ·rcases C.tb x _ h2 with q|⟨q,_⟩
  ·exact .inl q
  ·cases q
 ·rcases C.tb x _ h2 with q|⟨q,_⟩
  ·exact .inr (.inl q)
  ·cases q
 ·rcases C.tb x _ h2 with q|⟨_,q⟩
  ·exact .inr (.inr q)
  ·exact .inr (.inl q)
def Bk.loc(C:Bk X N sc k)(h:my N sc i x=true):X.N.Nodup/\X.N[i]?=some x/\Loc X.env.scope x/\(X.fn x=true\/X.env.scope.names.lookup x=some .local):=by
 unfold my at h;simp?[zF,qX,zJ] at h;let⟨h1,h2⟩:=h;refine⟨by rw[C.n];exact C.nd,by rw[C.n];exact h1,?_⟩;rcases h2 with h2|h2
 ·rcases C.tb x _ h2 with q|⟨q,_⟩
  ·exact⟨.inl q,.inr q⟩
  ·cases q
 ·rcases C.tb x _ h2 with q|⟨q,_⟩
  ·exact⟨.inr q,.inl (C.fn x h2)⟩
  ·cases q
def Bk.blt(C:Bk X N sc k)(B:Bn X)(h:sR sc x=true)(hm:x∈cK)(hv:bootBuiltins x=some v):mv X x v:=⟨C.gl h,B x hm,hv⟩
def Bk.v(C:Bk X N sc k)(i:Nat)(h:u0 N sc i x=true):DE X (.Name x pos) (aa i):=let ⟨a,b,c,d⟩:=C.VJ h;LC i a b c d
def Bk.pass(C:Bk X N sc k):PassesOwn (model X.prog X.w) X.A X.env X.xe:=by rw[C.xe];exact PassesOwn.never
def wG(sc scope:Scope)(N N':List Str)(t:Nat)(cs:List Nat):Bool :=
 decide (scope.kind=.function)&&scope.names.all (λp=>(!decide (p.2=NameKind.free)||decide (sc.names.lookup p.1=some .cell)||decide (sc.names.lookup p.1=some .free))&&(!decide (p.2=NameKind.local)||decide (scope.names.lookup p.1=some .local)))
  &&scope.names.all (λp=>!decide (p.2=NameKind.cell)||!scope.names.any λq=>decide (q.1=p.1)&&decide (q.2=NameKind.free))
  &&decide (N'.length=t+cs.length)&&decide (N'.drop t=cs.filterMap λj=>N[j]?)&&cs.all (λj=>decide (j < N.length))&&(N'.drop t).all (λx=>decide (scope.names.lookup x=some .free))&&decide N'.Nodup
def filterMap_get(N:List α):∀ (cs:List Nat),(∀j∈cs,j < N.length)->∀ (i:Nat),(cs.filterMap λj=>N[j]?)[i]?=(cs[i]?).bind λj=>N[j]?
 | [],_,i=>by simp
 | c::cs,h,i=>by
  have hc:=h c zE;rw[jC,zK hc];cases i with
  | zero=>simp[hc]
  | succ i =>
   simp?[yW];exact filterMap_get N cs (λj hj=>h j (zC _ hj)) i
def Bk.comp(C:Bk X N sc k){cs:List Nat}(h:wG sc scope N N' t cs=true):ly X scope N' (iW t cs)/\∀fp s H,Bk (aM X scope N' fp s H) N' scope k:=by
 unfold wG at h;simp?[zF,zJ,xE,qX,yN,yZ] at h;obtain⟨⟨⟨⟨⟨⟨⟨h1,h2⟩,h3⟩,h4⟩,h5⟩,h6⟩,h7⟩,h8⟩:=h;refine⟨⟨h1,λx hx hk=>?_,λ{x} a b=>?_,λx hx hk=>?_,λσ i x v e1 e2=>?_,λσ=>?_⟩,λfp s H=>⟨rfl,h8,λx k hx=>lE hx,C.calm,λx hx=>zZ hx,C.room,rfl,h1⟩⟩
 ·rcases (h2 x hx).1 with (q|q)|q
  ·exact absurd hk q
  ·rcases C.tb _ _ q with z|⟨z,_⟩
   ·exact .inl z
   ·cases z
  ·rcases C.tb _ _ q with z|⟨_,z⟩
   ·exact .inr z
   ·exact .inl z
 ·rcases h3 _ a with q|q
  ·exact q rfl
  ·have:(scope.names.any λq=>decide (q.1=x)&&decide (q.2=NameKind.free))=true:=List.any_eq_true.mpr ⟨_,b,by simp⟩;rw[this] at q;cases q
 ·rcases (h2 x hx).2 with q|q
  ·exact absurd hk q
  ·exact q
 ·unfold iW at e2;by_cases hi:i < t
  ·rw[yQ (by simpa using hi),yV,yJ hi] at e2;cases e2
  ·rw[yR (by simpa using hi),zO,xJ] at e2;let⟨j,hj,e2⟩:=af e2;have e3:(N'.drop t)[i - t]?=some x:=by rw[List.getElem?_drop];rw[show t+(i - t)=i by lia];exact e1
   refine⟨h7 x (xZ e3),j,?_,?_⟩
   ·rw[h5,filterMap_get N cs h6,hj] at e3;rw[C.n];exact e3
   ·cases e:σ[j]? with
    | none=>rw[e] at e2;cases e2
    | some o=>rw[e] at e2;have e2:o=some v:=e2;rw[e2]
 ·unfold iW;rw[zN,xJ,zD,h4]
def bo(g:aq->Option Out)(n:Nat)(args:List D):Option D:=(g (args.map Slot.val++List.replicate (n - args.length) .Qb)).map fun|.rt d=>d|.nx _=>.none
def qw{ds:List D}{n i:Nat}{ks:List (Str×List Int)}:¬ (ds.map Slot.val++List.replicate n .Qb)[i]?=some (.Qk ks):=λh=>by
 rcases List.mem_append.mp (xZ h) with z|z
 ·let⟨d,_,e⟩:=List.mem_map.mp z;cases e
 ·cases List.eq_of_mem_replicate z
def Ie{K:W.Frag}{st:Stmt}(F:Fg K x qual st f fd)(S:cD N ps (ah st))
  (body:∀X:Cx,X.prog=P->X.w=w->X.K=K->X.mg=mg->X.base=base->Bk X N (ah st) k->X.env.code=fd.code->X.env.qual=qual++".<locals>."->∀Qa Qc,u5 X Qa Qc (bh st) g):mF P w K mg base Io (k+1) f fd ps (Nb K ps.length (bo g N.length)):=by
 let⟨oc,od,kV,doc,pm,an,QI,ct,Sn,rfl,lk,QW⟩:=F.ex;refine BY lk QW S (λvs H Q E ⟨HF,ds,d,h1,_,h2,h3,_⟩=>by rw[h2.length,h3]) λA outer s H vs Q E hr ⟨HF,ds,d,sm,tb,rr,hl,hd,q⟩=>?_;refine⟨_,(body (rX Io P w K mg base N qual (ah st) f QI A outer s H E).Qu rfl rfl rfl rfl rfl ⟨rfl,S.nd,λy kd hy=>.inl hy,rfl,λ_ _=>rfl,hr,rfl,S.kind⟩ rfl rfl HF H).Qu,?_⟩;unfold bo at hd;let⟨o,ho,hd⟩:=af hd;have QZ:ps.length<=N.length:=by have:=qY List.length S.pre;rw[jS] at this;lia
 refine⟨HF,_,o,⟨.refl sm,λi e h=>?_,λi es h=>?_,λi j es fs a h=>?_,?_,tb,λi ks h=>absurd h qw,λi j ks ls h=>absurd h qw⟩,ho,?_⟩
 ·have hi:i < ds.length:=by
   by_cases hi:i < ds.length
   ·exact hi
   ·rw[yR (by simpa using hi),yV] at h;split at h<;>cases h
  rw[yQ (by simpa using hi),zO] at h;let⟨d',Sf,h⟩:=af h;cases h;let⟨v,hv,rv⟩:=rr.getD Sf;refine⟨v,?_,rv⟩;unfold L2.start;rw[yQ (by simpa [rr.length] using hi),zO,hv];rfl
 ·exfalso;by_cases hi:i < ds.length
  ·rw[yQ (by simpa using hi),zO] at h;let⟨d',Sf,h⟩:=af h;cases h
  ·rw[yR (by simpa using hi),yV] at h;split at h<;>cases h
 ·exfalso;by_cases hi:i < ds.length
  ·rw[yQ (by simpa using hi),zO] at h;let⟨d',Sf,h⟩:=af h;cases h
  ·rw[yR (by simpa using hi),yV] at h;split at h<;>cases h
 ·unfold L2.start;rw[zN,zN,zD,zD,xJ,xJ,rr.length];exact yK _
 ·cases o with
  | rt d'=>cases hd;exactλv H' Qd G r=>q v H' Qd G r
  | nx ρ'=>cases hd;exactλσ' H' Qd S' _=>q .Qb H' Qd S'.gr (by simp[Rep])
def PP{K:W.Frag}{st:Stmt}(F:Fg K x qual st f fd)(S:cD N ps (ah st))(hb:Binds K fd ps [])(hm:mg x=some (.ref f))
  (body:∀X:Cx,X.prog=P->X.w=w->X.K=K->X.mg=mg->X.base=base->Bk X N (ah st) k->X.env.code=fd.code->X.env.qual=qual++".<locals>."->∀Qa Qc,u5 X Qa Qc (bh st) g):EY P w K mg base (k+1) x ps.length (bo g N.length):=⟨f,fd,ps,Ie F S body,hm,F.kp,hb⟩
def j1(fz:List Nat)(f:Env->Option D)(ρ:aq):Option (D×aq):=(f (aG ρ)).bind λd=>if lM d=true then some (d,ρ) else (f (aY (hand fz 0 ρ))).map λd'=>(d',hand fz 0 ρ)
def lQ{K:W.Frag}(S:d0 K Qa Qc HF H ρ σ)(h:j1 fz f ρ=some (d,ρ'))
  (q:∀v H' Qd,aK HF Qd->d0 K Qa Qc Qd H' ρ' σ->aK H H'->Rep K Qd d v->Q v H'):tD K f σ H Q:=by
 let⟨d1,h1,h⟩:=bs h;split at h
 ·rename_i hs;cases h;exact⟨H,aG ρ,d,.refl _,S.all,h1,λv H' Qd G r=>q v H' HF (.refl _) (S.step G.hh) G.hh (tJ hs r)⟩
 ·let⟨d2,h2,h⟩:=af h;cases h;let⟨Qf,s1,S1⟩:=S.hand fz;exact⟨Qf,_,d,S1.gr.fh,S1.QK,h2,λv H' Qd G r=>q v H' Qd (s1.trans G.ff) (S1.grow G) G.hh r⟩
def pb(i:Nat)(m:List D->Option (List D))(ρ:aq):Option Out:=match ρ[i]? with
 | some (.own ds)=>(m ds).map λes=>.nx (ρ.set i (.own es))
 | _=>none
def iF(h:pb i m ρ=some o):∃ds es,ρ[i]?=some (.own ds)/\m ds=some es/\o=.nx (ρ.set i (.own es)):=by
 unfold pb at h;split at h
 ·rename_i ds hd;let⟨es,h1,h2⟩:=af h;exact⟨ds,es,hd,h1,h2.symm⟩
 ·cases h
def d0.mut{K:W.Frag}(S:d0 K Qa Qc HF H ρ σ)(h:ρ[i]?=some (.own ds))(ha:σ[i]?=some (some (.ref a)))(hH:H a=some (.lst vs))(r:au K HF es us) :
  d0 K Qa Qc HF (upd H a (.lst us)) (ρ.set i (.own es)) σ:=by
 let⟨a',TC,e1,e2,e3,e5,e4⟩:=S.own i ds h;rw[ha] at e1;cases e1;have hl:i < ρ.length:=(List.getElem?_eq_some_iff.mp h).1;have gr:bQ Qa Qc HF (upd H a (.lst us)):=⟨λb o e=>by rw[aE (aJ e e5)];exact S.gr.hh b o e,S.gr.ff,λb o e=>by rw[aE (aJ e e3)];exact S.gr.fh b o e,S.gr.nw⟩
 have nt:∀ {j:Nat}{ks:List (Str×List Int)},(ρ.set i (.own es))[j]?=some (.Qk ks)->ρ[j]?=some (.Qk ks):=λ{j ks} h=>by
  rw[xG] at h;by_cases Qj:i=j
  ·rw[yJ Qj] at h;split at h<;>cases h
  ·rw[yL Qj] at h;exact h
 refine⟨gr,λj d hj=>?_,λj xs hj=>?_,λj k xs ys b f1 f2 f3 f4=>?_,by rw[yB];exact S.len,S.tb,λj ks hj=>?_,λj k ks ls h1 h2=>S.one j k ks ls (nt h1) (nt h2)⟩
 ·rw[xG] at hj;by_cases Qj:i=j
  ·rw[yJ Qj] at hj;split at hj<;>cases hj
  ·rw[yL Qj] at hj;exact S.val j d hj
 ·rw[xG] at hj;by_cases Qj:i=j
  ·subst Qj;rw[yJ rfl,yJ hl] at hj;cases hj;exact⟨a,us,ha,aF,e3,e5,r⟩
  ·rw[yL Qj] at hj;let⟨b,ws,f1,f2,f3,f5,f4⟩:=S.own j xs hj;refine⟨b,ws,f1,?_,f3,f5,f4⟩;rw[aE]
   ·exact f2
   ·rintro rfl;exact Qj (S.inj i j ds xs b h hj ha f1)
 ·have old:∀ {j:Nat}{xs:List D},(ρ.set i (.own es))[j]?=some (.own xs)->∃ys,ρ[j]?=some (.own ys):=λ{j xs} hj=>by
   rw[xG] at hj;by_cases Qj:i=j
   ·subst Qj;exact⟨ds,h⟩
   ·rw[yL Qj] at hj;exact⟨xs,hj⟩
  let⟨YW,g1⟩:=old f1;let⟨YX,g2⟩:=old f2;exact S.inj j k YW YX b g1 g2 f3 f4
 ·let⟨b,QF,g1,g2,g3,g5,g4⟩:=S.Qk j ks (nt hj);refine⟨b,QF,g1,?_,g3,g5,g4⟩;rw[aE λz=>by rw[z,e2] at g2;cases g2];exact g2
def i4(i:Nat)(fz:List Nat)(f:Env->Option D):aq->Option Out:=λρ=>(j1 fz f ρ).bind λp=>pb i (λds=>if ds.length < sizeLine then some (ds++[p.1]) else none) p.2
def A7(i:Nat)(fz:List Nat)(hN:X.N[i]?=some x)(hv:FC X.env.scope x)(h:DE X e f)(hd:(x == ("__debug__":Str))=false:=by decide)(QW:(x == ("__classdict__":Str))=false:=by decide)
  (QB:((backTo Qe (starEach [e] X.env)).all (λx=>!x.1)&&(backToKw Qe (keywordEach [] X.env)).all (λx=>x.1.isSome)&&decide ([e].length+([]:List Keyword).length+(if ([]:List Keyword).isEmpty then 0 else 1) < 30))=true:=by rfl)
  (Qm:(apos.endLine == Qe.line)=true:=by rfl) (hs:starEach [e] X.env=(false,eval e X.env)::starEach [] X.env:=by rfl) :
  DS X Qa Qc (.Expr (.Call (.Attribute (.Name x px) "append" apos) [e] [] Qe) pos) (i4 i fz f) :=
 bM (kg (mn qL PySem.F.slot_list_append PySem.F.type_list_append p7 (ja hN hv hd QW) (bS h dc hs) rfl QB Qm hs rfl)) λE σ H ⟨HF,ρ,o,S,hg,q⟩=>by
  let⟨⟨d,ρ'⟩,h1,hg⟩:=bs hg;let⟨ds,es,h2,h3,rfl⟩:=iF hg;have RM:∃Ub,ρ[i]?=some (.own Ub):=by
   let⟨d1,_,h1⟩:=bs h1;split at h1
   ·cases h1;exact⟨ds,h2⟩
   ·let⟨d2,_,h1⟩:=af h1;cases h1;rw[hU] at h2;let⟨s,hs,h2⟩:=af h2;cases s with
    | Qb=>split at h2<;>cases h2
    | Qk _=>split at h2<;>cases h2
    | val _=>split at h2<;>cases h2
    | own xs=>exact⟨xs,hs⟩
  let⟨Ub,RM⟩:=RM;let⟨a,vs,e1,e2,e3,e5,e4⟩:=S.own i Ub RM;refine⟨.ref a,e1,.inl ⟨rfl,vs,eH.of e2⟩,lQ S h1 λv H' Qd s1 S' sh r=>?_⟩;let⟨a',TC,f1,f2,f3,f5,f4⟩:=S'.own i ds h2;rw[e1] at f1;cases f1;split at h3
  ·rename_i hz;cases h3;exact⟨a,TC,v,rfl,rfl,f2,by rw[f4.length];exact hz,q σ _ Qd (S'.mut h2 e1 f2 (f4.append (au.cons r au.nil))) s1⟩
  ·cases h3
def rq(K:W.Frag)(o:Obj):Option (Addr×Str):=match o.data with
 | .func fd=>if nO.contains fd.qualname=true then (match fd.code with
   | .ref c=>(match K.lookup c with
    | some ⟨_,_,.fields vs,_⟩=>(match (vs[11]?:Option Value) with
     | some (.ref P)=>if W.codeHdIn K c P=true then some (P,fd.qualname++".<locals>."++"<lambda>") else none
     | _=>none)
    | _=>none)
   | _=>none) else none
 | _=>none
def fM(K:W.Frag):List (Addr×Str):=K.filterMap λp=>rq K p.2
def kn(K:W.Frag)(ts:List Addr):Bool:=(fM K).all λp=>ts.contains p.1&&(K.lookup p.1).isNone&&decide ((fM K).lookup p.1=some p.2)
def t8{K:W.Frag}(h:rq K o=some (P,q)):∃c,W.codeHdIn K c P=true:=by
 unfold rq at h;split at h
 ·split at h
  ·split at h
   ·split at h
    ·split at h
     ·split at h
      ·cases h;exact⟨_,‹_›⟩
      ·cases h
     ·cases h
    ·cases h
   ·cases h
  ·cases h
 ·cases h
def tK{K:W.Frag}(h:(P,q)∈fM K):∃c,W.codeHdIn K c P=true:=by
 let⟨p,_,e⟩:=List.mem_filterMap.mp h;exact t8 e
def wQ{K:W.Frag}(a:K.lookup f=some ⟨oc,od,.func fd,sl⟩)(b:fd.qualname∈nO)(d:fd.code=.ref c)(e:W.codeHdIn K c P=true) :
  (P,fd.qualname++".<locals>."++"<lambda>")∈fM K:=by
 refine List.mem_filterMap.mpr ⟨(f,_),W.mem_of_lookupK a,?_⟩;have e':=e;unfold W.codeHdIn at e';unfold rq;simp?[d,List.contains_iff_mem,b,xF];split at e'
 ·rename_i vs Xq hl;simp?[hl];simp?[zF] at e';have e1:=e'.1.1.1.1.1;split at e1
  ·rename_i P' hv;have:P'=P:=by simpa using e1
   subst this;simp?[hv,e,xF]
  ·cases e1
 ·cases e'
def BN:∀ {l:List (Addr×α)},l.lookup b=some q->(b,q)∈l
 | [],e=>by cases e
 | (c,x)::r,e=>by
  rw[yA] at e;cases h:b == c with
  | true=>rw[h] at e;cases e;rw[eq_of_beq h];exact zE
  | false=>rw[h] at e;exact zC _ (BN e)
def fq(K:W.Frag)(h0:Hp):Hp:=λb=>match (fM K).lookup b with|some q=>some (.tab q)|none=>h0 b
def Av{K:W.Frag}(h:kn K ts=true):dv K (fq K h0):=λf oc od fd sl c P a b d e=>by
 have hm:=wQ a b d e;have:=List.all_eq_true.mp h _ hm;simp?[zF,zJ] at this;unfold fq;rw[this.2]
def Ar{w:World}{K:W.Frag}{CX:Fw}{k:Nat}{fa:Addr}{fd:FuncData}{sp:Sp}{vs:List Value}{ns:List Int}
  (KX:K.In Qg.heap) (Sj:Qg.heap.Ns mainGlobals mg) (hb:Qg.heap.Ns builtinsNs mb) (YY:∀x:Str,x≠"__name__"->mb x=bootBuiltins x) (Wt:Qg.heap.NoLimit) (Wu:Ol mg Qg.heap) (hg:Qg.gens=#[])
  (ht:kn K ts=true) (Wv:∀P∈ts,Qg.heap.get? P=some (W.tabObj #[]))
  (ha:Qg.heap.get? a=some { cls:=.type "list",data:=.seq vs.toArray }) (hi:IntsAre vs ns) (hl:ns.length<=sizeLine) (hr:gF k callerA)
  (F:∀base:Heap,K.In base->base.Ns mainGlobals mg->mF P w K mg base CX k fa fd [x] sp) (U2:∀ (s:Shared) (u:Value),BindsTo s fd ⟨[u],[]⟩ [(x,u)])
  (Uy:∀H:Hp,dv K H->eH K H a (ns.map V.int)->sp [.ref a] H (λv _=>v=.bl true) λ_ _ _=>False)
  (Ww:∀H e s',CX [] H Qg (λ_ _ _=>False) e s'->False) :
  codeAny (model P w) callerA (.call (.ref fa) ⟨[.ref a],[]⟩) (λr s'=>r=.ok (.ret (.bool true))/\OldK Qg.heap s'.heap/\s'.os=Qg.os/\AllBare s'.gens) Qg:=by
 have rv:=pw hi;have Wx:=hi.length;have tabAt:∀b q,(fM K).lookup b=some q->Qg.heap.get? b=some (W.tabObj #[])/\K.lookup b=none/\∃c,W.CodeHd Qg.heap c b:=λb q e=>by
  have hm:=BN e;have:=List.all_eq_true.mp ht _ hm;simp?[zF,zJ,List.contains_iff_mem,Option.isNone_iff_eq_none] at this;let⟨c,hc⟩:=tK hm;exact⟨Wv b this.1.1,this.1.2,c,W.codeHd_of_K KX hc⟩
 have aT:(fM K).lookup a=none:=by
  cases e:(fM K).lookup a with
  | none=>rfl
  | some q=>have:=(tabAt a q e).1;rw[ha] at this;cases this
 have core:∀h0:Hp,eH K (fq K h0) a (ns.map V.int)->ku P w (fq K h0) Qg.heap->(∀b,h0 b≠none->b=a)->(h0 a≠none->K.lookup a=none)->(∀b,h0 b=none\/∃o xs,h0 b=some (.QK o (.lst xs))) ->
   codeAny (model P w) callerA (.call (.ref fa) ⟨[.ref a],[]⟩) (λr s'=>r=.ok (.ret (.bool true))/\OldK Qg.heap s'.heap/\s'.os=Qg.os/\AllBare s'.gens) Qg:=by
  intro h0 hS Qh hA hK hO;have look:∀b u,fq K h0 b=some u->(∃q,(fM K).lookup b=some q/\u=.tab q)\/(b=a/\h0 b=some u):=λb u e=>by
   unfold fq at e;split at e
   ·rename_i q hq;cases e;exact .inl ⟨q,hq,rfl⟩
   ·exact .inr ⟨hA b (by rw[e];simp),e⟩
  have fE:∀ {b:Addr}{o:Obj},Qg.heap.get? b=some o->fq K h0 b=none->(rY Qg.heap (fq K h0)).get? b=some o:=λe n=>Dq e n;have Ux:∀ {b:Addr}{o:Obj},Qg.heap.get? b=some o->(∀vs n,o.data≠.seq vs n)->(∀vs,o.data≠.fields vs)->fq K h0 b=none:=λ{b o} e d d2=>by
   cases q:fq K h0 b with
   | none=>rfl
   | some u =>
    rcases look b u q with ⟨q',z,_⟩|⟨z,_⟩
    ·rw[(tabAt b q' z).1] at e;cases e;exact absurd rfl (d2 _)
    ·subst z;rw[ha] at e;cases e;exact absurd rfl (d _ _)
  have VL:∀ {b:Addr}{m:Str->Option Value},Qg.heap.Ns b m->(rY Qg.heap (fq K h0)).Ns b m:=λ{b m} ⟨o,es,ep,e,d,r⟩=>⟨o,es,ep,fE e (Ux e (λ_ _ z=>by rw[d] at z;cases z) λ_ z=>by rw[d] at z;cases z),d,r⟩
  have XH:K.In (rY Qg.heap (fq K h0)):=λb o e=>fE (KX b o e) (by
   cases q:fq K h0 b with
   | none=>rfl
   | some u =>
    rcases look b u q with ⟨q',z,_⟩|⟨z,z2⟩
    ·rw[(tabAt b q' z).2.1] at e;cases e
    ·subst z;rw[hK (by rw[z2];simp)] at e;cases e)
  have hM:Mod K mg (rY Qg.heap (fq K h0)):=⟨XH,VL Sj,⟨mb,VL hb,YY⟩,let ⟨mc,h1,h2⟩:=Wt;⟨mc,VL h1,h2⟩,
   let ⟨bm,o,b1,b2,b3,b4,b5,b6,b7⟩:=Wu;⟨bm,o,b1,b2,b3,fE b4 (Ux b4 (λ_ _ z=>by rw[b7] at z;cases z) λ_ z=>by rw[b7] at z;cases z),b5,b6,b7⟩⟩
  have e0:Gu P w K mg (rY Qg.heap (fq K h0)) callerA [] Qg (fq K h0):=⟨rfl,hM,λb o e=>HX e,Nat.le_of_eq (Am _ _),trivial,λb hb=>absurd (show b∈([]:List Addr) from hb) (by simp),Qh,.of_eq hg⟩
  refine jO ((F _ XH (VL Sj)).run callerA [] Qg (fq K h0) ⟨[.ref a],[]⟩ [.ref a] [.ref a] _ _ hr e0 (U2 Qg (.ref a)) (.cons rfl .nil) (Uy _ (Av ht) hS)) λr s' h=>?_;cases r with
  | error e=>exact (Ww _ e s' h).elim
  | ok fl =>
   cases fl with
   | next=>exact False.elim h
   | brk=>exact False.elim h
   | cont=>exact False.elim h
   | ret u =>
    let⟨v,H',os,bare,un,Wz,r',q⟩:=h;have q':v=.bl true:=q;subst q';obtain rfl:u=Value.bool true:=r';have key:∀b o,Qg.heap.get? b=some o->s'.heap.get? b=some o\/(isCodeTable Qg.heap b/\o=W.tabObj #[]/\∃ps,s'.heap.get? b=some (W.tabObj ps)):=λb o e=>by
     cases q:fq K h0 b with
     | none=>exact .inl (un.keep b o e q (by intro z;exact absurd (show b∈([]:List Addr) from z) (by simp)) (by simp))
     | some u =>
      rcases look b u q with ⟨q',z,rfl⟩|⟨z,z2⟩
      ·let⟨t1,_,c,t3⟩:=tabAt b q' z;let⟨more,m1⟩:=un.QQ.gr b q' #[] q t1;rw[e] at t1;cases t1;exact .inr ⟨(t3.tab e).isCodeTable,rfl,_,m1⟩
      ·rcases hO b with z3|⟨ob,xs,z3⟩
       ·rw[z2] at z3;cases z3
       ·rw[z2] at z3;cases z3;have z4:=un.QP b ob _ q;let⟨e1,_⟩:=Qh b _ q;let⟨e2,_⟩:=Wz b _ z4;rw[e] at e1;cases e1;exact .inl e2
    refine⟨rfl,⟨λb o e=>?_,λb o e=>?_⟩,os,bare⟩
    ·rcases key b o e with z|⟨t,rfl,ps,z⟩
     ·exact .inl z
     ·exact .inr (.inl ⟨t,rfl,#[],ps,rfl,by rw[Array.empty_append];exact z⟩)
    ·rcases key b o e with z|⟨_,_,ps,z⟩
     ·exact⟨o,z⟩
     ·exact⟨_,z⟩
 have XI:∀ (h0:Hp) b q,(fM K).lookup b=some q->cU P w (fq K h0) Qg.heap b (.tab q):=λh0 b q e=>⟨#[],(tabAt b q e).1,trivial,λpos v z=>by cases z⟩
 cases hk:K.lookup a with
 | some o =>
  have e:=KX a o hk;rw[ha] at e;cases e;refine core (λ_=>none) (.inr ⟨_,vs.toArray,_,hk,rfl,rfl,rfl,by rw[zH,Wx];exact hl,by simpa using rv⟩) (λb u z=>?_) (λb z=>absurd rfl z) (λz=>absurd rfl z) λ_=>.inl rfl;unfold fq at z;split at z
  ·rename_i q hq;cases z;exact XI _ b q hq
  ·cases z
 | none =>
  refine core (λb=>if b=a then some (.QK { cls:=.type "list",data:=.seq vs.toArray } (.lst (ns.map V.int))) else none) (.inl (.inr ⟨{ cls:=.type "list",data:=.seq vs.toArray },?_⟩)) (λb u z=>?_) (λb z=>?_) (λ_=>hk) λb=>?_
  ·unfold fq;rw[aT];exact yJ rfl
  ·unfold fq at z;split at z
   ·rename_i q hq;cases z;exact XI _ b q hq
   ·by_cases hb:b=a
    ·replace z:=(yJ hb).symm.trans z;cases z;subst hb;exact⟨ha,by rw[zD];exact hl,vs,_,rv,ha⟩
    ·replace z:=(yL hb).symm.trans z;cases z
  ·by_cases hb:b=a
   ·exact hb
   ·exact absurd (yL hb) z
  ·by_cases hb:b=a
   ·exact .inr ⟨_,_,yJ hb⟩
   ·exact .inl (yL hb)
def D8{l:W.OpenLaw}{n k:Nat}{q:Program}{loose:List Str}{XP:(Str->Option Value)->Heap->Prop}{YP:World->Heap->Prop}{d:DefRec}{K:Params->W.Frag}{CX:World->Fw}{sp:World->Sp}{x:Str}{ts:List Addr}
  (hn:l.most=some n) (WA:n<=sizeLine) (UP:d.params.defaults=[]) (hr:gF k callerA)
  (hY:∀ (w:World) (h:Heap),YP w h->(K w.params).In h/\∀P∈ts,h.get? P=some (W.tabObj #[])) (ht:∀w:World,kn (K w.params) ts=true)
  (F:∀ (w:World) (mg:Str->Option Value) (fa:Addr) (h:Heap),(K w.params).In h->h.Ns mainGlobals mg->mg d.name=some (.ref fa) ->
   ∃fd:FuncData,(∀ (s:Shared) (u:Value),BindsTo s fd ⟨[u],[]⟩ [(x,u)]) /\
    ∀base:Heap,(K w.params).In base->base.Ns mainGlobals mg->mF l.prog w (K w.params) mg base (CX w) k fa fd [x] (sp w))
  (Uy:∀ (w:World) (H:Hp) (a:Addr) (ns:List Int),ns.length<=n->dv (K w.params) H->eH (K w.params) H a (ns.map V.int)->sp w [.ref a] H (λv _=>v=.bl true) λ_ _ _=>False)
  (Ww:∀ (w:World) (H:Hp) (s:Shared) (e:Value) (s':Shared),CX w [] H s (λ_ _ _=>False) e s'->False) :
  W.WalkO q loose XP YP l.row.toRowW d [] (λf vs=>PySem.call f vs):=by
 refine Xx.Rw hn UP λw Qo Qg mg mb fa o pm cd doc a vs ns G Y ho hd QW UQ T8 hints hlen hg=>?_;let⟨KX,Wv⟩:=hY w _ Y;let⟨fd,hb,hF⟩:=F w mg fa _ KX G.T.g UQ;have Wu:Ol mg Qg.heap:=by
  let⟨bm,ob,b1,b2,b3,b4,b5,b6⟩:=G.T.bmain;refine⟨bm,ob,b1,b2,λz=>?_,b3,b4,b5,b6⟩;let⟨o',es,ep,e1,e2,_⟩:=G.T.g;rw[<- z,b3] at e1;cases e1;rw[b6] at e2;cases e2
 exact Ar KX G.T.g G.T.b G.T.builtins G.T.nolimit Wu hg (ht w) Wv T8 hints (yC hlen WA) hr hF hb (λH hT hS=>Uy w H a ns hlen hT hS) λH e s'=>Ww w H Qg e s'
end Dl
namespace SP
open PySem PySem.W PyProof.Rows
def run(lt:Nat->Nat->Bool):KasT α->α
 | .ret a=>a
 | .ask i j k=>run lt (k (lt i j))
def fT(lt:Nat->Nat->Bool)(f:α->KasT β):∀t:KasT α,run lt (t.bind f)=run lt (f (run lt t))
 | .ret a=>rfl
 | .ask i j k=>by
  show run lt ((k (lt i j)).bind f)=run lt (f (run lt (k (lt i j))));exact fT lt f (k (lt i j))
def LO(n:Nat):KasT α->Prop
 | .ret _=>True
 | .ask i j k=>i < n/\j < n/\∀b,LO n (k b)
def wp_run(hc:∀i j C,i < n->j < n->C (lt i j) s->cmp i j C s):∀ (t:KasT α) {Q:α->Shared->Prop},LO n t->Q (run lt t) s->t.kasWp cmp Q s
 | .ret a,Q,_,h=>h
 | .ask i j k,Q,b,h=>hc i j _ b.1 b.2.1 (wp_run hc (k (lt i j)) (b.2.2 _) h)
def nv(n:Nat)(R:α->Prop):KasT α->Prop
 | .ret a=>R a
 | .ask i j k=>i < n/\j < n/\∀b,nv n R (k b)
def k8:∀ {t:KasT α},nv n R t->(∀a,R a->LO n (f a))->LO n (t.bind f)
 | .ret a,b,h=>h a b
 | .ask i j k,b,h=>⟨b.1,b.2.1,λc=>k8 (b.2.2 c) h⟩
def gz:∀ {t:KasT α},nv n R t->(∀a,R a->nv n S (f a))->nv n S (t.bind f)
 | .ret a,b,h=>h a b
 | .ask i j k,b,h=>⟨b.1,b.2.1,λc=>gz (b.2.2 c) h⟩
def Bd(n:Nat)(p:Array Nat):Prop:=∀a,p.getD a 0 < n
def Bd.perm(h:Bd n p)(e:q.Perm p):Bd n q:=by
 intro a;rw[qB];cases ha:q[a]? with
 | none=>have:=h p.size;rw[qB] at this;simpa using this
 | some x =>
  have hx:x∈q:=Array.mem_of_getElem? ha;have U3:x∈p:=e.mem_iff.mp hx;let⟨i,hi,rfl⟩:=Array.mem_iff_getElem.mp U3;have:=h i;rw[qB] at this;simpa [hi] using this
def C6(h:Bd n p):∀f m,nv n (λ_=>True) (kas_asc p f m)
 | 0,m=>trivial
 | f+1,m=>⟨h _,h _,λc=>by
  dsimp only;split
  ·trivial
  ·exact C6 h f (m+1)⟩
def tG(h:Bd n p)(i j:Nat):Bd n (kas_rev p i j):=h.perm (mirror_perm _ _ _ _)
def sO:∀ (f:Nat) {p:Array Nat}(h:Bd n p) (m q:Nat),nv n (λr=>Bd n r.1) (kas_desc f p m q)
 | 0,p,h,m,q=>h
 | f+1,p,h,m,q=>⟨h _,h _,λc=>by
  dsimp only;split
  ·split
   ·exact sO f (tG h _ _) (m+1) 0
   ·exact sO f h (m+1) 0
  ·exact⟨h _,h _,λd=>by
    dsimp only;split
    ·exact h
    ·exact sO f h (m+1) (q+1)⟩⟩
def Af(h:Bd n p)(m nrem:Nat):nv n (λr=>Bd n r.2) (kas_tail3 m nrem p):=gz (C6 (tG h 0 m) _ _) λ_ _=>tG h 0 m
def ni(h:Bd n p)(m nrem:Nat):nv n (λr=>Bd n r.2) (kas_descPart m nrem p):=gz (sO _ h _ _) λr hr=>by
 split
 ·exact Af (tG hr _ _) _ _
 ·exact Af hr _ _
def Hl(h:Bd n p)(nrem:Nat):nv n (λr=>Bd n r.2) (kas_count nrem p):=gz (C6 h _ _) λm _=>by
 split
 ·exact h
 ·split
  ·exact⟨h _,h _,λc=>by
    dsimp only;split
    ·exact h
    ·exact ni (tG h _ _) _ _⟩
  ·exact ni h _ _
def rz(h:Bd n p)(k:Nat):∀f l r,nv n (λ_=>True) (kas_place p k f l r)
 | 0,l,r=>trivial
 | f+1,l,r=>by
  unfold kas_place;split
  ·trivial
  ·exact⟨h _,h _,λc=>by
    dsimp only;split
    ·exact rz h k f _ _
    ·exact rz h k f _ _⟩
def ID:∀ (f:Nat) {p:Array Nat}(h:Bd n p) (k:Nat),LO n (kas_bin f p k)
 | 0,p,h,k=>trivial
 | f+1,p,h,k=>k8 (rz h k _ _ _) λl _=>ID f (h.perm (bubble_perm _ _ _)) (k+1)
def Jy(h1:1<=n):LO n (kas_sort n):=by
 have h:Bd n (List.toArray (List.range n)):=λa=>by
  rw[qB];by_cases ha:a < n
  ·simp[ha]
  ·simp[ha];lia
 refine k8 (Hl h n) λr hr=>?_;split
 ·exact ID _ hr _
 ·trivial
section
variable (z:Nat->Int)
def Z(p:Array Nat)(a:Nat):Int:=z (p.getD a 0)
def dW:Nat->Nat->Bool:=λi j=>decide (z i < z j)
def j9(h:p[a]?=q[b]?):Z z p a=Z z q b:=by
 unfold Z;rw[qB,qB,h]
def C2(hj:j<=p.size)(k:Nat):Z z (kas_rev p i j) k=if i<=k/\k < j then Z z p (i+j - 1 - k) else Z z p k:=by
 have e:=getElem?_mirror_all (xs:=p) (i:=i) hj k;unfold kas_rev;by_cases h1:i<=k/\k < j
 ·rw[yJ h1] at e ⊢;exact j9 z e
 ·rw[yL h1] at e ⊢;exact j9 z e
def CM(hs:src < p.size)(hd:d<=src)(k:Nat):Z z (bubble p src d) k=if k=src - d then Z z p src else if src - d < k/\k<=src then Z z p (k - 1) else Z z p k:=by
 have e:=getElem?_bubble hs d hd k;by_cases h1:k=src - d
 ·rw[yJ h1] at e ⊢;exact j9 z e
 ·rw[yL h1] at e ⊢;by_cases h2:src - d < k/\k<=src
  ·rw[yJ h2] at e ⊢;exact j9 z e
  ·rw[yL h2] at e ⊢;exact j9 z e
def Up(p:Array Nat)(n:Nat):Prop:=∀a b,a<=b->b < n->Z z p a<=Z z p b
def Dn(p:Array Nat)(n:Nat):Prop:=∀a b,a<=b->b < n->Z z p b<=Z z p a
variable {z}
def Fx(h:Up z p n)(hn:1<=n)(h1:Z z p (n - 1)<=Z z p n):Up z p (n+1):=by
 intro a b Ra hb;by_cases Uc:b < n
 ·exact h a b Ra Uc
 ·have e:b=n:=by lia
  subst e;by_cases ha:a=b
  ·subst ha;exact xX _
  ·exact jQ (h a (b - 1) (by lia) (by lia)) h1
def N5:∀ (f n:Nat),1<=n->Up z p n->n<=run (dW z) (kas_asc p f n)/\run (dW z) (kas_asc p f n)<=n+f/\Up z p (run (dW z) (kas_asc p f n))/\(run (dW z) (kas_asc p f n) < n+f->Z z p (run (dW z) (kas_asc p f n)) < Z z p (run (dW z) (kas_asc p f n) - 1))
 | 0,n,hn,h=>⟨yK _,yK _,h,λq=>absurd q (qC _)⟩
 | f+1,n,hn,h=>by
  unfold kas_asc;show n<=run (dW z) (if dW z (p.getD n 0) (p.getD (n - 1) 0)=true then .ret n else kas_asc p f (n+1))/\run (dW z) (if dW z (p.getD n 0) (p.getD (n - 1) 0)=true then .ret n else kas_asc p f (n+1))<=n+(f+1)/\Up z p (run (dW z) (if dW z (p.getD n 0) (p.getD (n - 1) 0)=true then .ret n else kas_asc p f (n+1)))/\(run (dW z) (if dW z (p.getD n 0) (p.getD (n - 1) 0)=true then .ret n else kas_asc p f (n+1)) < n+(f+1)->Z z p (run (dW z) (if dW z (p.getD n 0) (p.getD (n - 1) 0)=true then .ret n else kas_asc p f (n+1))) < Z z p (run (dW z) (if dW z (p.getD n 0) (p.getD (n - 1) 0)=true then .ret n else kas_asc p f (n+1)) - 1))
  by_cases hc:dW z (p.getD n 0) (p.getD (n - 1) 0)=true
  ·rw[yJ hc];exact⟨yK _,jR _ _,h,λ_=>yO hc⟩
  ·rw[yL hc];have h1:Z z p (n - 1)<=Z z p n:=by
    have:¬ (Z z p n < Z z p (n - 1)):=λq=>hc (zZ q);lia
   let⟨a,b,c,d⟩:=N5 f (n+1) (by lia) (Fx h hn h1);exact⟨by lia,by lia,c,λq=>d (by lia)⟩
def we(hj:j<=p.size)(h:∀a b,i<=a->a < j->i<=b->b < j->Z z p a=Z z p b)(k:Nat):Z z (kas_rev p i j) k=Z z p k:=by
 rw[C2 z hj];split
 ·rename_i hk;exact h _ _ (by lia) (by lia) hk.1 hk.2
 ·rfl
def C7(e:∀k,Z z q k=Z z p k)(h:Dn z p n):Dn z q n:=λa b Ra hb=>by rw[e,e];exact h a b Ra hb
def KU(hn:n<=p.size)(h:Dn z p n):Up z (kas_rev p 0 n) n:=by
 intro a b Ra hb;rw[C2 z hn,C2 z hn,yJ ⟨xS _,by lia⟩,yJ ⟨xS _,hb⟩];exact h _ _ (by lia) (by lia)
def j5(p:Array Nat)(i j:Nat):(kas_rev p i j).size=p.size:=mirror_size _ _ _ _
def kr(p:Array Nat)(i j:Nat):(kas_rev p i j).Perm p:=mirror_perm _ _ _ _
structure J4(z:Nat->Int)(Qs p:Array Nat)(n q nrem:Nat):Prop where
 perm:p.Perm Qs
 size:p.size=Qs.size
 le:n<=nrem
 qn:q+1<=n
 dn:Dn z p n
 eq:∀a b,n - (q+1)<=a->a < n->n - (q+1)<=b->b < n->Z z p a=Z z p b
def FY(hz:nrem<=Qs.size):∀ (f:Nat) (p:Array Nat) (n q:Nat),n+f<=nrem->J4 z Qs p n q nrem ->
  let r:=run (dW z) (kas_desc f p n q);J4 z Qs r.1 r.2.1 r.2.2 nrem
 | 0,p,n,q,hn,h=>h
 | f+1,p,n,q,hn,h=>by
  intro r;have hr:r=run (dW z) (if dW z (p.getD n 0) (p.getD (n - 1) 0)=true then (if q > 0 then kas_desc f (kas_rev p (n - (q+1)) n) (n+1) 0 else kas_desc f p (n+1) 0)
   else .ask (p.getD (n - 1) 0) (p.getD n 0) λd=>if d=true then .ret (p,n,q) else kas_desc f p (n+1) (q+1)):=rfl
  have hq:=h.qn;by_cases hc:dW z (p.getD n 0) (p.getD (n - 1) 0)=true
  ·rw[yJ hc] at hr;have QL:Z z p n < Z z p (n - 1):=yO hc;have step:∀p':Array Nat,p'.Perm Qs->p'.size=Qs.size->(∀k,Z z p' k=Z z p k)->J4 z Qs p' (n+1) 0 nrem:=λp' a1 a2 a3=>by
    refine⟨a1,a2,by lia,by lia,λa b Ra hb=>?_,λa b h1 h2 h3 h4=>by rw[show a=b by lia]⟩;rw[a3,a3];by_cases Uc:b < n
    ·exact h.dn a b Ra Uc
    ·have e:b=n:=by lia
     subst e;by_cases ha:a=b
     ·subst ha;exact xX _
     ·exact jQ (Int.le_of_lt QL) (h.dn a (b - 1) (by lia) (by lia))
   by_cases XJ:q > 0
   ·rw[yJ XJ] at hr;rw[hr];exact FY hz f _ (n+1) 0 (by lia) (step _ ((kr _ _ _).trans h.perm) (by rw[j5,h.size]) (we (by rw[h.size];lia) h.eq))
   ·rw[yL XJ] at hr;rw[hr];exact FY hz f p (n+1) 0 (by lia) (step p h.perm h.size λ_=>rfl)
  ·rw[yL hc] at hr;have TF:Z z p (n - 1)<=Z z p n:=by
    have:¬ (Z z p n < Z z p (n - 1)):=λq=>hc (zZ q);lia
   have Rm:r=run (dW z) (if dW z (p.getD (n - 1) 0) (p.getD n 0)=true then .ret (p,n,q) else kas_desc f p (n+1) (q+1)):=hr;by_cases hd:dW z (p.getD (n - 1) 0) (p.getD n 0)=true
   ·rw[yJ hd] at Rm;rw[Rm];exact h
   ·rw[yL hd] at Rm;rw[Rm];have heq:Z z p n=Z z p (n - 1):=by
     have:¬ (Z z p (n - 1) < Z z p n):=λq=>hd (zZ q);lia
    refine FY hz f p (n+1) (q+1) (by lia) ⟨h.perm,h.size,by lia,by lia,λa b Ra hb=>?_,λa b h1 h2 h3 h4=>?_⟩
    ·by_cases Uc:b < n
     ·exact h.dn a b Ra Uc
     ·have e:b=n:=by lia
      subst e;by_cases ha:a=b
      ·subst ha;exact xX _
      ·rw[heq];exact h.dn a (b - 1) (by lia) (by lia)
    ·have key:∀c,n+1 - (q+1+1)<=c->c < n+1->Z z p c=Z z p (n - 1):=λc c1 c2=>by
      by_cases YZ:c < n
      ·exact h.eq c (n - 1) (by lia) YZ (by lia) (by lia)
      ·have e:c=n:=by lia
       subst e;exact heq
     rw[key a h1 h2,key b h3 h4]
structure Nh(z:Nat->Int)(Qs:Array Nat)(nrem:Nat)(r:Nat×Array Nat):Prop where
 perm:r.2.Perm Qs
 size:r.2.size=Qs.size
 ge:1<=r.1
 le:r.1<=nrem
 up:Up z r.2 r.1
def tail3(hz:nrem<=Qs.size)(h1:1<=n)(hn:n<=nrem)(hp:p.Perm Qs)(hs:p.size=Qs.size)(hd:Dn z p n):Nh z Qs nrem (run (dW z) (kas_tail3 n nrem p)):=by
 unfold kas_tail3;rw[fT];let⟨a,b,c,_⟩:=N5 (nrem - n) n h1 (KU (by lia) hd);exact⟨(kr _ _ _).trans hp,by show (kas_rev p 0 n).size=_;rw[j5,hs],by show 1<=run _ (kas_asc _ _ _);lia,by show run _ (kas_asc _ _ _)<=nrem;lia,c⟩
def descPart(hz:nrem<=Qs.size)(h1:1<=n)(hn:n < nrem)(hp:p.Perm Qs)(hs:p.size=Qs.size)(hd:Dn z p n)(QL:Z z p n<=Z z p (n - 1)):Nh z Qs nrem (run (dW z) (kas_descPart n nrem p)):=by
 unfold kas_descPart;rw[fT];have D:=FY (z:=z) hz (nrem - (n+1)) p (n+1) 0 (by lia) ⟨hp,hs,by lia,by lia,λa b Ra hb=>by
  by_cases Uc:b < n
  ·exact hd a b Ra Uc
  ·have e:b=n:=by lia
   subst e;by_cases ha:a=b
   ·subst ha;exact xX _
   ·exact jQ QL (hd a (b - 1) (by lia) (by lia)),λa b h1 h2 h3 h4=>by rw[show a=b by lia]⟩
 dsimp only at D;generalize run (dW z) (kas_desc (nrem - (n+1)) p (n+1) 0)=r at D;have hq:=D.qn;split
 ·exact tail3 hz (by lia) D.le ((kr _ _ _).trans D.perm) (by rw[j5,D.size]) (C7 (we (by have:=D.size;have:=D.le;lia) D.eq) D.dn)
 ·exact tail3 hz (by lia) D.le D.perm D.size D.dn
def count(hz:nrem<=p.size)(h1:1<=nrem):Nh z p nrem (run (dW z) (kas_count nrem p)):=by
 unfold kas_count;rw[fT];let⟨a,b,c,d⟩:=N5 (z:=z) (p:=p) (nrem - 1) 1 (yK _) (λx y XM hy=>by rw[show x=y by lia];exact xX _);generalize run (dW z) (kas_asc p (nrem - 1) 1)=n at a b c d;split
 ·exact⟨Array.Perm.refl _,rfl,a,by show n<=nrem;lia,c⟩
 ·rename_i QT;have QL:n < nrem:=by
   have:n≠nrem:=λe=>QT (by simp[e]);lia
  have hd:=d (by lia);split
  ·rename_i hn1;show Nh z p nrem (run (dW z) (if dW z (p.getD 0 0) (p.getD (n - 1) 0)=true then .ret (n,p) else kas_descPart n nrem (kas_rev p 0 n)));by_cases hc:dW z (p.getD 0 0) (p.getD (n - 1) 0)=true
   ·rw[yJ hc];exact⟨Array.Perm.refl _,rfl,a,by show n<=nrem;lia,c⟩
   ·rw[yL hc];have TF:Z z p (n - 1)<=Z z p 0:=by
     have:¬ (Z z p 0 < Z z p (n - 1)):=λq=>hc (zZ q);lia
    have all:∀x,x < n->Z z p x=Z z p 0:=λx hx=>by
     have e1:=c 0 x (xS _) hx;have e2:=c x (n - 1) (by lia) (by lia);lia
    have same:=we (z:=z) (p:=p) (i:=0) (j:=n) (by lia) λx y _ hx _ hy=>by rw[all x hx,all y hy]
    refine descPart hz (by lia) QL (kr _ _ _) (by rw[j5]) (λx y XM hy=>?_) ?_
    ·rw[same,same,all x (by lia),all y hy];exact xX _
    ·rw[same,same];lia
  ·exact descPart hz (by lia) QL (Array.Perm.refl _) rfl (λx y XM hy=>by rw[show x=y by lia];exact xX _) (by lia)
def place(hu:Up z p k):∀ (f l r:Nat),r - l<=f->l<=r->r<=k->(∀a,a < l->Z z p a<=Z z p k)->(∀a,r<=a->a < k->Z z p k<=Z z p a) ->
  let m:=run (dW z) (kas_place p k f l r);m<=k/\(∀a,a < m->Z z p a<=Z z p k)/\(∀a,m<=a->a < k->Z z p k<=Z z p a)
 | 0,l,r,hf,hl,hr,h1,h2=>by
  intro m;have e:l=r:=by lia
  subst e;exact⟨hr,h1,h2⟩
 | f+1,l,r,hf,hl,hr,h1,h2=>by
  intro m;have hm:m=run (dW z) (if l >= r then .ret l else .ask (p.getD k 0) (p.getD ((l+r) / 2) 0) λc=>if c=true then kas_place p k f l ((l+r) / 2) else kas_place p k f ((l+r) / 2+1) r):=rfl;by_cases XN:l >= r
  ·rw[yJ XN] at hm;rw[hm];have e:l=r:=by lia
   subst e;exact⟨hr,h1,h2⟩
  ·rw[yL XN] at hm;have R0:m=run (dW z) (if dW z (p.getD k 0) (p.getD ((l+r) / 2) 0)=true then kas_place p k f l ((l+r) / 2) else kas_place p k f ((l+r) / 2+1) r):=hm;by_cases hc:dW z (p.getD k 0) (p.getD ((l+r) / 2) 0)=true
   ·rw[yJ hc] at R0;rw[R0];have QL:Z z p k < Z z p ((l+r) / 2):=yO hc;exact place hu f l ((l+r) / 2) (by lia) (by lia) (by lia) h1 λa ha XO=>jQ (Int.le_of_lt QL) (hu _ a ha XO)
   ·rw[yL hc] at R0;rw[R0];have TF:Z z p ((l+r) / 2)<=Z z p k:=by
     have:¬ (Z z p k < Z z p ((l+r) / 2)):=λq=>hc (zZ q);lia
    exact place hu f ((l+r) / 2+1) r (by lia) (by lia) hr (λa ha=>jQ (hu a ((l+r) / 2) (by lia) (by lia)) TF) h2
def bin:∀ (f:Nat) (p:Array Nat) (k:Nat),p.Perm Qs->p.size=Qs.size->k+f<=Qs.size->Up z p k ->
  (run (dW z) (kas_bin f p k)).Perm Qs/\(run (dW z) (kas_bin f p k)).size=Qs.size/\Up z (run (dW z) (kas_bin f p k)) (k+f)
 | 0,p,k,hp,hs,hk,hu=>⟨hp,hs,hu⟩
 | f+1,p,k,hp,hs,hk,hu=>by
  unfold kas_bin;rw[fT];have P:=place hu k 0 k (by lia) (by lia) (yK _) (λa ha=>absurd ha (vC _)) λa ha XO=>absurd ha (by lia);dsimp only at P;generalize run (dW z) (kas_place p k k 0 k)=l at P;let⟨p1,p2,p3⟩:=P;have zb:=CM z (p:=p) (src:=k) (d:=k - l) (by lia) (by lia);have e:k - (k - l)=l:=by lia
  rw[e] at zb;let⟨q1,q2,q3⟩:=bin f (bubble p k (k - l)) (k+1) ((bubble_perm _ _ _).trans hp) (by rw[bubble_size,hs]) (by lia) λa b Ra hb=>by
   rw[zb,zb];by_cases XQ:a=l
   ·rw[yJ XQ];by_cases U4:b=l
    ·rw[yJ U4];exact xX _
    ·rw[yL U4];rw[yJ (by lia)];exact p3 _ (by lia) (by lia)
   ·rw[yL XQ];by_cases U4:b=l
    ·rw[yJ U4,yL (by lia)];exact p2 a (by lia)
    ·rw[yL U4];by_cases XR:l < a/\a<=k
     ·rw[yJ XR,yJ (by lia)];exact hu _ _ (by lia) (by lia)
     ·rw[yL XR];by_cases XU:l < b/\b<=k
      ·rw[yJ XU];exact hu _ _ (by lia) (by lia)
      ·rw[yL XU];exact hu _ _ Ra (by lia)
  exact⟨q1,q2,by rw[show k+(f+1)=k+1+f by lia];exact q3⟩
def iH(h1:1<=n):(run (dW z) (kas_sort n)).toList.Perm (List.range n)/\((run (dW z) (kas_sort n)).toList.map z).Pairwise (·<=·):=by
 have hsz:(List.toArray (List.range n)).size=n:=by simp
 have C:=count (z:=z) (p:=List.toArray (List.range n)) (nrem:=n) (by lia) h1;have fin:∀p:Array Nat,p.Perm (List.toArray (List.range n))->p.size=n->Up z p n->p.toList.Perm (List.range n)/\(p.toList.map z).Pairwise (·<=·):=λp a b c=>by
  refine⟨by have:=a.toList;simpa using this,?_⟩;rw[List.pairwise_iff_getElem];intro i j hi hj Qj;have R6:i < n:=by simpa [b] using hi
  have SR:j < n:=by simpa [b] using hj
  have:=c i j (jP Qj) SR;unfold Z at this;have e1:p.getD i 0=p[i]:=by simp[Array.getD,b,R6]
  have e2:p.getD j 0=p[j]:=by simp[Array.getD,b,SR]
  rw[e1,e2] at this;simpa using this
 unfold kas_sort;rw[fT];generalize run (dW z) (kas_count n (List.toArray (List.range n)))=r at C;let⟨k,p⟩:=r;have hs:=C.size;rw[hsz] at hs;split
 ·rename_i QL;have TF:=C.ge;have e:max k 1=k:=by have:1<=k:=TF;lia
  rw[e];let⟨q1,q2,q3⟩:=bin (z:=z) (n - k) p k C.perm C.size (by rw[hsz];have:k < n:=QL;lia) C.up;refine fin _ q1 (by rw[q2,hsz]) ?_;rw[show k+(n - k)=n by have:k < n:=QL;lia] at q3;exact q3
 ·rename_i WB;have hle:=C.le;have e:k=n:=by have h3:k<=n:=hle;have h4:¬ k < n:=WB;lia
  subst e;exact fin p C.perm hs C.up
end
end SP
namespace Sy
open PySem PySem.W PySem.Calls PyProof.Rows
def QJ(z:Nat->Int)(vs:List Value):List Value:=if vs.length < 2 then vs else (SP.run (SP.dW z) (kas_sort vs.length)).toList.map λi=>vs.getD i Value.none
def Sz(z:Nat->Int)(vs:List Value):(QJ z vs).length=vs.length:=by
 unfold QJ;split
 ·rfl
 ·rename_i h;have:=(SP.iH (z:=z) (n:=vs.length) (by lia)).1.length_eq;simpa using this
def RN{P:PySem.Fin->Shared->Prop}(ho:s.heap.get? a=some (seqObj "list" vs.toArray n))(TH:vs.length < 64)(z:Nat->Int)(κ:SortKind)
  (hk:2<=vs.length->∀h':Heap,(∀b o,b≠a->s.heap.get? b=some o->h'.get? b=some o)->∀Q':SortKind->Shared->Prop,Q' κ { s with heap:=h' }->wpAny (model prog w) A (keyKind' vs.toArray) Q' (λ_ _=>False) { s with heap:=h' })
  (QL:2<=vs.length->∀h':Heap,(∀b o,b≠a->s.heap.get? b=some o->h'.get? b=some o)->∀i j C,i < vs.length->j < vs.length->C (SP.dW z i j) { s with heap:=h' }->kas_ask prog w A κ vs i j C { s with heap:=h' })
  (h:∀ (h':Heap) (c:Nat),(∀b o,b≠a->s.heap.get? b=some o->h'.get? b=some o)->h'.get? a=some (seqObj "list" (QJ z vs).toArray c)->P (.done (.ret .none)) { s with heap:=h' }) :
  wpAny (model prog w) A (Builtin.«list.sort» ⟨[.ref a],[]⟩) P E s:=by
 rw[list_sort_plain];have ha:a < s.heap.objs.size:=zX ho;have SS:vs.length<=sizeLine:=by rw[sizeLine_eq];lia
 refine zU (listItems_at ho rfl (zU (listUpdate_at ho rfl ?_ (by simpa using SS) (xS _))));obtain⟨e1,WC⟩:∃e,(s.heap.update a (Obj.mapSeq λ_=>(#[]:Array Value))).get? a=some (seqObj "list" #[] e):=⟨_,get?_update_seq ho λ_=>#[]⟩
 have XW:∀b o,b≠a->s.heap.get? b=some o->(s.heap.update a (Obj.mapSeq λ_=>(#[]:Array Value))).get? b=some o:=λb o hb e=>(xK _ _ (jJ hb)).trans e;refine zU (seqEpoch_at WC rfl (zU (wpAny_newTuple ?_ (by simpa using SS))));refine zU (wpAny_newList (xV ?_) (xS _));have VM:(((s.heap.update a (Obj.mapSeq λ_=>(#[]:Array Value))).push (seqObj "tuple" vs.toArray 0)).push (seqObj "list" #[] 0)).get? a=some (seqObj "list" #[] e1):=zT _ (zT _ WC);have VN:∀b o,b≠a->s.heap.get? b=some o->(((s.heap.update a (Obj.mapSeq λ_=>(#[]:Array Value))).push (seqObj "tuple" vs.toArray 0)).push (seqObj "list" #[] 0)).get? b=some o:=λb o hb e=>zT _ (zT _ (XW b o hb e));show wpAny _ A _ P E { s with heap:=((s.heap.update a (Obj.mapSeq λ_=>(#[]:Array Value))).push (seqObj "tuple" vs.toArray 0)).push (seqObj "list" #[] 0) };generalize ((s.heap.update a (Obj.mapSeq λ_=>(#[]:Array Value))).push (seqObj "tuple" vs.toArray 0)).push (seqObj "list" #[] 0)=h3 at VM VN;clear WC XW;dsimp only;have fin:∀Q4:SortSt,(arrOf Q4).map (·.2)=(QJ z vs).toArray->failedOf Q4=none ->
   wpAny (model prog w) A (do
    let sorted:=(arrOf Q4).map (·.2);let touched:=(<- seqEpoch a) != e1
    Builtin.List.listUpdate (.ref a) λ_=>sorted
    if let some e:=failedOf Q4 then rule "list.sort.comparison-raised";throw e
    if touched then rule "list.sort.modified";raiseError "ValueError" "list modified during sort"
    ret .none) P E { s with heap:=h3 }:=λQ4 h1 h2=>by
  dsimp only;rw[h1,h2];refine zU (seqEpoch_at VM rfl ?_);refine zU (listUpdate_at VM rfl ?_ (xS _) (by show (QJ z vs).toArray.size<=_;rw[zH,Sz];lia));obtain⟨c,hc⟩:∃c,(h3.update a (Obj.mapSeq λ_=>(QJ z vs).toArray)).get? a=some (seqObj "list" (QJ z vs).toArray c):=⟨_,get?_update_seq VM λ_=>(QJ z vs).toArray⟩
  have q:=h _ c (λb o hb e=>(xK _ _ (jJ hb)).trans (VN b o hb e)) hc;simp?[bne_self_eq_false,yM,qM];exact zV q
 by_cases h2:vs.toArray.size < 2
 ·rw[yJ h2,yJ h2];refine zU (zV ?_);rw[StateT.run_pure];refine zU (zV (fin _ ?_ rfl));have U5:vs.length < 2:=by simpa using h2
  unfold QJ;rw[yJ U5];show ((vs.toArray.zip vs.toArray).map (·.2))=vs.toArray;apply Array.toList_inj.mp;simp?[Array.toList_map,Array.toList_zip];exact List.map_snd_zip (yK _)
 ·rw[yL h2,yL h2];have U5:2<=vs.length:=by
   have:¬ vs.length < 2:=by simpa using h2
   lia
  refine zU (yY (hk U5 h3 VN (λXX s'=>XX=κ/\s'={ s with heap:=h3 }) ⟨rfl,rfl⟩) (λXX s' hs=>?_) λ_ _ x=>x.elim);let⟨rfl,rfl⟩:=hs;refine zU (yY (kat_run (Q:=λQ4 s'=>s'={ s with heap:=h3 }/\(arrOf Q4).map (·.2)=(QJ z vs).toArray/\failedOf Q4=none) (G:=λp s'=>s'={ s with heap:=h3 }/\p=SP.run (SP.dW z) (kas_sort vs.length))
   rfl U5 TH (λp Q4 s' a1 a2 a3 a4=>⟨a4.1,?_,a3⟩) (SP.wp_run (QL U5 h3 VN) (kas_sort vs.length) (SP.Jy (by lia)) ⟨rfl,rfl⟩)) ?_ λ_ _ e=>e)
  ·rw[kat_snds rfl a2,a4.2];unfold QJ;rw[yL (by lia)]
  ·rintro⟨⟨⟩,Q4⟩ s' ⟨hs,h4,h5⟩;subst hs;exact fin Q4 h4 h5
def S9(h:Heap)(l:Addr)(vs:List Value):Prop:=∃ (o:Obj) (T:String) (n:Nat),(T="list"\/T="tuple")/\h.get? l=some o/\o.cls=.type T/\o.data=.seq vs.toArray n
def SD(hl:S9 s.heap l vs)
  (h:Q vs { s with heap:=(s.heap.push (seqObj "list" #[] 0)).update s.heap.objs.size (Obj.mapSeq (·++vs.toArray)) }) (hsz:vs.length<=sizeLine):wpAny (model prog w) A (collect (.ref l)) Q E s:=by
 let⟨o,T,n,hT,ho,hc,hd⟩:=hl;unfold collect;refine zU (wpAny_runValue (jW entry_proto_collect' ?_));show wpAny _ _ (do again (.builtin "list.__iadd__" ⟨[<- newList [],.ref l],[]⟩)) _ _ s;refine zU (wpAny_newList (zV ⟨vQ _ (by decide +kernel),jW entry_list_iadd' ?_⟩));show wpAny _ _ (Builtin.List.listExtendWith (.ref s.heap.objs.size) (.ref l) (.ref s.heap.objs.size)) _ _ { s with heap:=s.heap.push (seqObj "list" #[] 0) };unfold Builtin.List.listExtendWith;have QV:(s.heap.push (seqObj "list" #[] 0)).get? l=some o:=zT _ ho;refine zU (vS (T:=T) ⟨o,QV,hc⟩ ?_);rw[yJ (by rcases hT with rfl|rfl<;>simp)];refine zU (listItems_at QV hd (zU (listItems_at (xs:=#[]) (n:=0) (zW _ rfl) rfl ?_)));rw[yL (by simp)];refine zU (listUpdate_at (xs:=#[]) (n:=0) (zW _ rfl) rfl ?_ (xS _) (by show (#[]++vs.toArray).size<=sizeLine+1;simp?[Array.size_append,zH,xI];lia));refine zV ?_;refine zU (wpAny_load (get?_update_seq (zW _ rfl) _) ?_);show wpAny _ _ (pure ((#[]:Array Value)++vs.toArray).toList) Q E _;rw[show ((#[]:Array Value)++vs.toArray).toList=vs by simp];exact zV h
def Ta{s:Shared}{Q:Value->Shared->Prop}(hl:S9 s.heap l vs)(TH:vs.length < 64)(z:Nat->Int)(κ:SortKind)
  (hk:2<=vs.length->∀h':Heap,(∀b o,s.heap.get? b=some o->h'.get? b=some o)->∀Q':SortKind->Shared->Prop,Q' κ { s with heap:=h' }->wpAny (model prog w) A.in1.in1 (keyKind' vs.toArray) Q' (λ_ _=>False) { s with heap:=h' })
  (QL:2<=vs.length->∀h':Heap,(∀b o,s.heap.get? b=some o->h'.get? b=some o)->∀i j C,i < vs.length->j < vs.length->C (SP.dW z i j) { s with heap:=h' }->kas_ask prog w A.in1.in1 κ vs i j C { s with heap:=h' })
  (h:∀ (h':Heap) (D:Addr) (c:Nat),(∀b o,s.heap.get? b=some o->h'.get? b=some o)->s.heap.objs.size<=D->h'.get? D=some (seqObj "list" (QJ z vs).toArray c)->Q (.ref D) { s with heap:=h' }) :
  wpAny (model prog w) A (call (.builtin "sorted") [.ref l]) Q E s:=by
 have SS:vs.length<=sizeLine:=by rw[sizeLine_eq];lia
 refine Calls.call_function_entry kind_sorted plain_sorted entry_sorted (args_sorted1 _) ?_;unfold Builtin.«sorted»;refine zU (m:=checkCount "sorted" 1 1 _) (zV (zU (SD hl ?_ SS)));refine zU (wpAny_newList ?_ (by simpa using SS));have hsz:((s.heap.push (seqObj "list" #[] 0)).update s.heap.objs.size (Obj.mapSeq (·++vs.toArray))).objs.size=s.heap.objs.size+1:=by rw[Heap.size_update,size_push']
 have kp:∀b o,s.heap.get? b=some o->(((s.heap.push (seqObj "list" #[] 0)).update s.heap.objs.size (Obj.mapSeq (·++vs.toArray))).push (seqObj "list" vs.toArray 0)).get? b=some o:=λb o e =>
  zT _ ((xK _ _ (jE (zX e))).trans (zT _ e))
 have WD:(((s.heap.push (seqObj "list" #[] 0)).update s.heap.objs.size (Obj.mapSeq (·++vs.toArray))).push (seqObj "list" vs.toArray 0)).get? (s.heap.objs.size+1)=some (seqObj "list" vs.toArray 0):=by
  rw[<- hsz];exact zW _ rfl
 show wpAny _ _ _ _ _ { s with heap:=((s.heap.push (seqObj "list" #[] 0)).update s.heap.objs.size (Obj.mapSeq (·++vs.toArray))).push (seqObj "list" vs.toArray 0) };rw[hsz];generalize ((s.heap.push (seqObj "list" #[] 0)).update s.heap.objs.size (Obj.mapSeq (·++vs.toArray))).push (seqObj "list" vs.toArray 0)=h1 at kp WD;have kk:∀h':Heap,(∀b o,b≠s.heap.objs.size+1->h1.get? b=some o->h'.get? b=some o)->∀b o,s.heap.get? b=some o->h'.get? b=some o:=λh' q b o e=>q b o (yP (jK (zX e))) (kp b o e);refine zU (xV (qS slot_list_sort ⟨_,WD,rfl⟩ entry_list_sort (RN WD TH z κ (λa h' q=>hk a h' (kk h' q)) (λa h' q=>QL a h' (kk h' q)) λh' c q e=>⟨_,rfl,?_⟩) (args_list_sort _)));exact zV ⟨_,rfl,h h' _ c (kk h' q) (by lia) e⟩
end Sy
namespace Dl
open PySem L2 PySem.Spec PyProof.Rows
def AB(i:Nat)(fz:List Nat)(f:Env->Option (List D)):aq->Option Out:=λρ=>(f (aY (hand fz 0 ρ))).bind λus=>pb i (λds=>if ds.length+us.length<=sizeLine then some (ds++us) else none) (hand fz 0 ρ)
def AV(i:Nat)(fz:List Nat)(hN:X.N[i]?=some x)(hv:FC X.env.scope x)(h:DF X e f)(hd:(x == ("__debug__":Str))=false:=by decide)(QW:(x == ("__classdict__":Str))=false:=by decide)
  (QB:((backTo Qe (starEach [e] X.env)).all (λx=>!x.1)&&(backToKw Qe (keywordEach [] X.env)).all (λx=>x.1.isSome)&&decide ([e].length+([]:List Keyword).length+(if ([]:List Keyword).isEmpty then 0 else 1) < 30))=true:=by rfl)
  (Qm:(apos.endLine == Qe.line)=true:=by rfl) (hs:starEach [e] X.env=(false,eval e X.env)::starEach [] X.env:=by rfl) :
  DS X Qa Qc (.Expr (.Call (.Attribute (.Name x px) "extend" apos) [e] [] Qe) pos) (AB i fz f) :=
 bM (kg (mn qL PySem.F.slot_list_extend PySem.F.type_list_extend AL (ja hN hv hd QW) (bS h dc hs) rfl QB Qm hs rfl)) λE σ H ⟨HF,ρ,o,S,hg,q⟩=>by
  let⟨us,h1,hg⟩:=bs hg;let⟨ds,es,h2,h3,rfl⟩:=iF hg;let⟨Qf,s1,S1⟩:=S.hand fz;let⟨a,vs,e1,e2,e3,e5,e4⟩:=S1.own i ds h2;refine⟨.ref a,e1,.inl ⟨rfl,vs,eH.of e2⟩,Qf,_,us,S1.gr.fh,S1.QK,h1,λb ws H' Qd G hb hf h' r=>?_⟩;have S2:=S1.grow G;let⟨a',TC,f1,f2,f3,f5,f4⟩:=S2.own i ds h2;rw[e1] at f1;cases f1;split at h3
  ·rename_i hz;cases h3;exact⟨a,b,TC,ws,rfl,rfl,f2,h',by rw[f4.length,r.length];exact hz,q σ _ Qd (S2.mut h2 e1 f2 (f4.append r)) (s1.trans G.ff)⟩
  ·cases h3
def IK(ds:List D)(k:Int)(d:D):List D:=let j:=if k < 0 then (k+(ds.length:Int)).toNat else min k.toNat ds.length;ds.take j++d::ds.drop j
def Gv:V->List V->Hp->VK->Prop:=λx vs H Q=>∃l xs k y,x=.ref l/\vs=[.int k,y]/\H l=some (.lst xs)/\xs.length < sizeLine/\-(2 ^ 62)<=k/\k < 2 ^ 62 /\
 Q .Qb (upd H l (.lst (xs.take (if k < 0 then (k+(xs.length:Int)).toNat else min k.toNat xs.length)++y::xs.drop (if k < 0 then (k+(xs.length:Int)).toNat else min k.toNat xs.length))))
def Br:IV X "list.insert" Gv:=by
 intro pins s σ H x vs v us Q I rx rv h;let⟨l,xs,k,y,rfl,rfl,hH,hz,k1,k2,q⟩:=h;cases rx;let⟨u1,u2,rfl,⟨t,rfl⟩,ru⟩:=L2.aA.two rv;let⟨z,its,n,r,hl,e⟩:=I.Sq hH;have Su:¬(!Builtin.List.listFitsIndex k)=true:=by
  have:Builtin.List.listFitsIndex k=true:=by
   unfold Builtin.List.listFitsIndex;simp?[zF,zJ];lia
  rw[this];simp
 refine qT F.slot_list_insert ⟨_,e,rfl⟩ F.entry_list_insert (F.args_list_insert_3 _ _ _) (AutoListH.list_insert_list_int_val_1 l its.toArray n k t u2 Su (by rw[zH];lia)) ⟨e,?_⟩;have hlen:its.length=xs.length:=hl.symm;refine⟨.Qb,_,I.T7 (its':=its.take (if k < 0 then (k+(xs.length:Int)).toNat else min k.toNat xs.length)++u2::its.drop (if k < 0 then (k+(xs.length:Int)).toNat else min k.toNat xs.length)) hH e ?_ ((r.take _).append (.cons ru (r.drop _))) ?_,rfl,q⟩
 ·dsimp only;rw[zH,hlen];apply Array.toList_inj.mp;simp;exact kA (by rw[qF,hlen];exact yK _)
 ·rw[zN,zL,jS,qF];lia
def LW(i:Nat)(fz:List Nat)(fk f:Env->Option D):aq->Option Out:=λρ=>(fk (aG ρ)).bind λkd=>match kd with
 | .int k=>(j1 fz f ρ).bind λp=>pb i (λds=>if m4 k=true/\ds.length < sizeLine then some (IK ds k p.1) else none) p.2
 | _=>none
def Bi(i:Nat)(fz:List Nat)(hN:X.N[i]?=some x)(hv:FC X.env.scope x)(hk:DE X e fk)(h:DE X e2 f)(hd:(x == ("__debug__":Str))=false:=by decide)(QW:(x == ("__classdict__":Str))=false:=by decide)
  (QB:((backTo Qe (starEach [e,e2] X.env)).all (λx=>!x.1)&&(backToKw Qe (keywordEach [] X.env)).all (λx=>x.1.isSome)&&decide ([e,e2].length+([]:List Keyword).length+(if ([]:List Keyword).isEmpty then 0 else 1) < 30))=true:=by rfl)
  (Qm:(apos.endLine == Qe.line)=true:=by rfl) (hs:starEach [e,e2] X.env=(false,eval e X.env)::starEach [e2] X.env:=by rfl) (Sl:starEach [e2] X.env=(false,eval e2 X.env)::starEach [] X.env:=by rfl) :
  DS X Qa Qc (.Expr (.Call (.Attribute (.Name x px) "insert" apos) [e,e2] [] Qe) pos) (LW i fz fk f) :=
 bM (kg (mn qL PySem.F.slot_list_insert PySem.F.type_list_insert Br (ja hN hv hd QW) (bS hk (bS h dc Sl) hs) rfl QB Qm hs (by rw[Sl];rfl))) λE σ H ⟨HF,ρ,o,S,hg,q⟩=>by
  let⟨kd,Y0,hg⟩:=bs hg;cases kd<;>try cases hg
  rename_i k;let⟨⟨d,ρ'⟩,h1,hg⟩:=bs hg;let⟨ds,es,h2,h3,rfl⟩:=iF hg;have RM:∃Ub,ρ[i]?=some (.own Ub):=by
   let⟨d1,_,h1⟩:=bs h1;split at h1
   ·cases h1;exact⟨ds,h2⟩
   ·let⟨d2,_,h1⟩:=af h1;cases h1;rw[hU] at h2;let⟨s,hs,h2⟩:=af h2;cases s with
    | Qb=>split at h2<;>cases h2
    | Qk _=>split at h2<;>cases h2
    | val _=>split at h2<;>cases h2
    | own xs=>exact⟨xs,hs⟩
  let⟨Ub,RM⟩:=RM;let⟨a,vs,e1,e2,e3,e5,e4⟩:=S.own i Ub RM;refine⟨.ref a,e1,.inl ⟨rfl,vs,eH.of e2⟩,H,aG ρ,_,.refl _,S.all,Y0,λvk Hk HFk Gk rk=>?_⟩;simp?[Rep] at rk;subst rk;refine lQ (S.step Gk.hh) h1 λv H' Qd s1 S' sh r=>?_;let⟨a',TC,f1,f2,f3,f5,f4⟩:=S'.own i ds h2;rw[e1] at f1;cases f1;split at h3
  ·rename_i hz;cases h3;have ok:=hz.1;unfold m4 at ok;rw[zF] at ok;refine⟨a,TC,k,v,rfl,rfl,f2,by rw[f4.length];exact hz.2,yO ok.1,yO ok.2,q σ _ Qd (S'.mut h2 e1 f2 ?_) s1⟩;unfold IK;rw[f4.length];exact (f4.take _).append (au.cons r (f4.drop _))
  ·cases h3
def cX:D->D->Option (List D)
 | .list xs,.list ys=>small (xs++ys)
 | _,_=>none
def CO(K:W.Frag):R2:=λx y H Q=>∃a b xs ys,x=.ref a/\y=.ref b/\eH K H a xs/\eH K H b ys/\xs.length+ys.length<=sizeLine/\∀p,H p=none->Q (.ref p) (upd H p (.lst (xs++ys)))
def uW:eN X (binaryOp .Add) (CO X.K):=by
 intro pins s σ H x y v u Q I rx ry h;let⟨a,b,xs,ys,rfl,rfl,ha,hb,hz,q⟩:=h;cases rx;cases ry;let⟨its,r1,p1,_⟩:=I.list ha;let⟨QS,r2,p2,_⟩:=I.list hb;let⟨⟨cls,dd,data,sl⟩,ho,hc,n,hd⟩:=id p1.isList;let⟨⟨UL,Uz,data2,Si⟩,SO,Tt,n2,hd2⟩:=id p2.isList;simp only at hc hd Tt hd2;subst hc hd Tt hd2;refine vT ⟨_,ho,rfl⟩ ⟨_,SO,rfl⟩ noFill_list_add seq_list_add PySem.F.slot_list_add PySem.F.entry_list_add (PySem.F.args_list_add_2 _ _) (list_addW a b its.toArray QS.toArray n n2 dd Uz sl Si (by rw[zH,zH,<- r1.length,<- r2.length];exact hz)) ⟨ho,SO,?_⟩;have e:its.toArray++QS.toArray=(its++QS).toArray:=by simp
 rw[e];exact⟨.ref s.heap.objs.size,_,I.S6 (t':=s.toks) (r1.append r2) (by rw[zN];exact hz),rfl,q _ I.fresh⟩
def iG(g:D->D->Option (List D))(f1 f2:Env->Option D):Env->Option (List D):=λρ=>(f1 ρ).bind λx=>(f2 ρ).bind λy=>g x y
def Je(ha:DE X a fa)(hb:DE X b fb):DF X (.BinOp a .Add b pos) (iG cX fa fb):=aD (BP uW ha hb) λσ H Q ⟨HF,ρ,d,sm,eo,hf,q⟩=>by
 let⟨x,hx,hf⟩:=bs hf;let⟨y,hy,hg⟩:=bs hf;refine⟨HF,ρ,x,sm,eo,hx,λv1 H1 Qf g1 r1=>⟨Qf,ρ,y,g1.fh,eo.mono g1.ff,hy,λv2 H2 Qp g2 r2=>?_⟩⟩;have r1:=r1.mono g2.ff;cases x<;>cases y<;>simp?[cX] at hg<;>try cases hg
 rename_i xs ys;let⟨rfl,hz⟩:=dB hg;simp?[Rep] at r1 r2;let⟨a,vs,rfl,ha,ra⟩:=r1;let⟨b,us,rfl,hb,rb⟩:=r2;have G:=g1.trans g2;exact⟨a,b,vs,us,rfl,rfl,g2.fh.seq ha,g2.fh.seq hb,by rw[ra.length,rb.length,<- zN];exact hz,λp hp=>q p _ _ Qp (G.trans (.own G.fh hp)) (G.hh.free hp) (G.fh.free hp) aF (ra.append rb)⟩
def boolsOf:List D->Option (List Bool)
 | []=>some []
 | .bool b::r=>(boolsOf r).map (b::·)
 | _::_=>none
def gy:∀ {ds:List D}{bs:List Bool},boolsOf ds=some bs->ds=bs.map PyData.bool
 | [],bs,h=>by cases h;rfl
 | d::r,bs,h=>by
  cases d<;>simp?[boolsOf] at h<;>try cases h
  let⟨XY,h1,rfl⟩:=af h;rw[gy h1];rfl
def cR{K:W.Frag}:∀ {bs:List Bool}{vs:List V},au K H (bs.map PyData.bool) vs->vs=bs.map V.bl
 | [],vs,h=>h.nil_inv
 | b::bs,vs,h=>by
  let⟨v,r,rfl,a,c⟩:=h.cons_inv;simp?[Rep] at a;rw[a,cR c];rfl
def i3:∀ {bs:List Bool}{us:List Value},aA (bs.map V.bl) us->us=bs.map Value.bool
 | [],us,h=>by cases h;rfl
 | b::bs,us,h=>by
  cases h with
  | cons r rr=>cases r;rw[i3 rr];rfl
def range_all(bs:List Bool):(List.range bs.length).all (λi=>bs.getD i false)=bs.all id:=by
 induction bs with
 | nil=>rfl
 | cons b bs ih=>rw[zL,kZ,xQ,List.all_map,xQ];simpa [vW] using qY (b&&·) ih
def range_any(bs:List Bool):(List.range bs.length).any (λi=>bs.getD i false)=bs.any id:=by
 induction bs with
 | nil=>rfl
 | cons b bs ih=>rw[zL,kZ,kP,List.any_map,kP];simpa [vW] using qY (b||·) ih
def wU(hc:X.calm=true):cS X (.builtin "all") (λxs H Q=>∃ (a:Addr) (bs:List Bool),xs=[.ref a]/\eH X.K H a (bs.map V.bl)/\Q (.bl (bs.all id)) H):=by
 intro pins s σ H xs us Q I r h;let⟨a,bs,rfl,hq,q⟩:=h;let⟨u,rfl,rx⟩:=vals1 r;cases rx;let⟨its,rv,pl,hz⟩:=I.list hq;have hv:=i3 rv;subst hv;have hh:X.A.in1.handled=none:=I.ok.hd hc;refine call_all_walk (qH pl.isList ?_);let⟨o,ho,QX,n,hd⟩:=pl.isList;have QT:a≠s.heap.objs.size:=yP (zX ho);refine⟨_,_,_,_,_,_,λi=>bs.getD i false,rfl,Walks.list hh s.heap.objs.size a QT (bs.map Value.bool).toArray,⟨⟨_,zW _ rfl,rfl,rfl⟩,pl.isList.push _⟩,λi v s' Q' E' hP hQ=>?_,λh' tk kp=>?_⟩
 ·have e:v=Value.bool (bs.getD i false):=by
   have hP:(bs.map Value.bool).toArray[i]?=some v:=hP;rw[vH,zO] at hP;let⟨b,hb,rfl⟩:=af hP;rw[zG,hb];rfl
  subst e;exact xU hQ
 ·refine⟨.bl (bs.all id),H,?_,?_,q⟩
  ·exact I.kept (t':=tk) λb o' e=>kp b o' (by simp;exact yP (zX e)) (zT _ e)
  ·show Value.bool _=Value.bool _;have:=range_all bs;simp?[zH,zD];rw[this]
def j4:List D->Option D:=λds=>(oneOf ds).bind λd=>match d with
 | .list es=>(boolsOf es).map λbs=>.bool (bs.all id)
 | _=>none
def KM(hc:X.calm=true)(B:mv X "all" (.builtin "all"))(ha:DA X [e] fs)(he:starEach [e] X.env=(false,eval e X.env)::starEach [] X.env:=by rfl):DE X (.Call (.Name "all" p) [e] [] pos) (aW j4 fs) :=
 gf (wU hc) (by
  intro HF H ds vs d Q sm r hg q;let⟨x,hx,hg⟩:=bs hg;rw[fg hx] at r;cases x<;>try cases hg
  let⟨bs,hb,rfl⟩:=af hg;let⟨v,r',rfl,a,b⟩:=r.cons_inv;rw[b.nil_inv];simp?[Rep] at a;let⟨p,us,rfl,h,rr⟩:=a;rw[gy hb] at rr;have:=cR rr;subst this;exact⟨p,bs,rfl,sm.seq h,q _ H HF (.refl sm) (by simp[Rep])⟩) B ha (by decide) (by decide) he rfl
abbrev lexLt:=HT.lexLt
def eL:∀a:List Int,lexLt a a=false
 | []=>rfl
 | x::a=>by show HT.lexLt (x::a) (x::a)=false;rw[HT.dw,yJ rfl];exact eL a
def dC:∀ {a b c:List Int},lexLt a b=true->lexLt b c=true->lexLt a c=true
 | [],[],_,h,_=>by cases h
 | [],_::_,[],_,h=>by cases h
 | [],_::_,_::_,_,_=>rfl
 | _::_,[],_,h,_=>by cases h
 | _::_,_::_,[],_,h=>by cases h
 | x::a,y::b,z::c,h1,h2=>by
  have h1:HT.lexLt (x::a) (y::b)=true:=h1;have h2:HT.lexLt (y::b) (z::c)=true:=h2;show HT.lexLt (x::a) (z::c)=true;rw[HT.dw] at h1 h2 ⊢;by_cases e1:x=y
  ·rw[yJ e1] at h1;by_cases e2:y=z
   ·rw[yJ e2] at h2;rw[yJ (e1.trans e2)];exact dC h1 h2
   ·rw[yL e2] at h2;rw[yL (by lia)];have:=yO h2;exact zZ (by lia)
  ·rw[yL e1] at h1;have q1:=yO h1;by_cases e2:y=z
   ·rw[yL (by lia)];exact zZ (by lia)
   ·rw[yL e2] at h2;have q2:=yO h2;rw[yL (by lia)];exact zZ (by lia)
def fV:∀ {a b:List Int},lexLt a b=false->lexLt b a=false->a=b
 | [],[],_,_=>rfl
 | [],_::_,h,_=>by cases h
 | _::_,[],_,h=>by cases h
 | x::a,y::b,h1,h2=>by
  have h1:HT.lexLt (x::a) (y::b)=false:=h1;have h2:HT.lexLt (y::b) (x::a)=false:=h2;rw[HT.dw] at h1 h2;by_cases e:x=y
  ·rw[yJ e] at h1;rw[yJ e.symm] at h2;rw[e,fV h1 h2]
  ·rw[yL e] at h1;rw[yL (λz=>e z.symm)] at h2;have:=of_decide_eq_false h1;have:=of_decide_eq_false h2;lia
def lexLe(a b:List Int):Bool:=!lexLt b a
def uR(a b c:List Int)(h1:lexLe a b=true)(h2:lexLe b c=true):lexLe a c=true:=by
 unfold lexLe at *;rw[yN] at *;cases e:lexLt c a with
 | false=>rfl
 | true =>
  cases e1:lexLt a b with
  | true=>rw[dC e e1] at h2;cases h2
  | false =>
   have:=fV e1 h1;subst this;rw[e] at h2;cases h2
def uT(a b:List Int):(lexLe a b||lexLe b a)=true:=by
 unfold lexLe;cases e1:lexLt b a with
 | false=>rfl
 | true =>
  cases e2:lexLt a b with
  | false=>rfl
  | true=>have:=dC e1 e2;rw[eL] at this;cases this
def n8(h1:lexLe a b=true)(h2:lexLe b a=true):a=b:=by
 unfold lexLe at *;rw[yN] at *;exact fV h2 h1
def pC{α:Type}{le:α->α->Bool}(U6:∀a b,le a b=true->le b a=true->a=b):∀ {l m:List α},l.Perm m->l.Pairwise (λa b=>le a b=true)->m.Pairwise (λa b=>le a b=true)->l=m
 | [],m,p,_,_=>p.nil_eq
 | a::l,[],p,_,_=>by have:=p.length_eq;simp at this
 | a::l,b::m,p,h1,h2=>by
  let⟨Y1,Y2⟩:=List.pairwise_cons.mp h1;let⟨Y3,Y4⟩:=List.pairwise_cons.mp h2;have e:a=b:=by
   have ha:a∈b::m:=p.mem_iff.mp zE;have hb:b∈a::l:=p.mem_iff.mpr zE;rcases List.mem_cons.mp ha with e|ha
   ·exact e
   ·rcases List.mem_cons.mp hb with e|hb
    ·exact e.symm
    ·exact U6 a b (Y1 b hb) (Y3 a ha)
  subst e;rw[pC U6 (List.perm_cons a |>.mp p) Y2 Y4]
def oO(l:List (List Int)):List (List Int):=l.mergeSort lexLe
def Ds(l:List (List Int)):(oO l).Perm l:=List.mergeSort_perm l lexLe
def Jl(l:List (List Int)):(oO l).Pairwise (λa b=>lexLe a b=true):=List.pairwise_mergeSort uR uT l
def DB{l:List (List Int)}(p:l.Perm m)(h:l.Pairwise (λa b=>lexLe a b=true)):l=oO m:=pC (λ_ _=>n8) (p.trans (Ds m).symm) h (Jl m)
def rk(l:List (List Int))(a:List Int):Int:=((l.countP λb=>lexLt b a:Nat):Int)
def Iu(ha:a∈l):lexLt a b=decide (rk l a < rk l b):=by
 unfold rk;have mono:∀ {a b:List Int},lexLt a b=true->(l.countP λc=>lexLt c a)<=l.countP λc=>lexLt c b:=λ{a b} h=>List.countP_mono_left λc _ hc=>dC hc h;have strict:∀ {a b:List Int}(ha:a∈l),lexLt a b=true->(l.countP λc=>lexLt c a) < l.countP λc=>lexLt c b:=λ{a b} ha h=>by
  have key:∀m:List (List Int),a∈m->(m.countP λc=>lexLt c a) < m.countP λc=>lexLt c b:=λm hm=>by
   induction m with
   | nil=>cases hm
   | cons x m ih =>
    rw[List.countP_cons,List.countP_cons];have mo:(m.countP λc=>lexLt c a)<=m.countP λc=>lexLt c b:=List.countP_mono_left λc _ hc=>dC hc h;rcases List.mem_cons.mp hm with e|hm
    ·subst e;rw[eL,h];simp?[yM,qM,xF];lia
    ·have:=ih hm;by_cases hx:lexLt x a=true
     ·rw[hx,dC hx h];simp?[xF];lia
     ·have U3:lexLt x a=false:=by simpa using hx
      rw[U3];simp?[yM,qM];split<;>lia
  exact key l ha
 cases e:lexLt a b with
 | true=>exact (zZ (by have:=strict ha e;lia)).symm
 | false =>
  refine (zY ?_).symm;cases e2:lexLt b a with
  | true=>have:=mono e2;lia
  | false=>rw[fV e e2];lia
section
variable {prog:Program}{w:World}{A:Around}{E:Value->Shared->Prop}{s:Shared}
def uk:∀ {us ws:List Value}{ns ms:List Int}(i:Nat),IntsAre us ns->IntsAre ws ms->Q (lexLt ns ms) s->W.KatLex prog w A true (decide (ns.length < ms.length)) Q (us.zip ws) i s
 | [],[],_,_,i,.nil,.nil,h=>h
 | [],_::_,_,_,i,.nil,.cons _ _ _,h=>by
  show Q (decide (0 < _+1)) s;rw[zZ (Nat.succ_pos _)];exact h
 | _::_,[],_,_,i,.cons _ _ _,.nil,h=>by
  show Q (decide (_+1 < 0)) s;rw[zY (vC _)];exact h
 | _::us,_::ws,_,_,i,.cons n t r1,.cons m u r2,h=>by
  have h:Q (HT.lexLt (n::_) (m::_)) s:=h;rw[HT.dw] at h;refine W.kat_cons (SeqAt.EqAt.int_int n t m u prog w _ _ ?_);cases e:(n == m) with
  | true =>
   have e':n=m:=eq_of_beq e;rw[yJ e'] at h;refine W.kat_yes ?_;have:=uk (i+1) r1 r2 h;simp?[zL,Nat.add_lt_add_iff_right];exact this
  | false =>
   have e':¬ n=m:=λq=>by rw[q] at e;simp at e
   rw[yL e'] at h;refine W.kat_no ?_;by_cases hi:(true&&i == 0)=true
   ·rw[hi];exact oneLt_int h
   ·have R6:(true&&i == 0)=false:=by simpa using hi
    rw[R6];refine W.kat_one _ _ (lt_int ?_);exact h
end
def ao(ns:List Int):D:=.tuple (ns.map PyData.int)
def intsOf:List D->Option (List Int)
 | []=>some []
 | .int n::r=>(intsOf r).map (n::·)
 | _::_=>none
def cW:∀ {ds:List D}{ns:List Int},intsOf ds=some ns->ds=ns.map PyData.int
 | [],ns,h=>by cases h;rfl
 | d::r,ns,h=>by
  cases d<;>simp?[intsOf] at h<;>try cases h
  let⟨ns',h1,rfl⟩:=af h;rw[cW h1];rfl
def eR:∀ns:List Int,intsOf (ns.map PyData.int)=some ns
 | []=>rfl
 | n::ns=>by simp[intsOf,eR ns]
def yq:D->Option (List Int)|.tuple ds=>(intsOf ds).bind λns=>if ns=[] then none else some ns|_=>none
def vm(h:yq d=some ns):d=ao ns/\ns≠[]:=by
 cases d<;>try cases h
 let⟨ms,h1,h2⟩:=bs h;split at h2
 ·cases h2
 ·rename_i hn;cases h2;rw[cW h1];exact⟨rfl,hn⟩
def Bj(h:ns≠[]):yq (ao ns)=some ns:=by
 unfold ao yq;simp?[eR,zA];rw[yL h]
def rowsOf:List D->Option (List (List Int))
 | []=>some []
 | d::r=>(yq d).bind λns=>(rowsOf r).map (ns::·)
def mw:∀ {ds:List D}{Qi:List (List Int)},rowsOf ds=some Qi->ds=Qi.map ao/\∀ns∈Qi,ns≠[]
 | [],Qi,h=>by cases h;exact⟨rfl,λ_ z=>by cases z⟩
 | d::r,Qi,h=>by
  let⟨ns,h1,h⟩:=bs h;let⟨rest,h2,rfl⟩:=af h;let⟨e,hn⟩:=vm h1;let⟨e2,WA⟩:=mw h2;refine⟨by rw[e,e2];rfl,λm hm=>?_⟩;rcases List.mem_cons.mp hm with q|q
  ·subst q;exact hn
  ·exact WA m q
def nc:∀ {Qi:List (List Int)},(∀ns∈Qi,ns≠[])->rowsOf (Qi.map ao)=some Qi
 | [],_=>rfl
 | ns::r,h=>by
  simp?[zI,rowsOf,Bj (h ns zE),zA,nc λm hm=>h m (zC _ hm),zB]
structure rF(h:Heap)(v:Value)(ns:List Int):Prop where
 ex:∃ (a:Addr) (o:Obj) (its:Array Value) (n:Nat),v=.ref a/\h.get? a=some o/\o.cls=.type "tuple"/\o.data=.seq its n/\IntsAre its.toList ns
def rF.keep(r:rF h v ns)(k:∀b o,h.get? b=some o->h'.get? b=some o):rF h' v ns:=let ⟨a,o,its,n,e,e1,e2,e3,e4⟩:=r.ex;⟨a,o,its,n,e,k _ _ e1,e2,e3,e4⟩
def uM:∀ {vs:List Value}{Qi:List (List Int)},Paired (rF h) vs Qi->(∀ns∈Qi,ns≠[])->∃fs:List Value,W.KatTups h vs fs/\fs.length=vs.length/\∀f∈fs,∃n t,f=Value.int n t
 | _,_,.nil,_=>⟨[],trivial,rfl,λ_ z=>by cases z⟩
 | _,_,.cons (a:=v) (b:=ns) r p,hn=>by
  let⟨fs,h1,h2,h3⟩:=uM p λm hm=>hn m (zC _ hm);let⟨a,o,its,n,rfl,e1,e2,e3,e4⟩:=r.ex;cases hits:its.toList with
  | nil =>
   rw[hits] at e4;cases e4;exact absurd rfl (hn [] zE)
  | cons f rest =>
   rw[hits] at e4;cases e4 with
   | cons m t e5 =>
    have h0:its[0]?=some (.int m t):=by
     have:its.toList[0]?=some (Value.int m t):=by rw[hits];rfl
     simpa using this
    exact⟨.int m t::fs,W.KatTups.cons e1 e2 e3 h0 h1,by simp[h2],λg hg=>by
     rcases List.mem_cons.mp hg with q|q
     ·exact⟨m,t,q⟩
     ·exact h3 g q⟩
def je:∀ {l:List α}{m:List β}{i:Nat},Paired R l m->i < l.length->R (l.getD i d) (m.getD i d')
 | _,_,i,.nil,h=>by simp at h
 | _,_,0,.cons r _,_=>r
 | _,_,i+1,.cons _ p,h=>by simpa using je (i:=i) (d:=d) (d':=d') p (by simpa using h)
def uD(hl:Sy.S9 s.heap l vs)(hp:Paired (rF s.heap) vs Qi)(hn:∀ns∈Qi,ns≠[])(TH:vs.length < 64)
  (h:∀ (h':Heap) (D:Addr) (c:Nat),(∀b o,s.heap.get? b=some o->h'.get? b=some o)->s.heap.objs.size<=D->h'.get? D=some (seqObj "list" (Sy.QJ (λi=>rk Qi (Qi.getD i [])) vs).toArray c)->Q (.ref D) { s with heap:=h' }) :
  wpAny (model prog w) A (call (.builtin "sorted") [.ref l]) Q E s:=by
 refine Sy.Ta hl TH (λi=>rk Qi (Qi.getD i [])) (tuples' true) (λh2 h' kp Q' q=>?_) (λh2 h' kp i j C hi hj q=>?_) h
 ·have Td:Paired (rF h') vs Qi:=Paired.TV hp λ_ _ r=>r.keep kp;let⟨fs,t,hlen,hf⟩:=uM Td hn;refine W.kat_kind (s:={ s with heap:=h' }) (T:=.type "int") t (by lia) (λv hv=>?_) (by decide) q;let⟨n,t,rfl⟩:=hf v hv;exact W.Looks.of_pure rfl
 ·have ri:=(je (d:=Value.none) (d':=[]) hp hi).keep kp;have rj:=(je (d:=Value.none) (d':=[]) hp hj).keep kp;have hlen:=hp.length;let⟨a,o,its,n,ea,e1,e2,e3,e4⟩:=ri.ex;let⟨b,o',its',n',eb,f1,f2,f3,f4⟩:=rj.ex;unfold W.kas_ask;rw[ea,eb];have U7:Qi.getD i []∈Qi:=by
   rw[zG,zK (by lia)];exact xY _
  have q':C (lexLt (Qi.getD i []) (Qi.getD j [])) { s with heap:=h' }:=by
   rw[Iu U7];exact q
  refine W.kat_lt (s:={ s with heap:=h' }) e1 e3 f1 f3 ?_;have:=uk (prog:=prog) (w:=w) (A:=A.in1.in1) (s:={ s with heap:=h' }) 0 e4 f4 q';have l1:its.size=(Qi.getD i []).length:=by have:=IntsAre.length e4;simpa using this
  have l2:its'.size=(Qi.getD j []).length:=by have:=IntsAre.length f4;simpa using this
  rw[l1,l2];exact this
def BB(z:Nat->Int)(l:List α)(d:α):List α:=if l.length < 2 then l else (SP.run (SP.dW z) (W.kas_sort l.length)).toList.map λi=>l.getD i d
def iw(l:List α)(d:α):(List.range l.length).map (λi=>l.getD i d)=l:=by
 apply jD
 ·simp
 ·intro i h1 h2;simp[h2]
def sS(z:Nat->Int)(l:List α)(d:α):(BB z l d).Perm l:=by
 unfold BB;split
 ·exact List.Perm.refl _
 ·rename_i h;have:=((SP.iH (z:=z) (n:=l.length) (by lia)).1).map λi=>l.getD i d;rw[iw] at this;exact this
def Gm(Qi:List (List Int)):BB (λi=>rk Qi (Qi.getD i [])) Qi []=oO Qi:=by
 refine DB (sS _ _ _) ?_;unfold BB;split
 ·rename_i h
  match Qi,h with
  | [],_=>exact List.Pairwise.nil
  | [a],_=>exact List.pairwise_singleton _ _
 ·rename_i h;let⟨hp,hs⟩:=SP.iH (z:=λi=>rk Qi (Qi.getD i [])) (n:=Qi.length) (by lia);rw[jA] at hs ⊢;refine hs.imp_of_mem λ{i j} hi hj Qj=>?_;have SR:j < Qi.length:=by have:=hp.mem_iff.mp hj;simpa using this
  unfold lexLe;rw[Iu (l:=Qi) (a:=Qi.getD j []) (by rw[zG,zK SR];exact xY _)];simp?[yN,yZ];lia
def Eg{K:W.Frag}(z:Nat->Int)(r:au K HF ds vs):au K HF (BB z ds .none) (BB z vs .Qb):=by
 unfold BB;rw[r.length];split
 ·exact r
 ·rename_i h;let⟨hp,_⟩:=SP.iH (z:=z) (n:=ds.length) (by lia);have key:∀l:List Nat,(∀i∈l,i < ds.length)->au K HF (l.map λi=>ds.getD i .none) (l.map λi=>vs.getD i .Qb):=λl=>by
   induction l with
   | nil=>exactλ_=>au.nil
   | cons i l ih =>
    intro hl;have hi:=hl i zE;let⟨v,e1,e2⟩:=r.getD (zK hi);refine au.cons ?_ (ih λj hj=>hl j (zC _ hj));dsimp only;rw[zG,zG,e1,zK hi];exact e2
  exact key _ λi hi=>by have:=hp.mem_iff.mp hi;simpa using this
def BZ(z:Nat->Int)(r:aA vs us):aA (BB z vs .Qb) (Sy.QJ z us):=by
 unfold BB Sy.QJ;rw[r.length];split
 ·exact r
 ·rename_i h;let⟨hp,_⟩:=SP.iH (z:=z) (n:=us.length) (by lia);have key:∀l:List Nat,(∀i∈l,i < vs.length)->aA (l.map λi=>vs.getD i .Qb) (l.map λi=>us.getD i Value.none):=λl=>by
   induction l with
   | nil=>exactλ_=>.nil
   | cons i l ih =>
    intro hl;have hi:=hl i zE;let⟨v,e1,e2⟩:=r.get (zK hi);refine .cons ?_ (ih λj hj=>hl j (zC _ hj));dsimp only;rw[zG,zG,e1,zK hi];exact e2
  exact key _ λi hi=>by have:=hp.mem_iff.mp hi;rw[r.length];simpa using this
def GH(z:Nat->Int)(Qi:List (List Int)):BB z (Qi.map ao) .none=(BB z Qi []).map ao:=by
 unfold BB;rw[zD];split
 ·rfl
 ·rename_i h;rw[zM];let⟨hp,_⟩:=SP.iH (z:=z) (n:=Qi.length) (by lia);refine yH λi hi=>?_;have R6:i < Qi.length:=by have:=hp.mem_iff.mp hi;simpa using this
  simp[R6]
def Ah(I:Inv X pins σ H s)(sm:aK HF H):∀ {Qi:List (List Int)}{vs:List V}{us:List Value},au X.K HF (Qi.map ao) vs->aA vs us->Paired (rF s.heap) us Qi
 | [],_,_,h,r=>by rw[h.nil_inv] at r;cases r;exact .nil
 | ns::Qi,_,_,h,r=>by
  let⟨v,vr,rfl,a,b⟩:=h.cons_inv;cases r with
  | cons r rr =>
   refine .cons ?_ (Ah I sm b rr);unfold ao at a;simp?[Rep] at a;let⟨p,ws,rfl,hs,UN⟩:=a;cases r;let⟨its,rv,⟨o,ho,hc,n,hd⟩,_⟩:=I.tuple (ax sm hs);have:ws=ns.map V.int:=by
    have key:∀ {ns:List Int}{ws:List V},au X.K HF (ns.map PyData.int) ws->ws=ns.map V.int:=λ{ns}=>by
     induction ns with
     | nil=>exactλh=>h.nil_inv
     | cons n ns ih =>
      intro ws h;let⟨v,r,rfl,a,b⟩:=h.cons_inv;simp?[Rep] at a;rw[a,ih b];rfl
    exact key UN
   subst this;exact⟨p,o,its.toArray,n,rfl,ho,hc,hd,intsAre_of rv⟩
def lb:cS X (.builtin "sorted") (λxs H Q=>∃ (HF:Hp) (a:Addr) (vs:List V) (Qi:List (List Int)),xs=[.ref a]/\aK HF H/\(eH X.K HF a vs\/eE X.K HF a vs)/\au X.K HF (Qi.map ao) vs/\(∀ns∈Qi,ns≠[])/\Qi.length < 64 /\
  ∀ (Dn:Addr) (us:List V),H Dn=none->au X.K HF ((oO Qi).map ao) us->Q (.ref Dn) (upd H Dn (.lst us))):=by
 intro pins s σ H xs us Q I r h;let⟨HF,a,vs,Qi,rfl,sm,hq,rr,hn,TH,q⟩:=h;let⟨u,rfl,rx⟩:=vals1 r;cases rx;obtain⟨its,rv,pl,hz⟩:∃its:List Value,aA vs its/\Sy.S9 s.heap a its/\vs.length<=sizeLine:=by
  rcases hq with hq|hq
  ·let⟨its,rv,pl,hz⟩:=I.list (sm.seq hq);let⟨o,ho,hc,n,hd⟩:=pl.isList;exact⟨its,rv,⟨o,"list",n,.inl rfl,ho,hc,hd⟩,hz⟩
  ·let⟨its,rv,pl,hz⟩:=I.tuple (ax sm hq);let⟨o,ho,hc,n,hd⟩:=(show s.heap.IsTuple a its.toArray from pl)
   exact⟨its,rv,⟨o,"tuple",n,.inr rfl,ho,hc,hd⟩,hz⟩
 have WE:=rr.length;rw[zD] at WE;refine uD pl (Ah I sm rr rv) hn (by have:=rv.length;lia) λh' Dn c kp hD e=>?_;have hv:=BZ (λi=>rk Qi (Qi.getD i [])) rv;have hr:=Eg (λi=>rk Qi (Qi.getD i [])) rr;rw[GH,Gm] at hr;refine⟨.ref Dn,_,I.laid (t':=s.toks) (o:=.lst (BB (λi=>rk Qi (Qi.getD i [])) vs .Qb)) kp hD ⟨?_,_,c,hv,e⟩,rfl,q Dn _ (I.Qh.fresh hD) hr⟩;rw[(sS _ _ _).length_eq];exact hz
def fy:List D->Option (List D):=λds=>(oneOf ds).bind λd=>match d with
 | .list es=>(rowsOf es).bind λQi=>if Qi.length < 64 then some ((oO Qi).map ao) else none
 | .tuple es=>(rowsOf es).bind λQi=>if Qi.length < 64 then some ((oO Qi).map ao) else none
 | _=>none
def BD(B:mv X "sorted" (.builtin "sorted"))(ha:DA X [e] fs)(he:starEach [e] X.env=(false,eval e X.env)::starEach [] X.env:=by rfl):DF X (.Call (.Name "sorted" p) [e] [] pos) (lG fy fs) :=
 EE lb (by
  intro HF H ds vs d Q sm r hg q;let⟨x,hx,hg⟩:=bs hg;rw[fg hx] at r;have key:∀ (b:Bool) (es:List D),au X.K HF [if b then .tuple es else .list es] vs->((rowsOf es).bind λQi=>if Qi.length < 64 then some ((oO Qi).map ao) else none)=some d->(∃ (HF:Hp) (a:Addr) (us:List V) (Qi:List (List Int)),vs=[.ref a]/\aK HF H/\(eH X.K HF a us\/eE X.K HF a us)/\au X.K HF (Qi.map ao) us/\(∀ns∈Qi,ns≠[])/\Qi.length < 64/\∀ (Dn:Addr) (ws:List V),H Dn=none->au X.K HF ((oO Qi).map ao) ws->Q (.ref Dn) (upd H Dn (.lst ws))):=λb es r hg=>by
   let⟨Qi,hb,hg⟩:=bs hg;split at hg
   ·rename_i TH;cases hg;let⟨v,r',rfl,a,e0⟩:=r.cons_inv;rw[e0.nil_inv];let⟨e1,e2⟩:=mw hb;obtain⟨p,us,rfl,h,rr⟩:∃p us,v=.ref p/\(eH X.K HF p us\/eE X.K HF p us)/\au X.K HF es us:=by
     cases b
     ·simp?[yM,qM,Rep] at a;let⟨p,us,rfl,h,rr⟩:=a;exact⟨p,us,rfl,.inl h,rr⟩
     ·simp?[xF,Rep] at a;let⟨p,us,rfl,h,rr⟩:=a;exact⟨p,us,rfl,.inr h,rr⟩
    rw[e1] at rr;exact⟨HF,p,us,Qi,rfl,sm,h,rr,e2,TH,λDn ws hD hr=>q Dn ws _ HF (.own sm hD) hD (sm.free hD) aF hr⟩
   ·cases hg
  cases x<;>try cases hg
  ·exact key false _ r hg
  ·exact key true _ r hg) B ha (by decide) (by decide) he rfl
end Dl
namespace En
open PySem PyProof.Rows
open AutoSeq1 (wpAny_loadPart')
def RO(hj:s.heap.IsTupleIter j t k)(ht:s.heap.IsTuple t its)(hv:its[k]?=some v)
  (hQ:∀g,g.IsTupleIter j t (k+1)->Heap.SameBut j s.heap g->Q v { s with heap:=g }):wpAny (model prog w) A (Builtin.SmallTypes.nextOf (.ref j)) Q E s:=by
 let⟨oj,gj,cj,dj⟩:=id hj;let⟨ot,gt,_,nt,dt⟩:=ht;unfold Builtin.SmallTypes.nextOf;refine zU (qA (name:=Str.ofString "__next__") hj.typeIs jN (qS jN hj.typeIs F.entry_tuple_iterator_next ?_ (F.args_tuple_iterator_next_1 _)));refine zU (m:=field (.ref j) 0) (qQ gj dj (x:=.ref t) rfl ?_);show wpAny _ _ (if (Value.ref t == Value.none)=true then _ else _) _ _ s;rw[yL (show ¬ ((Value.ref t == Value.none)=true) by exact yX)];refine zU (m:=field (.ref j) 1) (qQ gj dj (x:=.int k 0) rfl ?_);refine zU (m:=seqItems? (.ref t)) (jX gt dt ?_);simp?[yF,hv];refine zU (wpAny_setField gj dj (by simp) (zV ⟨v,rfl,zV (hQ _ ⟨_,Heap.get?_update_self _ gj (Obj.isFreed_of_fields (Obj.data_mapFields dj _)),(Obj.cls_mapFields ..).trans cj,?_⟩ (Heap.SameBut.update ..))⟩));rw[Obj.data_mapFields dj];simp[rawInt]
def R7{Q:Value->Shared->Prop}(hh:A.handled=none)(hj:s.heap.IsTupleIter j t k)(ht:s.heap.IsTuple t its)(hv:its[k]?=none)
  (hE:∀g x,Heap.ExtBut j s.heap g->(∃o,g.get? x=some o/\o.cls=.type "StopIteration")->E (.ref x) { s with heap:=g }):wpAny (model prog w) A (Builtin.SmallTypes.nextOf (.ref j)) Q E s:=by
 let⟨oj,gj,cj,dj⟩:=id hj;let⟨ot,gt,_,nt,dt⟩:=ht;unfold Builtin.SmallTypes.nextOf;refine zU (qA (name:=Str.ofString "__next__") hj.typeIs jN (qS jN hj.typeIs F.entry_tuple_iterator_next ?_ (F.args_tuple_iterator_next_1 _)));refine zU (m:=field (.ref j) 0) (qQ gj dj (x:=.ref t) rfl ?_);show wpAny _ _ (if (Value.ref t == Value.none)=true then _ else _) _ _ s;rw[yL (show ¬ ((Value.ref t == Value.none)=true) by exact yX)];refine zU (m:=field (.ref j) 1) (qQ gj dj (x:=.int k 0) rfl ?_);refine zU (m:=seqItems? (.ref t)) (jX gt dt ?_);simp?[yF,hv];refine zU (wpAny_rule (zU (wpAny_setField gj dj (by simp) (zU (m:=newExc (.type "StopIteration") []) ?_))));simp?[newExc,newTuple];refine zU (qJ (zU (m:=firstArgMember _ _) (wpAny_of_eq (a:=Value.none) (by first|rfl|(simp?[firstArgMember];rfl)) ?_)) (by size_fits));refine qJ ?_ (by size_fits);simp?[raiseNew];refine zU (wpAny_handled ?_)
 first|rw[show A.in1.handled=none from hh]|rw[hh]
 exact zU (zV (wpAny_throw (hE _ _ (((Heap.SameBut.update ..).extBut.push _).push _) ⟨_,zW _ rfl,rfl⟩)))
def Ry(t:Addr)(its:Array Value)(n:Nat)(dd:Option Addr)(sl:Array (Option Value)) :
  Meets (Builtin.«enumerate.__new__» ⟨[.type "enumerate",.ref t],[]⟩) (λ_ R s=>s.heap.get? t=some { cls:=.type "tuple",dict:=dd,data:=.seq its n,slots:=sl } /\
   R (.ok (.ret (.ref (s.heap.push { cls:=.type "tuple_iterator",data:=.fields #[.ref t,.int 0 0] }).objs.size)))
    { s with heap:=(s.heap.push { cls:=.type "tuple_iterator",data:=.fields #[.ref t,.int 0 0] }).push { cls:=.type "enumerate",data:=.fields #[.none,.bool false,.ref s.heap.objs.size,rawInt 0,.none,.none] } }) :=
 .of_wp λprog w A R s h=>by
  let⟨hp,g,d,tk,os⟩:=s;let⟨hl,h⟩:=h;have Te:=sub_enumerate;have hL:Heap.IsTuple (Shared.heap ⟨hp,g,d,tk,os⟩) t its:=⟨_,hl,rfl,n,rfl⟩
  wp_walk using wpAny_loadPart' hl
  refine wpAny_stack_any λst=>zV ?_;split
  ·rename_i c _ _ _ _ _;cases (c == Value.type "enumerate")
   ·wp_walk using wpAny_loadPart' hl,xP hL
    exact⟨_,rfl,h⟩
   ·wp_walk using wpAny_loadPart' hl,xP hL
    exact⟨_,rfl,h⟩
  ·wp_walk using wpAny_loadPart' hl,xP hL
   exact⟨_,rfl,h⟩
def RP(ht:s.heap.IsTuple t its)
  (h:∀h',IsEnum h' (s.heap.objs.size+1) s.heap.objs.size 0 .none->h'.IsTupleIter s.heap.objs.size t 0->h'.objs.size=s.heap.objs.size+2->(∀b o,s.heap.get? b=some o->h'.get? b=some o)->Q (.ref (s.heap.objs.size+1)) { s with heap:=h' }) :
  wpAny (model prog w) A (call (.type "enumerate") [.ref t]) Q E s:=by
 let⟨⟨c,Y5,dt,sl⟩,hl,hc,n,hd⟩:=ht;simp only at hc hd;subst hc hd;refine callType_new F.called_enumerate (by decide) (F.typeCall_enumerate_1 _) (F.newCall_enumerate_1 _) (λobj=>F.args_object_init_2 obj _) F.entry_enumerate_new (Ry t its n Y5 sl) ⟨hl,?_⟩;have hz:(s.heap.push { cls:=.type "tuple_iterator",data:=.fields #[.ref t,.int 0 0] }).objs.size=s.heap.objs.size+1:=by rw[xH]
 have he:=zW (s.heap.push { cls:=.type "tuple_iterator",data:=.fields #[.ref t,.int 0 0] }) (o:={ cls:=.type "enumerate",data:=.fields #[.none,.bool false,.ref s.heap.objs.size,rawInt 0,.none,.none] }) rfl;show _/\_;rw[hz] at he ⊢;refine⟨⟨_,he,rfl⟩,h _ he ⟨_,zT _ (zW _ rfl),rfl,rfl⟩ ?_ λb o x=>zT _ (zT _ x)⟩;show (Heap.push _ _).objs.size=_;rw[xH,hz]
end En
namespace Dl
open PySem L2 PySem.Spec PyProof.Rows
section
variable {ch:List Addr}
def uq(I:Inv X pins σ H s)(Rp:∀b∈ch,fP X pins H b)(k:∀b o,b∉ch->s.heap.get? b=some o->h'.get? b=some o){T:Addr}{vals:List Value}{xs:List V}(hT:s.heap.objs.size<=T)(ht:mz h' T vals.toArray)
  (rv:aA xs vals) (hz:xs.length<=sizeLine):Inv X pins σ (upd H T (.tup xs)) { s with heap:=h',toks:=t' }:=by
 have nT:H T=none:=I.Qh.fresh hT;have ne:∀b o,s.heap.get? b=some o->b≠T:=λb o e=>yP (zP (zX e) hT);have ne2:∀b o,H b=some o->b≠T:=λb o e=>aJ e nT;have R3:∀b o,H b=some o->b∉ch:=λb o e z=>by rw[(Rp b z).1] at e;cases e
 refine I.step (g':=s.gens) (d':=s.drawn) (ch:=ch) (λb hb=>?_) (λb o _ _ hc e _=>k b o hc e) (λb o _ _ hc e _=>⟨o.slots,k b o hc e⟩) (λb o _ e n=>by rw[aE (ne b o e)];exact n)
  (λb o hc e=>⟨o,k b o hc e⟩) (λb ys e=>by rw[aE (ne2 b _ e)];exact e) (λb o u e=>by rw[aE (ne2 b _ e)];exact e) (.kept (λb u ⟨q,z⟩ e=>k b u (R3 b _ z) e) λb u e _=>by rw[aE (ne2 b _ e)];exact e) (λm hm=>?_) (λb u e=>?_) I.bare
 ·let⟨f0,f1,f2,f3,f4,f5⟩:=Rp b hb;exact⟨f3,f1,f4,f5⟩
 ·let⟨o,es,ep,ho,r⟩:=hm;exact⟨o,es,ep,k _ o (λz=>(Rp _ z).2.1 rfl) ho,r⟩
 ·by_cases hb:b=T
  ·subst hb;rw[aF] at e;cases e;exact⟨hz,vals,rv,ht⟩
  ·rw[aE hb] at e;refine (I.Qh b u e).QG (λc v hc q=>k c v ?_ q) (λ_ q=>?_) λc v q _=>?_
   ·rcases hc with z|z
    ·rw[z];exact R3 b u e
    ·exact R3 c _ z
   all_goals first
    | (rw[aE (ne2 _ _ q)];exact q)
    | exact q
def M6(I:Inv X pins σ H s)(hf:fP X pins H b)(h:X.K.lookup a=some o):a≠b:=by
 rintro rfl;have hb:=I.ok.mod.VB a o h;rcases hf.2.2.2.1 with z|z
 ·exact I.ok.Ru a o hb z
 ·exact absurd (zP (zX (I.ok.bs a o hb).1) z) (qC _)
def Kd(I:Inv X pins σ H s)(hf:fP X pins H b)(h:eH X.K H a xs):a≠b:=by
 rcases h with (h|⟨o,h⟩)|⟨o,its,n,h,_⟩
 ·exact aJ h hf.1
 ·exact aJ h hf.1
 ·exact M6 I hf h
def Jc(I:Inv X pins σ H s)(hf:fP X pins H b)(h:eE X.K H a xs):a≠b:=by
 rcases h with (h|⟨o,h⟩)|⟨o,its,n,h,_⟩
 ·exact aJ h hf.1
 ·exact aJ h hf.1
 ·exact M6 I hf h
end
def Om(sq:Hp->List V->Prop):It:=⟨λi H=>∃xs x,sq H xs/\xs[i]?=some x,λi H v H'=>∃T y,v=.ref T/\H T=none/\H'=upd H T (.tup [.int (i:Nat),y])/\∀xs,sq H xs->xs[i]?=some y,λi H=>∃xs,sq H xs/\xs.length<=i⟩
def cY(k:Nat):List D->List D
 | []=>[]
 | d::ds=>.tuple [.int (k:Nat),d]::cY (k+1) ds
def qp:∀ {ds:List D}{k i:Nat}{d:D},(cY k ds)[i]?=some d->∃x,ds[i]?=some x/\d=.tuple [.int ((k+i:Nat):Int),x]
 | [],k,i,d,h=>by simp[cY] at h
 | x::ds,k,0,d,h=>by simp[cY] at h;exact⟨x,rfl,h.symm⟩
 | x::ds,k,i+1,d,h=>by
  simp?[cY,yW] at h;let⟨y,h1,h2⟩:=qp h;refine⟨y,by simpa using h1,?_⟩;rw[h2,show k+1+i=k+(i+1) by lia]
def iB:∀ (ds:List D) (k:Nat),(cY k ds).length=ds.length
 | [],k=>rfl
 | x::ds,k=>by simp[cY,iB ds (k+1)]
def Az{K:W.Frag}(h:sq HF vs)(mo:∀H H',aK H H'->sq H vs->sq H' vs)(r:au K HF ds vs):nz K (Om sq) HF (cY 0 ds) where
 go:=λi d Qy Qn e s1 s2=>by
  let⟨x,hx,rfl⟩:=qp e;rw[qZ];let⟨v,hv,rv⟩:=r.getD hx;have q:=mo _ _ s2 (mo _ _ s1 h);refine⟨⟨vs,v,q,hv⟩,λy Rx ⟨T,z,e1,hT,e2,hy⟩=>?_⟩;have:=hy vs q;rw[hv] at this;cases this;subst e1 e2;exact⟨_,.new s2 hT,cQ (s2.free hT) (au.cons (by simp[Rep]) (au.cons (rv.mono s1) au.nil))⟩
 stop:=λQy Qn s1 s2=>⟨vs,mo _ _ s2 (mo _ _ s1 h),by rw[iB,r.length];exact yK _⟩
def N6(Ud Ue:Hp->List V->Prop):It:=⟨λi H=>∃xs ys x y,Ud H xs/\Ue H ys/\xs[i]?=some x/\ys[i]?=some y,
 λi H v H'=>∃T x y,v=.ref T/\H T=none/\H'=upd H T (.tup [x,y])/\(∀xs,Ud H xs->xs[i]?=some x)/\∀ys,Ue H ys->ys[i]?=some y,
 λi H=>∃xs ys,Ud H xs/\Ue H ys/\(xs.length<=i\/ys.length<=i)⟩
section
variable {ch:List Addr}
def AI(I:Inv X pins σ H s)(Rp:∀b∈ch,fP X pins H b)(k:∀b o,b∉ch->s.heap.get? b=some o->h'.get? b=some o):Inv X pins σ H { s with heap:=h',toks:=t' }:=by
 have R3:∀b o,H b=some o->b∉ch:=λb o e z=>by rw[(Rp b z).1] at e;cases e
 refine I.step (g':=s.gens) (d':=s.drawn) (ch:=ch) (λb hb=>?_) (λb o _ _ hc e _=>k b o hc e) (λb o _ _ hc e _=>⟨o.slots,k b o hc e⟩) (λb o _ e n=>n)
  (λb o hc e=>⟨o,k b o hc e⟩) (λb ys e=>e) (λb o u e=>e) (.kept (λb u ⟨q,z⟩ e=>k b u (R3 b _ z) e) λb u e _=>e) (λm hm=>?_) (λb u e=>?_) I.bare
 ·let⟨f0,f1,f2,f3,f4,f5⟩:=Rp b hb;exact⟨f3,f1,f4,f5⟩
 ·let⟨o,es,ep,ho,r⟩:=hm;exact⟨o,es,ep,k _ o (λz=>(Rp _ z).2.1 rfl) ho,r⟩
 ·refine (I.Qh b u e).QG (λc v hc q=>k c v ?_ q) (λ_ q=>q) λc v q _=>q;rcases hc with z|z
  ·rw[z];exact R3 b u e
  ·exact R3 c _ z
end
structure Px(z TI TO i1 i2:Addr):Prop where
 a1:TI≠z
 a2:TO≠z
 a3:i1≠z
 a4:i2≠z
 a5:TI≠TO
 a6:TI≠i1
 a7:TI≠i2
 a8:TO≠i1
 a9:TO≠i2
 a0:i1≠i2
def hZ:List D->List D->List D
 | x::xs,y::ys=>.tuple [x,y]::hZ xs ys
 | _,_=>[]
def nI:∀ {xs ys:List D}{i:Nat}{d:D},(hZ xs ys)[i]?=some d->∃x y,xs[i]?=some x/\ys[i]?=some y/\d=.tuple [x,y]
 | [],_,i,d,h=>by simp[hZ] at h
 | _::_,[],i,d,h=>by simp[hZ] at h
 | x::xs,y::ys,0,d,h=>by simp[hZ] at h;exact⟨x,y,rfl,rfl,h.symm⟩
 | x::xs,y::ys,i+1,d,h=>by
  simp?[hZ,yW] at h;let⟨a,b,h1,h2,h3⟩:=nI h;exact⟨a,b,by simpa using h1,by simpa using h2,h3⟩
def kl:∀ (xs ys:List D),(hZ xs ys).length=min xs.length ys.length
 | [],_=>by simp[hZ]
 | _::_,[]=>by simp[hZ]
 | x::xs,y::ys=>by simp[hZ,kl xs ys]
def Ct{K:W.Frag}(h1:Ud HF vs)(VO:∀H H',aK H H'->Ud H vs->Ud H' vs)(h2:Ue HF us)(VP:∀H H',aK H H'->Ue H us->Ue H' us)(r1:au K HF xs vs)(r2:au K HF ys us) :
  nz K (N6 Ud Ue) HF (hZ xs ys) where
 go:=λi d Qy Qn e s1 s2=>by
  let⟨x,y,hx,hy,rfl⟩:=nI e;let⟨v,hv,rv⟩:=r1.getD hx;let⟨u,hu,ru⟩:=r2.getD hy;have q1:=VO _ _ s2 (VO _ _ s1 h1);have q2:=VP _ _ s2 (VP _ _ s1 h2);refine⟨⟨vs,us,v,u,q1,q2,hv,hu⟩,λw Rx ⟨T,a,b,e1,hT,e2,ha,hb⟩=>?_⟩;have ea:=ha vs q1;have eb:=hb us q2;rw[hv] at ea;rw[hu] at eb;cases ea;cases eb;subst e1 e2;exact⟨_,.new s2 hT,cQ (s2.free hT) (au.cons (rv.mono s1) (au.cons (ru.mono s1) au.nil))⟩
 stop:=λQy Qn s1 s2=>⟨vs,us,VO _ _ s2 (VO _ _ s1 h1),VP _ _ s2 (VP _ _ s1 h2),by rw[kl,r1.length,r2.length];lia⟩
def cut(xs:List α)(lo hi:Option Int):List α:=(xs.drop (HT.bp xs.length 0 lo)).take (HT.bp xs.length xs.length hi - HT.bp xs.length 0 lo)
def mS(xs:List α)(lo hi:Option Int):(cut xs lo hi).length<=xs.length:=by
 unfold cut;rw[jS,qF];lia
def nM{K:W.Frag}(r:au K H ds vs)(lo hi:Option Int):au K H (cut ds lo hi) (cut vs lo hi):=by
 unfold cut;rw[r.length];exact (r.drop _).take _
section
def Aq{vl:Value}{lo:Option Int}(ht:IsTup s.heap t its)(hs:s.heap.IsSliceOf sl vl vu .none)(pl:IsPart vl lo)(pu:IsPart vu hi)
  (hw:HT.bp its.size 0 lo=0/\HT.bp its.size its.size hi=its.size) (h:Q (.ref t) s):wpAny (model prog w) A (getItem (.ref t) (.ref sl)) Q E s:=by
 let⟨os,RV,UA,So⟩:=id hs;have UM:s.TypeIs (.ref sl) "slice":=⟨os,RV,UA⟩
 unfold getItem
 try with_reducible refine xV ?_
 first|refine zU (zV ?_)|skip
 refine zU (wpAny_sequenceKey ht.typeIs (by decide) (zU (qA (name:=Str.ofString "__getitem__") ht.typeIs jB (qS jB ht.typeIs entry_tuple_getitem ?_ (args_tuple_getitem _ _)))));refine zU (m:=Builtin.Tuple.tupleItemsOf (.ref t)) (tupleItemsOf_ ht (zU (vS UM ?_)));rw[yJ (by decide)];refine zU (HT.gg hs pl pu ?_);show wpAny _ _ (if (((HT.bp its.size 0 lo:Nat):Int) == 0&&(1:Int) == 1&&(HT.bp its.size its.size hi - HT.bp its.size 0 lo) == its.size)=true then _ else _) _ _ s;rw[hw.1,hw.2,yJ (by simp)];unfold Builtin.Tuple.tupleIsExact;refine zU (zU (vS ht.typeIs (zV ?_)));rw[yJ (by decide)]
 first
  | exact zU (wpAny_rule (zV ⟨_,rfl,zV h⟩))
  | exact zU (wpAny_rule (zU (zV (zV ⟨_,rfl,zV h⟩))))
def Oa(K:W.Frag):V->Option Int->Option Int->Hp->VK->Prop:=λx lo hi H Q=>∃a xs,x=.ref a/\eE K H a xs/\(cut xs lo hi=xs->Q (.ref a) H)/\∀p,H p=none->Q (.ref p) (upd H p (.tup (cut xs lo hi)))
def Lv:GE X (Oa X.K):=by
 intro pins s σ H x v vl vu lo hi sl Q I rx hs pl pu h;let⟨a,xs,rfl,hx,q1,q2⟩:=h;by_cases hw:HT.bp xs.length 0 lo=0/\HT.bp xs.length xs.length hi=xs.length
 ·cases rx;let⟨its,r,ht,hz⟩:=I.tuple hx;have hlen:its.toArray.size=xs.length:=by rw[zH];exact r.length.symm
  refine⟨"tuple",_,PyProof.Rows.slot_tuple_getitem.lookup,ht.typeIs,Aq ht hs pl pu (by rw[hlen];exact hw) ⟨.ref a,H,I,rfl,q1 ?_⟩⟩;unfold cut;rw[hw.1,hw.2,List.drop_zero,Nat.sub_zero,List.take_length]
 ·exact J1 pins s σ H (.ref a) v vl vu lo hi sl Q I rx hs pl pu ⟨a,xs,rfl,hx,hw,q2⟩
def N8(K:W.Frag):V->Option Int->Option Int->Hp->VK->Prop:=λx lo hi H Q=>∃a xs,x=.ref a/\eH K H a xs/\∀p,H p=none->Q (.ref p) (upd H p (.lst (cut xs lo hi)))
def vd(lo hi:Option Int)(n:Nat):sliceBounds lo hi none n=(((HT.bp n 0 lo:Nat):Int),((HT.bp n n hi:Nat):Int),1):=by
 have h1:(1:Int) > 0:=by lia
 refine Prod.ext ?_ (Prod.ext ?_ rfl)
 ·cases lo with
  | none=>simp[sliceBounds,HT.bp]
  | some x =>
   by_cases h:x < 0
   ·simp?[sliceBounds,HT.bp,kE,h1,xF,yJ h];lia
   ·simp?[sliceBounds,HT.bp,kE,h1,xF,yL h];lia
 ·cases hi with
  | none=>simp[sliceBounds,HT.bp]
  | some x =>
   by_cases h:x < 0
   ·simp?[sliceBounds,HT.bp,kE,h1,xF,yJ h];lia
   ·simp?[sliceBounds,HT.bp,kE,h1,xF,yL h];lia
def FG:GE X (N8 X.K):=by
 intro pins s σ H x v vl vu lo hi sl Q I rx hs pl pu h;let⟨a,xs,rfl,hx,q⟩:=h;cases rx;let⟨its,r,p,hz⟩:=I.list hx;have hlen:=r.length;refine⟨"list",_,slot_list_getitem.lookup,p.isList.typeIs,wpAny_getItem_list_slice p.isList hs pl pu .none (by simp) ?_ (by rw[zH];lia)⟩;rw[W.kmk_pick_nat its.toArray (vd lo hi its.toArray.size)];have e:((its.toArray.toList.drop (HT.bp its.toArray.size 0 lo)).take (HT.bp its.toArray.size its.toArray.size hi - HT.bp its.toArray.size 0 lo))=cut its lo hi:=by unfold cut;simp
 rw[e];have rc:aA (cut xs lo hi) (cut its lo hi):=by unfold cut;rw[hlen];exact (r.drop _).take _
 exact⟨.ref s.heap.objs.size,_,I.S6 (t':=s.toks) rc (yC (mS xs lo hi) hz),rfl,q _ I.fresh⟩
def PM(K:W.Frag)(f:Env->Option (Option Int)):TO:=λσ H Q=>∃HF ρ o,aK HF H/\cy K HF ρ σ/\f ρ=some o/\∀H' Qd,bQ HF H Qd H'->Q o H'
def DO(X:Cx)(e:Option Expr)(f:Env->Option (Option Int)):Prop:=PO X e (PM X.K f)
def aN:Env->Option (Option Int):=λ_=>some none
def gI:D->Option Int|.int i=>some i|_=>none
def bX(f:Env->Option D):Env->Option (Option Int):=λρ=>(f ρ).bind λd=>(gI d).map some
def GL:DO X none aN:=λpins s σ H Q I ⟨HF,ρ,o,sm,eo,hf,q⟩=>GC pins s σ H Q I (by cases hf;exact q H HF (.refl sm))
def Fv(h:DE X e f):DO X (some e) (bX f):=λpins s σ H Q I ⟨HF,ρ,o,sm,eo,hf,q⟩=>se h pins s σ H Q I (by
 let⟨d,hd,hf⟩:=bs hf;let⟨i,hi,rfl⟩:=af hf;cases d<;>try cases hi
 exact⟨HF,ρ,_,sm,eo,hd,λv H1 Qf g1 r1=>⟨_,by simpa only[Rep] using r1,q H1 Qf g1⟩⟩)
variable {lo hi:Option Expr}{fl fh:Env->Option (Option Int)}
def aP(g:D->Option Int->Option Int->Option β)(fa:Env->Option D)(fl fh:Env->Option (Option Int)):Env->Option β:=λρ=>(fa ρ).bind λx=>(fl ρ).bind λl=>(fh ρ).bind λh=>g x l h
end
def nP:∀ {l:List α},(∀x∈l,f x=g x)->l.filterMap f=l.filterMap g
 | [],_=>rfl
 | x::l,h=>by rw[jC,jC,h x zE,nP λy hy=>h y (zC _ hy)]
def sV(xs:List Value):((List.range xs.length).filterMap λ(k:Nat)=>xs.toArray[(((xs.length:Nat):Int) - 1+(k:Int) * (-1)).toNat]?)=xs.reverse:=by
 have e:∀k∈List.range xs.length,xs.toArray[(((xs.length:Nat):Int) - 1+(k:Int) * (-1)).toNat]?=xs.reverse[k]?:=λk hk=>by
  have UR:k < xs.length:=by simpa using hk
  have:(((xs.length:Nat):Int) - 1+(k:Int) * (-1)).toNat=xs.length - 1 - k:=by lia
  rw[this,vH,List.getElem?_reverse UR]
 rw[nP e];have:=xs.length_reverse;apply List.ext_getElem?;intro i;have key:∀ (l:List Value),(List.range l.length).filterMap (λ(k:Nat)=>l[k]?)=l:=λl=>by
  induction l with
  | nil=>rfl
  | cons x l ih =>
   rw[zL,kZ,jC];simp?[xO];rw[List.filterMap_map]
   congr 1
 have k2:=key xs.reverse;rw[List.length_reverse] at k2;rw[k2]
def Gg{prog:Program}{w:World}{A:Around}{E:Value->Shared->Prop}{s:Shared}{t sl:Addr}{its:List Value}{tk:Tok}{Q:Value->Shared->Prop}(ht:IsTup s.heap t its.toArray)(hs:s.heap.IsSliceOf sl .none .none (.int (-1) tk))
  (hz:its.length<=sizeLine) (h:Q (.ref s.heap.objs.size) { s with heap:=s.heap.push { cls:=.type "tuple",data:=.seq its.reverse.toArray } }):wpAny (model prog w) A (getItem (.ref t) (.ref sl)) Q E s:=by
 let⟨os,RV,UA,So⟩:=id hs;have UM:s.TypeIs (.ref sl) "slice":=⟨os,RV,UA⟩
 unfold getItem
 try with_reducible refine xV ?_
 first|refine zU (zV ?_)|skip
 refine zU (wpAny_sequenceKey ht.typeIs (by decide) (zU (qA (name:=Str.ofString "__getitem__") ht.typeIs jB (qS jB ht.typeIs entry_tuple_getitem ?_ (args_tuple_getitem _ _)))));refine zU (m:=Builtin.Tuple.tupleItemsOf (.ref t)) (tupleItemsOf_ ht (zU (vS UM ?_)));rw[yJ (by decide)];have XZ:∀ {R:Int×Int×Nat->Shared->Prop},R (((its.length:Nat):Int) - 1,-1,its.length) s->wpAny (model prog w) A.in1 (Builtin.Slice.sliceApplied (.ref sl) (pure ((its.toArray.size:Nat):Int))) R E s:=λ{R} hR=>by
  unfold Builtin.Slice.sliceApplied Builtin.Slice.sliceFields;refine zU (zU (qQ RV So (x:=.none) rfl (zU (qQ RV So (x:=.none) rfl (zU (qQ RV So (x:=.int (-1) tk) rfl (zV ?_)))))));refine zU (slicePart_int ?_);show wpAny _ _ (if ((-1:Int) == 0)=true then _ else _) _ _ s;rw[yL (by decide)];refine zU (slicePart_none (zU (slicePart_none (zU (zV ?_)))));have e1:Builtin.Slice.sliceAdjust none none (-1) ((its.toArray.size:Nat):Int)=(((its.length:Nat):Int) - 1,-1):=by simp[Builtin.Slice.sliceAdjust]
  show wpAny _ _ (match Builtin.Slice.sliceAdjust none none (-1) ((its.toArray.size:Nat):Int) with|(lo,hi)=>pure (lo,(-1:Int),Builtin.Slice.slicePlaces lo hi (-1))) _ _ s;rw[e1];have e2:Builtin.Slice.slicePlaces (((its.length:Nat):Int) - 1) (-1) (-1)=its.length:=by
   unfold Builtin.Slice.slicePlaces;rw[yL (by decide)];simp?[Int.neg_neg,Int.ediv_one];split<;>lia
  show wpAny _ _ (pure (((its.length:Nat):Int) - 1,(-1:Int),Builtin.Slice.slicePlaces (((its.length:Nat):Int) - 1) (-1) (-1))) _ _ s;rw[e2];exact zV hR
 first
  | refine zU (XZ ?_)
  | refine zU (wpAny_of_in1 (XZ ?_))
 show wpAny _ _ (if ((((its.length:Nat):Int) - 1) == 0&&(-1:Int) == 1&&its.length == its.toArray.size)=true then _ else _) _ _ s;rw[yL (by simp),sV];have TJ:sizeOk (.seq its.reverse.toArray):=by show its.reverse.toArray.size<=sizeLine;simpa using hz
 first
  | exact zU (m:=Builtin.Tuple.tupleExact _) (qJ (zV ⟨_,rfl,zV h⟩) TJ)
  | exact zU (m:=Builtin.Tuple.tupleExact _) (qJ (zU (zV (zV ⟨_,rfl,zV h⟩))) TJ)
  | exact zU (zU (m:=Builtin.Tuple.tupleExact _) (qJ (zV (zV ⟨_,rfl,zV h⟩)) TJ))
  | exact zU (zU (m:=Builtin.Tuple.tupleExact _) (qJ (zV ⟨_,rfl,zV h⟩) TJ))
def JG(ha:PE X a ta):PE X (.Subscript a (.Slice none none (some (.UnaryOp .USub (.Constant (.int 1) j p4) p3)) p2) pos) (λσ H Q=>ta σ H λx H1=>∃b xs,x=.ref b/\eE X.K H1 b xs/\∀p,H1 p=none->Q (.ref p) (upd H1 p (.tup xs.reverse))):=by
 intro pins s σ H Q I h;refine Subscript_ (bC (ha pins s σ H _ I h) λv s1 ⟨x,H1,I1,r1,b,xs,e,hq,q⟩=>?_);subst e;cases r1;refine wpAny_Slice ?_;rw[evalPart_none];refine zV (zV ?_);have RG:=se (X:=X) (Ew (op:=.USub) vv (wR (X:=X) (i:=1) (j:=j) (pos:=p4)) (pos:=p3)) pins s1 σ H1 (λo H'=>o=some (-1)/\H'=H1) I1 ⟨1,rfl,-1,rfl,rfl,rfl⟩;refine bC RG λY6 s2 ⟨o,H2,I2,WG,e1,e2⟩=>?_;subst e1 e2;cases WG with
 | int _ tk =>
 let⟨its,r,ht,hz⟩:=I2.tuple hq;have I4:Inv X pins σ H2 { s2 with heap:=s2.heap.push { cls:=.type "slice",data:=.fields #[.none,.none,.int (-1) tk] } }:=I2.kept (t':=s2.toks) λb ob q=>zT _ q;let⟨its',r',Ug,_⟩:=I4.tuple hq;refine tail_any (ops:=[.ref b,.ref s2.heap.objs.size]) Ug.typeIs PyProof.Rows.slot_tuple_getitem.lookup (Gg Ug (Heap.IsSliceOf.new ..) (by rw[<- r'.length];exact hz) ?_) (by with_unfolding_all rfl);have hv:aA xs.reverse its'.reverse:=L2.aA.reverse r';exact⟨.ref _,_,I4.laid (t':=s2.toks) (o:=.tup xs.reverse) (λb ob q=>zT _ q) (yK _) ⟨by rw[List.length_reverse];exact hz,_,hv,mz.new _ _⟩,rfl,q _ I4.fresh⟩
def uU:D->Option D|.tuple ds=>some (.tuple ds.reverse)|_=>none
def f1(g:D->Option D)(f:Env->Option D):Env->Option D:=λρ=>(f ρ).bind g
def IX(ha:DE X a fa):DE X (.Subscript a (.Slice none none (some (.UnaryOp .USub (.Constant (.int 1) j p4) p3)) p2) pos) (f1 uU fa):=aD (JG ha) λσ H Q ⟨HF,ρ,d,sm,eo,hf,q⟩=>by
 let⟨x,hx,hf⟩:=bs hf;refine⟨HF,ρ,x,sm,eo,hx,λv1 H1 Qf g1 r1=>?_⟩;cases x<;>try cases hf
 simp?[Rep] at r1;let⟨b,vs,rfl,hs,rr⟩:=r1;exact⟨b,vs,rfl,ax g1.fh hs,λp hp=>q _ _ _ (g1.trans (.new g1.fh hp)) (cQ (g1.fh.free hp) rr.reverse)⟩
end Dl
namespace HT
open PySem PyProof.Rows
section
open PySem.SeqAt
open PySem.AutoSeq1 (wpAny_loadPart')
open PySem.MeetsSeq PySem.MeetsSeq2 PySem.MeetsSeq3
end
end HT
namespace Dl
open PySem L2 PySem.Spec PyProof.Rows
def kj:D->Option (List Int)|.tuple ds=>intsOf ds|_=>none
def jv(h:kj x=some ns):x=.tuple (ns.map PyData.int):=by
 cases x<;>try cases h
 rename_i xs;have h:intsOf xs=some ns:=h;rw[cW h]
end Dl
namespace En
open PySem PyProof.Rows
open AutoSeq1 (wpAny_loadPart')
def RQ:fillsNumberSlot (.type "tuple") "mul"=pure false:=PySem.fillsNumberSlot_seq (id:="tuple.__mul__") (r:=some (.builtin "tuple.__rmul__")) F.slot_tuple_mul.lookup (by decide +kernel) F.slot_tuple_rmul.lookup (by decide +kernel)
def RR:seqRepeat? (.type "tuple")=pure (some (.builtin "tuple.__mul__")):=by
 unfold seqRepeat?;rw[PySem.seqSlot_of (T:="tuple") (name:="__mul__") (id:="tuple.__mul__") F.slot_tuple_mul.lookup (by decide +kernel),PySem.seqSlot_of (T:="tuple") (name:="__rmul__") (id:="tuple.__rmul__") F.slot_tuple_rmul.lookup (by decide +kernel)];rfl
def SE(a:Int)(t:Tok)(l:Addr)(its:Array Value)(n:Nat)(dd:Option Addr)(sl:Array (Option Value)) :
  Meets (Builtin.«int.__rmul__» ⟨[.int a t,.ref l],[]⟩) (λ_ R s=>s.heap.get? l=some { cls:=.type "tuple",dict:=dd,data:=.seq its n,slots:=sl }/\R (.ok (.ret Value.notImplemented)) s) :=
 .of_wp λprog w A R s h=>by
  let⟨hp,g,d,tk,os⟩:=s;let⟨hl,h⟩:=h
  wp_walk
  exact⟨_,rfl,h⟩
def R8(l:Addr)(its:Array Value)(n:Nat)(dd:Option Addr)(sl:Array (Option Value))(k:Int)(t:Tok)(h1:¬ (decide (k < -(2 ^ 63))||decide (k >= 2 ^ 63))=true)(h2:(its.isEmpty||k == 1)=true) :
  Meets (Builtin.«tuple.__mul__» ⟨[.ref l,.int k t],[]⟩) (λ_ R s=>s.heap.get? l=some { cls:=.type "tuple",dict:=dd,data:=.seq its n,slots:=sl }/\R (.ok (.ret (.ref l))) s) :=
 .of_wp λprog w A R s h=>by
  let⟨hp,g,d,tk,os⟩:=s;let⟨hl,h⟩:=h;have f1:=AutoSeq1.idx_int
  wp_walk using wpAny_loadPart' hl
  rw[yL h1]
  wp_walk using wpAny_loadPart' hl
  exact⟨_,rfl,h⟩
def R9(l:Addr)(its:Array Value)(n:Nat)(dd:Option Addr)(sl:Array (Option Value))(k:Int)(t:Tok)(h1:¬ (decide (k < -(2 ^ 63))||decide (k >= 2 ^ 63))=true)(h2:¬ (its.isEmpty||k == 1)=true)(h3:(decide (k<=0)||its.isEmpty)=true) :
  Meets (Builtin.«tuple.__mul__» ⟨[.ref l,.int k t],[]⟩) (λ_ R s=>s.heap.get? l=some { cls:=.type "tuple",dict:=dd,data:=.seq its n,slots:=sl }/\R (.ok (.ret (.ref s.heap.objs.size))) { s with heap:=s.heap.push { cls:=.type "tuple",data:=.seq #[] } }) :=
 .of_wp λprog w A R s h=>by
  let⟨hp,g,d,tk,os⟩:=s;let⟨hl,h⟩:=h;have f1:=AutoSeq1.idx_int
  wp_walk using wpAny_loadPart' hl
  rw[yL h1]
  wp_walk using wpAny_loadPart' hl
  exact⟨_,rfl,h⟩
def Sa(l:Addr)(its:Array Value)(n:Nat)(dd:Option Addr)(sl:Array (Option Value))(k:Int)(t:Tok)(h1:¬ (decide (k < -(2 ^ 63))||decide (k >= 2 ^ 63))=true)(h2:¬ (its.isEmpty||k == 1)=true)(h3:¬ (decide (k<=0)||its.isEmpty)=true)
  (h4:¬ ((its.size:Nat):Int) * k > (2 ^ 63 - 1) / 8) (h5:¬ Builtin.Tuple.tupleTooMany (((its.size:Nat):Int) * k)=true) (hz:((List.replicate k.toNat its).foldl (·++·) #[]).size<=sizeLine) :
  Meets (Builtin.«tuple.__mul__» ⟨[.ref l,.int k t],[]⟩) (λ_ R s=>s.heap.get? l=some { cls:=.type "tuple",dict:=dd,data:=.seq its n,slots:=sl }/\R (.ok (.ret (.ref s.heap.objs.size))) { s with heap:=s.heap.push { cls:=.type "tuple",data:=.seq ((List.replicate k.toNat its).foldl (·++·) #[]) } }) :=
 .of_wp λprog w A R s h=>by
  let⟨hp,g,d,tk,os⟩:=s;let⟨hl,h⟩:=h;have f1:=AutoSeq1.idx_int
  wp_walk using wpAny_loadPart' hl
  rw[yL h1]
  wp_walk using wpAny_loadPart' hl
  rw[yL h4]
  wp_walk using wpAny_loadPart' hl
  exact⟨_,rfl,h⟩
end En
namespace Dl
open PySem L2 PySem.Spec PyProof.Rows
def IH(K:W.Frag):R2:=λx y H Q=>∃a k xs,x=.ref a/\y=.int k/\eE K H a xs/\-(2 ^ 62)<=k/\k < 2 ^ 62/\xs.length * k.toNat<=sizeLine/\((List.replicate k.toNat xs).flatten=xs->Q (.ref a) H) /\
 ∀p,H p=none->Q (.ref p) (upd H p (.tup (List.replicate k.toNat xs).flatten))
def HS:eN X (binaryOp .Mult) (IH X.K):=by
 intro pins s σ H x y v u Q I rx ry h;let⟨a,k,xs,rfl,rfl,hq,k1,k2,hz,q1,q2⟩:=h;cases rx;let⟨t,rfl⟩:=ry;let⟨its,r,pl,hzx⟩:=I.tuple hq;have hl:=r.length;let⟨⟨cls,dd,data,sl⟩,ho,hc,n,hd⟩:=id pl;simp only at hc hd;subst hc hd;have b1:¬ (decide (k < -(2 ^ 63))||decide (k >= 2 ^ 63))=true:=by
  simp?[qX,zJ];lia
 refine wpAny_binaryOp_repeat_ref (T:="tuple") (U:="int") (by decide) ⟨_,ho,rfl⟩ (λs'=>vO s' k t) En.RQ F.fills_int_mul vG En.RR F.slot_int_index.lookup
  (qT vG (vO s k t) F.entry_int_rmul (F.args_int_rmul_2 _ _) (En.SE k t a its.toArray n dd sl) ⟨ho,rfl,⟨_,ho,rfl⟩,?_⟩)
 have QA:∀m:Nat,List.foldl (λx1 x2=>x1++x2) #[] (List.replicate m its.toArray)=(List.replicate m its).flatten.toArray:=λm=>by
  have:=foldl_rep its m [];rw[xM] at this;exact this
 by_cases h2:(its.toArray.isEmpty||k == 1)=true
 ·refine qT F.slot_tuple_mul ⟨_,ho,rfl⟩ vX (vP _ _) (En.R8 a its.toArray n dd sl k t b1 h2) ⟨ho,⟨.ref a,H,I,rfl,q1 ?_⟩⟩;rw[qX] at h2;rcases h2 with h2|h2
  ·have:xs=[]:=by
    have e:its=[]:=by simpa using h2
    rw[e] at hl;exact List.length_eq_zero_iff.mp hl
   rw[this];simp
  ·have:k=1:=eq_of_beq h2;subst this;simp
 ·by_cases h3:(decide (k<=0)||its.toArray.isEmpty)=true
  ·refine qT F.slot_tuple_mul ⟨_,ho,rfl⟩ vX (vP _ _) (En.R9 a its.toArray n dd sl k t b1 h2 h3) ⟨ho,?_⟩;have Y7:k.toNat=0:=by
    simp?[qX,zJ] at h3 h2;rcases h3 with h3|h3
    ·lia
    ·exact absurd (.inl h3) h2
   have q3:=q2 s.heap.objs.size I.fresh;rw[Y7] at q3;exact⟨.ref s.heap.objs.size,_,I.laid (t':=s.toks) (o:=.tup []) (λb ob q=>zT _ q) (yK _) ⟨xS _,[],.nil,mz.new _ _⟩,rfl,q3⟩
  ·have hm:its.length * k.toNat<=sizeLine:=by rw[<- hl];exact hz
   have Y8:(k.toNat:Int)=k:=by
    simp?[qX,zJ,not_or] at h3;lia
   have Sk:((its.toArray.size:Nat):Int) * k=((its.length * k.toNat:Nat):Int):=by rw[zH,Int.natCast_mul,Y8]
   have hv:=L2.aA.rep r k.toNat;have TK:(List.replicate k.toNat xs).flatten.length<=sizeLine:=by rw[len_rep,Nat.mul_comm];exact hz
   have hs8:(sizeLine:Nat)<=(2 ^ 63 - 1) / 8:=by decide
   have h4:¬ ((its.toArray.size:Nat):Int) * k > (2 ^ 63 - 1) / 8:=by rw[Sk];lia
   have h5:¬ Builtin.Tuple.tupleTooMany (((its.toArray.size:Nat):Int) * k)=true:=by
    unfold Builtin.Tuple.tupleTooMany;rw[Sk];simp?[zJ];lia
   refine qT F.slot_tuple_mul ⟨_,ho,rfl⟩ vX (vP _ _) (En.Sa a its.toArray n dd sl k t b1 h2 h3 h4 h5 (by rw[QA,zH,<- hv.length];exact TK)) ⟨ho,?_⟩;rw[QA];exact⟨.ref s.heap.objs.size,_,I.laid (t':=s.toks) (o:=.tup (List.replicate k.toNat xs).flatten) (λb ob q=>zT _ q) (yK _) ⟨TK,_,hv,mz.new _ _⟩,rfl,q2 _ I.fresh⟩
def uA:D->D->Option D
 | .tuple ds,.int k=>if m4 k=true/\ds.length * k.toNat<=sizeLine then some (.tuple (List.replicate k.toNat ds).flatten) else none
 | _,_=>none
def ki{K:W.Frag}(r:au K HF ds vs):∀k:Nat,au K HF (List.replicate k ds).flatten (List.replicate k vs).flatten
 | 0=>au.nil
 | k+1=>by rw[xC,xC,qK,qK];exact r.append (ki r k)
def CZ{K:W.Frag}:di K (IH K) uA:=by
 intro HF H x y v1 v2 d Q sm r1 r2 hg q;cases x<;>cases y<;>simp?[uA] at hg<;>try cases hg
 split at hg
 ·rename_i xs k hh;cases hg;simp?[Rep] at r1 r2;let⟨a,vs,rfl,ha,ra⟩:=r1;have ok:=hh.1;unfold m4 at ok;rw[zF] at ok;refine⟨a,k,vs,rfl,r2,ax sm ha,yO ok.1,yO ok.2,by rw[ra.length];exact hh.2,λe=>q _ H HF (.refl sm) ?_,λp hp=>q _ _ _ (.new sm hp) (cQ (sm.free hp) (ki ra _))⟩;simp?[Rep];refine⟨a,vs,rfl,ha,?_⟩;have:=ki ra k.toNat;rw[e] at this;exact this
 ·cases hg
end Dl
namespace En
open PySem PyProof.Rows
def Sd(hh:A.handled=none)(hl:s.heap.IsTuple l its)(hi:IntsAre its.toList ns)(hb:its.size+1 < scanBound)
  (h:∀ (h':Heap) (tk:Nat),h'.SetOf (intKind prog w) s.heap.objs.size (λk'=>(firstMet (λi=>ns.getD i 0) its.size).any (· == k')) (firstMet (λi=>ns.getD i 0) its.size).length->(∀b o,b < s.heap.objs.size->s.heap.get? b=some o->h'.get? b=some o)->Q (.ref s.heap.objs.size) { s with heap:=h',toks:=tk }) :
  wpAny (model prog w) A (call (.type "set") [.ref l]) Q E s:=by
 let⟨c,tl,Y9⟩:=F.called_set.mro;have X0:=F.called_set.made;have Te:=F.called_set.sub;refine wpAny_call (codeAny_of_tree ?_);show wpAny _ _ (callAny (.type "set") _) _ _ _;refine zV ⟨vQ _ (by decide +kernel),jW F.entry_type_call ?_⟩;rw[Around.under_plain (weight_type_call_type "set" [.ref l] []) rfl];have h1:=F.called_set.notType;have h2:=F.called_set.canCreate;have hct:=F.typeCall_set_1 (.ref l)
 repeat (any_goals (first|assumption|wp_step))
 refine jO (code_set_new_1 (.ref l) (E:=E) (Q₁:=λobj s1=>∃led:Bool,obj=.ref s.heap.objs.size/\s1={ s with heap:=s.heap.push { cls:=.type "set",dict:=none,data:=.set #[] 0 (.fresh 0 0 led) } }) λled=>⟨led,rfl,rfl⟩) λr s1 hr=>?_;cases r with
 | error e=>exact hr
 | ok fl =>
  cases fl with
  | ret obj =>
   let⟨led,rfl,rfl⟩:=hr;have hS:(s.heap.push { cls:=.type "set",dict:=none,data:=.set #[] 0 (.fresh 0 0 led) }).get? s.heap.objs.size=some { cls:=.type "set",dict:=none,data:=.set #[] 0 (.fresh 0 0 led) }:=by exact zW _ rfl
   have hT:Shared.TypeIs { s with heap:=s.heap.push { cls:=.type "set",dict:=none,data:=.set #[] 0 (.fresh 0 0 led) } } (.ref s.heap.objs.size) "set":=⟨_,hS,rfl⟩
   have hli:=F.called_set.init.lookup;have hbi:=F.called_set.init.bind (.ref s.heap.objs.size)
   repeat (any_goals (first|assumption|wp_step))
   refine jO (vK (R:=wants (λr s2=>r=.none/\∃h' tk,s2={ s with heap:=h',toks:=tk }/\h'.SetOf (intKind prog w) s.heap.objs.size (λk'=>(firstMet (λi=>ns.getD i 0) its.size).any (· == k')) (firstMet (λi=>ns.getD i 0) its.size).length /\
     (∀b o,b < s.heap.objs.size->s.heap.get? b=some o->h'.get? b=some o)) E) F.called_set.init.plain F.entry_set_init (check_set_init_1 hT ?_)) λr2 s2 WH=>?_
   ·let⟨ol,X1,QX,nl,X3⟩:=hl;let⟨Za,U8,X4,Uh⟩:=ol;simp only at QX X3;subst QX X3;have U9:(s.heap.push { cls:=.type "set",dict:=none,data:=.set #[] 0 (.fresh 0 0 led) }).get? l=some { cls:=.type "tuple",dict:=U8,data:=.seq its nl,slots:=Uh }:=zT _ X1;have Zb:=F.sub_tuple_set;have Zc:=F.sub_tuple_frozenset;have QT:(Value.type "tuple" == Value.type "dict")=false:=by decide
    have WE:(s.heap.push { cls:=.type "set",dict:=none,data:=.set #[] 0 (.fresh 0 0 led) }).IsTuple l its:=⟨_,U9,rfl,nl,rfl⟩
    unfold Builtin.«set.__init__» noKeywords Builtin.Frozenset.updateFrom;generalize Zd:pyIter=PI
    wp_walk
    subst Zd;refine xP WE (zU (wpAny_runValue ?_));have X5:l < s.heap.objs.size:=zX X1;have Ze:A.in1.in1.in1.handled=none:=by simp[hh]
    have WJ:l≠(s.heap.push { cls:=.type "set",dict:=none,data:=.set #[] 0 (.fresh 0 0 led) }).objs.size:=by rw[xH];exact yP (jK X5)
    have Zf:s.heap.objs.size∉[(s.heap.push { cls:=.type "set",dict:=none,data:=.set #[] 0 (.fresh 0 0 led) }).objs.size,l]:=by
     rw[xH];simp?[zQ,yE,xR,not_or];exact⟨yP (kF _),jE X5⟩
    have WK:∀ (i:Nat) (v:Value),its[i]?=some v->∃t,v=.int ((λi=>ns.getD i 0) i) t:=λi v hv=>IntsAre.int_at hi i v (by rw[Array.getElem?_toList];exact hv);refine codeAny_set_update_loopS ((Walks.tuple Ze _ l WJ its).toS) s.heap.objs.size Zf (λi=>ns.getD i 0) WK hb (its.size - 0) 0 _ (by lia) (xS _) ⟨⟨_,zW _ rfl,rfl,rfl⟩,?ht⟩ ?hS0 ?hR
    case ht=>exact⟨_,zT _ U9,rfl,nl,rfl⟩
    case hS0 =>
     have WL:((s.heap.push { cls:=.type "set",dict:=none,data:=.set #[] 0 (.fresh 0 0 led) }).push { cls:=.type "tuple_iterator",data:=.fields #[.ref l,.int 0 0] }).get? s.heap.objs.size=some { cls:=.type "set",dict:=none,data:=.set #[] 0 (.fresh 0 0 led) }:=by exact zT _ hS
     exact SetOf_congr ((setObjOf_fresh (knd:=intKind prog w) led).setOf WL (by unfold scanBound;lia)) (λ_=>rfl) rfl
    case hR =>
     intro s' hm WM;let⟨h',g',d',Zg,Wb⟩:=s';have eg:g'=s.gens:=hm.gens;have ed:d'=s.drawn:=hm.drawn;have eo:Wb=s.os:=hm.os;subst eg ed eo;show wpAny _ _ _ _ _ _;refine zV ?_;show wpAny _ _ (ret Value.none) _ _ _;refine zV ⟨rfl,h',Zg,rfl,WM,λb o RS e=>?_⟩;refine hm.heap b o ?_ (zT _ (zT _ e));simp?[zQ,yE,xR,not_or];exact⟨yP RS,by rw[xH];exact yP (jK RS)⟩
   ·cases r2 with
    | error e=>exact WH
    | ok Zh =>
     cases Zh with
     | ret r =>
      let⟨rfl,h',tk,rfl,WM,UR⟩:=WH
      repeat (any_goals (first|assumption|wp_step))
      exact h _ _ WM UR
     | _=>exact WH.elim
  | _=>exact hr.elim
end En
namespace Dl
open PySem L2 PySem.Spec PyProof.Rows
variable {env:PySem.Env}
def many(ns:List Int):Nat:=(firstMet (λi=>ns.getD i 0) ns.length).length
def Bp(hc:X.calm=true):cS X (.type "set") (λxs H Q=>∃ (a:Addr) (ns:List Int),xs=[.ref a]/\eE X.K H a (ns.map V.int)/\ns.length+1 < scanBound/\∀q S,H q=none->Q (.ref q) (upd H q (.set S (many ns)))):=by
 intro pins s σ H xs us Q I r h;let⟨a,ns,rfl,hq,hb,q⟩:=h;let⟨u,rfl,rx⟩:=vals1 r;cases rx;let⟨its,rv,pl,hz⟩:=I.tuple hq;have hi:IntsAre its.toArray.toList ns:=intsAre_of rv;have hlen:its.toArray.size=ns.length:=by have:=rv.length;simpa using this.symm
 refine En.Sd (I.ok.hd hc) (show s.heap.IsTuple a its.toArray from pl) hi (by rw[hlen];exact hb) λh' tk hS hk=>?_;rw[hlen] at hS;exact⟨.ref s.heap.objs.size,_,I.laid (t':=tk) (λb o e=>hk b o (zX e) e) (yK _) (show cU X.prog X.w _ h' _ (.set _ (many ns)) from hS),rfl,q _ _ I.fresh⟩
def Bm:cS X (.builtin "len") (λxs H Q=>∃ (a:Addr) (S:Int->Bool) (n:Nat),xs=[.ref a]/\H a=some (.set S n)/\Q (.int n) H):=by
 intro pins s σ H xs us Q I r h;let⟨a,S,n,rfl,hq,q⟩:=h;let⟨u,rfl,rx⟩:=vals1 r;cases rx;let⟨o,es,ep,t,ho,hex,hd,hel,U7,QL,hf,hn⟩:=(show s.heap.SetOf (intKind X.prog X.w) a S n from I.Qh a _ hq)
 have Su:((es.size:Nat):Int) < 2 ^ 63:=by unfold scanBound at QL;lia
 refine call_len_set ho hex hd hf Su ⟨.int n,H,I.tok _,⟨s.toks+1,by rw[hn]⟩,q⟩
def iI:D->Option D:=λd=>(kj d).bind λns=>if ns.length+1 < scanBound then some (.int (many ns)) else none
def Bq(hc:X.calm=true)(B:mv X "len" (.builtin "len"))(C:mv X "set" (.type "set"))(h:DE X e f)(he:starEach [e] X.env=(false,eval e X.env)::starEach [] X.env:=by rfl) :
  DE X (.Call (.Name "len" p) [.Call (.Name "set" p') [e] [] pos'] [] pos) (f1 iI f) :=
 aD (ko Bm B.gl B.mg B.bt (bS (lS (Bp hc) C.gl C.mg C.bt (bS h dc he) (by decide) (by decide) he rfl) dc) (by decide) (by decide) rfl rfl) λσ H Q ⟨HF,ρ,d,sm,eo,hf,q⟩=>by
  let⟨x,hx,hf⟩:=bs hf;let⟨ns,h1,hf⟩:=bs hf;split at hf
  ·rename_i hb;cases hf;refine⟨HF,ρ,x,sm,eo,hx,λv1 H1 Qf g1 r1=>?_⟩;rw[jv h1] at r1;simp?[Rep] at r1;let⟨a,vs,rfl,hs,rr⟩:=r1;have key:∀ {ns:List Int}{ws:List V},au X.K Qf (ns.map PyData.int) ws->ws=ns.map V.int:=λ{ns}=>by
    induction ns with
    | nil=>exactλh=>h.nil_inv
    | cons n ns ih =>
     intro ws h;let⟨v,r,rfl,a,b⟩:=h.cons_inv;simp?[Rep] at a;rw[a,ih b];rfl
   have:=key rr;subst this;refine⟨a,ns,rfl,ax g1.fh hs,hb,λb S RS=>⟨b,S,_,rfl,aF,q _ _ Qf (g1.trans (.own g1.fh RS)) (by simp[Rep])⟩⟩
  ·cases hf
def iz(val:Nat->Int):∀i,(firstMet val i).length=i↔((List.range i).map val).Nodup
 | 0=>by simp[firstMet]
 | i+1=>by
  have hle:=firstMet_length_le val i;rw[firstMet_succ,step_length,List.range_succ,qV,List.nodup_append];have ha:=firstMet_any val i (val i);have ih:=iz val i;constructor
  ·intro h;by_cases SF:(firstMet val i).any (· == val i)=true
   ·rw[yJ SF] at h;lia
   ·rw[yL SF] at h;refine⟨ih.mp (by lia),by simp,λa hm b hb z=>?_⟩;have RS:b=val i:=by simpa using hb
    subst z RS;rw[ha] at SF;exact SF (List.any_eq_true.mpr ⟨_,hm,by simp⟩)
  ·rintro⟨h1,_,h3⟩;rw[yL ?_]
   ·rw[ih.mpr h1]
   ·rw[ha];intro SF;let⟨x,hx,he⟩:=List.any_eq_true.mp SF;have Va:x=val i:=by simpa using he
    exact h3 x hx (val i) (by simp) Va
def xc(ns:List Int):many ns=ns.length↔ns.Nodup:=by
 unfold many;rw[iz];have:(List.range ns.length).map (λi=>ns.getD i 0)=ns:=iw ns 0;rw[this]
def u3{K:W.Frag}(h:di K r g)(h':di K r' g'):di K (λx y H Q=>r x y H Q\/r' x y H Q) (λx y=>(g x y).or (g' x y)):=by
 intro HF H x y v1 v2 d Q sm r1 r2 hg q;cases e:g x y with
 | some d' =>
  have hg:(g x y).or (g' x y)=some d:=hg;rw[e] at hg;cases hg;exact .inl (h HF H x y v1 v2 d Q sm r1 r2 e q)
 | none =>
  have hg:(g x y).or (g' x y)=some d:=hg;rw[e] at hg;exact .inr (h' HF H x y v1 v2 d Q sm r1 r2 hg q)
def AN{K:W.Frag}:di K (CO K) (λx y=>(cX x y).map PyData.list):=by
 intro HF H x y v1 v2 d Q sm r1 r2 hg q;let⟨zs,Vb,rfl⟩:=af hg;clear hg;cases x<;>cases y<;>simp?[cX] at Vb<;>try cases Vb
 let⟨rfl,hz⟩:=dB Vb;simp?[Rep] at r1 r2;let⟨a,vs,rfl,ha,ra⟩:=r1;let⟨b,us,rfl,hb,rb⟩:=r2;refine⟨a,b,vs,us,rfl,rfl,sm.seq ha,sm.seq hb,by rw[ra.length,rb.length,<- zN];exact hz,λp hp=>q _ _ _ (.new sm hp) ?_⟩;simp?[Rep];exact⟨p,_,rfl,.inl (.inl aF),(ra.append rb).mono (cu (sm.free hp))⟩
def aw:D->D->Option D:=λx y=>((qt (λ_ _=>True) λi j=>.int (i+j)) x y).or ((HE x y).or ((cX x y).map PyData.list))
def Bk.add(C:Bk X N sc k)(ha:DE X a fa)(hb:DE X b fb):DE X (.BinOp a .Add b pos) (f2 aw fa fb):=pZ (Ko.or (AX.or uW)) (u3 B4 (u3 HA AN)) ha hb
def ir:D->D->Option D:=qt (λ_ _=>True) λi j=>.int (i - j)
def Bk.sub(C:Bk X N sc k)(ha:DE X a fa)(hb:DE X b fb):DE X (.BinOp a .Sub b pos) (f2 ir fa fb):=pZ Jf B4 ha hb
def ft:D->D->Option D:=λx y=>((qt oW λi j=>.int (i * j)) x y).or (uA x y)
def Bk.mul(C:Bk X N sc k)(ha:DE X a fa)(hb:DE X b fb):DE X (.BinOp a .Mult b pos) (f2 ft fa fb):=pZ (Jb.or HS) (u3 Dt CZ) ha hb
def la:D->D->Option D:=qt F6 λi j=>.int (i / j)
def Bk.div(C:Bk X N sc k)(ha:DE X a fa)(hb:DE X b fb):DE X (.BinOp a .FloorDiv b pos) (f2 la fa fb):=pZ HL Dt ha hb
def jd:D->D->Option D:=qt (λ_ j=>0 < j) λi j=>.int (i % j)
def Bk.mod(C:Bk X N sc k)(ha:DE X a fa)(hb:DE X b fb):DE X (.BinOp a .Mod b pos) (f2 jd fa fb):=pZ Jv Dt ha hb
def Nn:D->D->Option D:=qt (λ_ _=>True) λi j=>.bool (decide (i < j))
def sQ:D->D->Option D:=qt (λ_ _=>True) λi j=>.bool (decide (i<=j))
def D1:D->D->Option D:=qt (λ_ _=>True) λi j=>.bool (decide (j < i))
def aX:D->D->Option D:=λx y=>(Fh x y).map PyData.bool
def bN:D->D->Option D:=λx y=>(FH x y).map PyData.bool
def JD:D->D->Option D:=λx y=>(Oi x y).map PyData.bool
def Bk.VQ(C:Bk X N sc k):X.A.units+64 < cLine:=C.room.units
def Bk.VR(C:Bk X N sc k):X.A.units+66 < cLine:=by have:=C.room.un;lia
def Bk.lt(C:Bk X N sc k)(ha:DE X a fa)(hb:DE X b fb):DE X (.Compare a [.Lt] [b] pos) (f2 Nn fa fb):=d6 EA iu ha hb (dg _)
def Bk.le(C:Bk X N sc k)(ha:DE X a fa)(hb:DE X b fb):DE X (.Compare a [.LtE] [b] pos) (f2 sQ fa fb):=d6 BU iu ha hb (dg _)
def Bk.gt(C:Bk X N sc k)(ha:DE X a fa)(hb:DE X b fb):DE X (.Compare a [.Gt] [b] pos) (f2 D1 fa fb):=d6 Iq iu ha hb (dg _)
def Bk.eq(C:Bk X N sc k)(ha:DE X a fa)(hb:DE X b fb):DE X (.Compare a [.Eq] [b] pos) (f2 aX fa fb):=d6 (wD C.VQ) d7 ha hb (dg _)
def Bk.ne(C:Bk X N sc k)(ha:DE X a fa)(hb:DE X b fb):DE X (.Compare a [.NotEq] [b] pos) (f2 bN fa fb):=d6 (E5 C.VQ) d7 ha hb (dg _)
def Bk.isin(C:Bk X N sc k)(ha:DE X a fa)(hb:DE X b fb)(hm:behindInMarks .In b=false:=by rfl):DE X (.Compare a [.In] [b] pos) (f2 JD fa fb):=d6 (C9 C.VR) d7 ha hb hm
def Bk.Zi(C:Bk X N sc k)(ha:DE X a fa)(hb:DE X b fb):DT X (.Compare a [.Lt] [b] pos) (fB (f2 Nn fa fb)):=dX EA iu ha hb (dg _)
def Bk.Zj(C:Bk X N sc k)(ha:DE X a fa)(hb:DE X b fb):DT X (.Compare a [.LtE] [b] pos) (fB (f2 sQ fa fb)):=dX BU iu ha hb (dg _)
def Bk.tgt(C:Bk X N sc k)(ha:DE X a fa)(hb:DE X b fb):DT X (.Compare a [.Gt] [b] pos) (fB (f2 D1 fa fb)):=dX Iq iu ha hb (dg _)
def Bk.Zk(C:Bk X N sc k)(ha:DE X a fa)(hb:DE X b fb):DT X (.Compare a [.Eq] [b] pos) (fB (f2 aX fa fb)):=dX (wD C.VQ) d7 ha hb (dg _)
def Bk.Zl(C:Bk X N sc k)(ha:DE X a fa)(hb:DE X b fb):DT X (.Compare a [.NotEq] [b] pos) (fB (f2 bN fa fb)):=dX (E5 C.VQ) d7 ha hb (dg _)
def Bk.Zm(C:Bk X N sc k)(ha:DE X a fa)(hb:DE X b fb)(hm:behindInMarks .In b=false:=by rfl):DT X (.Compare a [.In] [b] pos) (fB (f2 JD fa fb)):=dX (C9 C.VR) d7 ha hb hm
def bf:D->Option Int->Option Int->Option D|.tuple ds,lo,hi=>some (.tuple (cut ds lo hi))|.list ds,lo,hi=>some (.list (cut ds lo hi))|_,_,_=>none
def Bk.cut(C:Bk X N sc k){lo:Option Expr}{fl:Env->Option (Option Int)}(ha:DE X a fa)(hl:DO X lo fl)(hh:DO X hi fh):DE X (.Subscript a (.Slice lo hi none p2) pos) (aP bf fa fl fh):=aD (uo (Lv.or FG) ha hl hh) λσ H Q ⟨HF,ρ,d,sm,eo,hf,q⟩=>by
 let⟨x,hx,hf⟩:=bs hf;let⟨l,hl,hf⟩:=bs hf;let⟨u,hu,hf⟩:=bs hf;refine⟨HF,ρ,x,sm,eo,hx,λv1 H1 Qf g1 r1=>⟨Qf,ρ,l,g1.fh,eo.mono g1.ff,hl,λH2 Qp g2=>⟨Qp,ρ,u,g2.fh,eo.mono (g1.ff.trans g2.ff),hu,λH3 QC g3=>?_⟩⟩⟩;have G:=(g1.trans g2).trans g3;have r3:=r1.mono (g2.ff.trans g3.ff);cases x<;>try cases hf
 ·simp?[Rep] at r3;let⟨b,vs,rfl,hs,rr⟩:=r3;refine .inr ⟨b,vs,rfl,G.fh.seq hs,λp hp=>q _ _ _ (G.trans (.new G.fh hp)) ?_⟩;simp?[Rep];exact⟨p,_,rfl,.inl (.inl aF),(nM rr l u).mono (cu (G.fh.free hp))⟩
 ·simp?[Rep] at r3;let⟨b,vs,rfl,hs,rr⟩:=r3;refine .inl ⟨b,vs,rfl,ax G.fh hs,λe=>q _ H3 QC G ?_,λp hp=>q _ _ _ (G.trans (.new G.fh hp)) (cQ (G.fh.free hp) (nM rr l u))⟩;simp?[Rep];refine⟨b,vs,rfl,hs,?_⟩;have:=nM rr l u;rw[e] at this;exact this
def gW:D->Option D|.int i=>some (.int (-i))|_=>none
def Bk.neg(C:Bk X N sc k)(ha:DE X a fa):DE X (.UnaryOp .USub a pos) (f1 gW fa):=aD (Ew vv ha) λσ H Q ⟨HF,ρ,d,sm,eo,hf,q⟩=>by
 let⟨x,hx,hf⟩:=bs hf;refine⟨HF,ρ,x,sm,eo,hx,λv1 H1 Qf g1 r1=>?_⟩;cases x<;>try cases hf
 exact⟨_,by simpa only[Rep] using r1,q _ H1 Qf g1 (by simp[Rep])⟩
def wV:bootBuiltins "len"=some (.builtin "len"):=by decide +kernel
def oU:bootBuiltins "isinstance"=some (.builtin "isinstance"):=by decide +kernel
def J9:bootBuiltins "int"=some (.type "int"):=by decide +kernel
def E9:bootBuiltins "tuple"=some (.type "tuple"):=by decide +kernel
def Gf:bootBuiltins "list"=some (.type "list"):=by decide +kernel
def uI:bootBuiltins "range"=some (.type "range"):=by decide +kernel
def KO:bootBuiltins "all"=some (.builtin "all"):=by decide +kernel
def JT:bootBuiltins "set"=some (.type "set"):=by decide +kernel
def Bg:bootBuiltins "sorted"=some (.builtin "sorted"):=by decide +kernel
def sJ:bootBuiltins "enumerate"=some (.type "enumerate"):=by decide +kernel
def JF:bootBuiltins "zip"=some (.type "zip"):=by decide +kernel
abbrev cm(f:Env->Option (List D)):Env->Option D:=λρ=>(f ρ).map PyData.list
abbrev bU:List D->Option D:=λds=>(c7 ds).map PyData.tuple
def Bk.Vc(C:Bk X N sc k)(h:decide (sc.names.lookup x=some .local)=true):X.env.scope.names.lookup x=some .local:=by
 rcases C.tb x _ (yO h) with q|⟨q,_⟩
 ·exact q
 ·cases q
def isStar:Expr->Bool|.Starred ..=>true|_=>false
def aQ(h:isStar e=false):starEach (e::es) env=(false,eval e env)::starEach es env:=by
 cases e<;>first|rfl|cases h
def Km(he:DE X e f)(hs:DA X es g)(h:isStar e=false:=by rfl):DA X (e::es) (ae f g):=GK he hs (aQ h)
def oG:swapsWith (.ListComp elt gens scope pos) (some (.Name x py)) line env=pure (env.blockKind == .function&&env.kindOf x == some .local && py.line == pos.line
     &&!(scope.names.any λ(n,k)=>n == x&&(k == .local || k == .cell))):=rfl
def HZ(h:env.scope.kind=.function):env.blockKind=.function:=by unfold PySem.Env.blockKind;rw[h];rfl
def Bk.swap(C:Bk X N sc k)(h:decide (sc.names.lookup x=some .local)=true)(h2:(py.line == pos.line&&!(scope.names.any λ(n,k)=>n == x&&(k == .local || k == .cell)))=true) :
  swapsWith (.ListComp elt gens scope pos) (some (.Name x py)) line X.env=pure true:=by
 rw[oG,HZ C.kd,show X.env.kindOf x=some .local from C.Vc h];rw[Bool.and_assoc,h2];rfl
def Bk.Ui(C:Bk X N sc k)(h:decide (sc.names.lookup x=some .cell)=true) :
  swapsWith (.ListComp elt gens scope pos) (some (.Name x py)) line X.env=pure false:=by
 have q:X.env.kindOf x=some .cell:=by
  rcases C.tb x _ (yO h) with q|⟨q,_⟩
  ·exact q
  ·cases q
 rw[oG,q,HZ C.kd];rfl
section
variable {K:W.Frag}
structure fX(K:W.Frag)(x:Str)(st:Stmt)(ps:List Str):Prop where
 ex:∃ (f:Addr) (fd:FuncData),W.nsIn K mainGlobals x=some (some (.ref f))/\Fg K x x st f fd/\Binds K fd ps []
structure AC(K:W.Frag)(mg:Str->Option Value)(x:Str)(st:Stmt)(ps:List Str):Prop where
 ex:∃ (f:Addr) (fd:FuncData),mg x=some (.ref f)/\Fg K x x st f fd/\Binds K fd ps []
def fX.mg{h:Heap}{mg:Str->Option Value}{st:Stmt}(D:fX K x st ps)(X:K.In h)(G:h.Ns mainGlobals mg):AC K mg x st ps:=by
 let⟨f,fd,a,b,c⟩:=D.ex;exact⟨f,fd,W.mg_of X G a,b,c⟩
def lO(st:Stmt)(ps:List Str):Prop:=∀ (x qual:Str) (kV doc pm:Value) (an:Option Addr) (QI ct:Value) (us:List Value),us.length=ps.length->bindArgs (W.fnOf x qual (fD st) (bh st) (ah st) .none kV doc pm an QI ct) ⟨us,[]⟩=pure (ps.zip us)
def MQ{st:Stmt}{kV:Value}(hb:lO st ps)(a:W.nsIn K mainGlobals x=some (some (.ref f)))(l:K.lookup f=some ⟨oc,od,.func (W.fnOf x x (fD st) (bh st) (ah st) .none kV doc pm an QI ct),Sn⟩)
  (c:W.codeIn K QI x=true) (k:W.keepIn K (.ref f)=true):fX K x st ps:=⟨f,_,a,Em (st:=st) l c k,(Em (st:=st) l c k).binds λkV doc pm an QI ct us h=>hb _ _ kV doc pm an QI ct us h⟩
structure O0(K:W.Frag)(x:Str)(st:Stmt)(ps:List Str):Prop where
 ex:∃ (f:Addr) (fd:FuncData) (c P:Addr),W.nsIn K mainGlobals x=some (some (.ref f))/\Fg K x x st f fd/\Binds K fd ps []/\fd.code=.ref c/\W.codeHdIn K c P=true
structure PV(K:W.Frag)(mg:Str->Option Value)(x:Str)(st:Stmt)(ps:List Str):Prop where
 ex:∃ (f:Addr) (fd:FuncData) (c P:Addr),mg x=some (.ref f)/\Fg K x x st f fd/\Binds K fd ps []/\fd.code=.ref c/\W.codeHdIn K c P=true
def JX{K:W.Frag}(h:(cK.all λx=>match W.nsIn K mainGlobals x with|some none=>true|_=>false)=true):∀x∈cK,W.nsIn K mainGlobals x=some none:=by
 intro x hx;have:=List.all_eq_true.mp h x hx;split at this
 ·assumption
 ·cases this
def vy{K:W.Frag}{H:Hp}{a:Addr}{ns:List Int}{m:List D->Option D}(hS:eH K H a (ns.map V.int))(hT:dv K H)(h:m [.list (ns.map PyData.int)]=some (.bool true)){X:_}:Nb K 1 m [.ref a] H (λv _=>v=.bl true) X:=by
 refine⟨H,[.list (ns.map PyData.int)],.bool true,.refl _,hT,au.cons ?_ au.nil,rfl,h,λv H' Qd G r=>by simpa only[Rep] using r⟩;simp?[Rep];refine⟨a,_,rfl,hS,?_⟩;clear h hS hT
 induction ns with
 | nil=>exact au.nil
 | cons n ns ih=>exact au.cons (by simp[Rep]) ih
end
def NB(h:isStar e=false)(he:DE X e f)(hs:DA X es g):DA X (e::es) (ae f g):=Km he hs h
def BJ:aq->Option Out:=λ_=>none
def L5{st:Stmt}:DS X Qa Qc st BJ:=λpins s σ H E I ⟨HF,ρ,o,S,hg,q⟩=>by cases hg
def nj(f:Env->Option D):aq->Option Out:=λρ=>(f (aG ρ)).map λ_=>.nx ρ
def Fz(hs:swapsWith e none pos.line X.env=pure false)(h:DE X e f):DS X Qa Qc (.Expr e pos) (nj f):=bM (kg h hs) λE σ H ⟨HF,ρ,o,S,hg,q⟩=>by
 let⟨d,h,rfl⟩:=af hg;exact⟨H,aG ρ,d,.refl _,S.all,h,λv H' Qd G r=>q σ H' HF (S.step G.hh) (.refl _)⟩
def LM(t:Env->Option Bool)(gb:aq->Option Out):Nat->aq->Option Out
 | 0,_=>none
 | n+1,ρ=>(t (aG ρ)).bind λb=>if b=true then (gb ρ).bind fun|.nx ρ'=>LM t gb n ρ'|.rt d=>some (.rt d) else some (.nx ρ)
def Dv(n:Nat)(hp:PassesOwn (model X.prog X.w) X.A X.env X.xe)(hc:DT X c t)(hb:u5 X Qa Qc body gb):DS X Qa Qc (.While c body [] pos) (LM t gb n) :=
 bM (EH hp hc hb) λE σ H ⟨HF,ρ,o,S,hg,q⟩=>by
  refine⟨λm σ' H'=>∃Qd ρ',d0 X.K Qa Qc Qd H' ρ' σ'/\aK HF Qd/\LM t gb m ρ'=some o,⟨n,HF,ρ,S,.refl _,hg⟩,?_⟩;rintro m σ' H' ⟨Qd,ρ',S',s',hf⟩;cases m with
  | zero=>cases hf
  | succ m =>
   unfold LM at hf;let⟨b,hb,hf⟩:=bs hf;refine⟨H',aG ρ',b,.refl _,S'.all,hb,λH1 Qf G=>?_⟩;cases b with
   | false =>
    rw[yL yX] at hf ⊢;cases hf;exact q σ' H1 Qd (S'.step G.hh) s'
   | true =>
    rw[yJ rfl] at hf ⊢;let⟨o1,h2,hf⟩:=bs hf;refine⟨λRq H3=>∃QC Rr,d0 X.K Qa Qc QC H3 Rr Rq/\aK HF QC/\LM t gb m Rr=some o,λRq H3 ⟨QC,Rr,a1,a2,a3⟩=>⟨m,kF _,QC,Rr,a1,a2,a3⟩,Qd,ρ',o1,S'.step G.hh,h2,?_⟩;cases o1 with
    | nx QU=>exactλXG H4 RZ S4 s4=>⟨RZ,QU,S4,s'.trans s4,hf⟩
    | rt d=>cases hf;exact q
def KW:List D->Option D
 | [.int a,.int b]=>some (.int (min a b))
 | [.int a,.int b,.int c]=>some (.int (min (min a b) c))
 | _=>none
def Cp(hc:X.calm=true):cS X (.builtin "min") (λxs H Q=>(∃a b:Int,xs=[.int a,.int b]/\Q (.int (min a b)) H)\/(∃a b c:Int,xs=[.int a,.int b,.int c]/\Q (.int (min (min a b) c)) H)):=by
 intro pins s σ H xs us Q I r h;have hh:X.A.handled=none:=I.ok.hd hc;rcases h with ⟨a,b,rfl,q⟩|⟨a,b,c,rfl,q⟩
 ·cases r with
  | cons r1 r =>
   cases r with
   | cons r2 r =>
    cases r;let⟨t,rfl⟩:=r1;let⟨u,rfl⟩:=r2;refine min_two_ints hh λh' tk kp=>⟨.int (min a b),H,I.kept (t':=tk) kp,?_,q⟩
    by_cases h:b < a
    ·rw[yJ h,show min a b=b by lia];exact⟨_,rfl⟩
    ·rw[yL h,show min a b=a by lia];exact⟨_,rfl⟩
 ·cases r with
  | cons r1 r =>
   cases r with
   | cons r2 r =>
    cases r with
    | cons r3 r =>
     cases r;let⟨t,rfl⟩:=r1;let⟨u,rfl⟩:=r2;let⟨x,rfl⟩:=r3;refine min_three_ints hh λh' tk kp=>⟨.int (min (min a b) c),H,I.kept (t':=tk) kp,?_,q⟩
     by_cases h:b < a
     ·rw[yJ h];by_cases h2:c < b
      ·rw[yJ h2,show min (min a b) c=c by lia];exact⟨_,rfl⟩
      ·rw[yL h2,show min (min a b) c=b by lia];exact⟨_,rfl⟩
     ·rw[yL h];by_cases h2:c < a
      ·rw[yJ h2,show min (min a b) c=c by lia];exact⟨_,rfl⟩
      ·rw[yL h2,show min (min a b) c=a by lia];exact⟨_,rfl⟩
def tN{K:W.Frag}(r:Rep K H d v):∀ {ds:List D}{vs:List V}(j:Nat),au K H ds vs->au K H (ds.set j d) (vs.set j v)
 | [],vs,j,h=>by rw[h.nil_inv];exact au.nil
 | x::ds,vs,j,h=>by
  let⟨u,us,rfl,a,b⟩:=h.cons_inv;cases j with
  | zero=>exact au.cons r b
  | succ j=>exact au.cons a (tN r j b)
def oX(i:Nat)(fz:List Nat)(fk f:Env->Option D):aq->Option Out:=λρ=>(j1 fz f ρ).bind λp=>(fk (aG p.2)).bind λkd=>match kd with
 | .int k=>pb i (λds=>(C8 ds.length k).map λj=>ds.set j p.1) p.2
 | _=>none
def E7(i:Nat)(fz:List Nat)(hN:X.N[i]?=some x)(hv:FC X.env.scope x)(hk:DE X e fk)(h:DE X e2 f)(hd:(x == ("__debug__":Str))=false:=by decide)(QW:(x == ("__classdict__":Str))=false:=by decide)
  (ha:∀v,assign (.Subscript (.Name x px) e Qx) X.env v=(do
   let ov <- holding [v] (eval (.Name x px) X.env)
   let iv <- holding [v,ov] (eval e X.env)
   standAt Qx
   holding [v,ov,iv] (setItem ov iv v)
   release [v,ov,iv] []):=by intro _;rfl)
  (hs:swapsWithSole [.Subscript (.Name x px) e Qx] e2 pos.line X.env=pure false:=by rfl) (hw:swappedStores [.Subscript (.Name x px) e Qx] e2 X.env=pure none:=by rfl)
  (h1:(assignEach [.Subscript (.Name x px) e Qx] X.env).map (·.2)=[assign (.Subscript (.Name x px) e Qx) X.env]:=by rfl):DS X Qa Qc (.Assign [.Subscript (.Name x px) e Qx] e2 pos) (oX i fz fk f) :=
 bM (Di h (BM (ja hN hv hd QW) hk set_list ha) hs hw h1) λE σ H ⟨HF,ρ,o,S,hg,q⟩=>by
  let⟨⟨d,ρ'⟩,h1,hg⟩:=bs hg;let⟨kd,h2,hg⟩:=bs hg;cases kd<;>try cases hg
  rename_i k;let⟨ds,es,h3,h4,rfl⟩:=iF hg;let⟨j,hj,rfl⟩:=af h4;refine lQ S h1 λv H1 Qf s1 S1 s2 r=>?_;let⟨a,vs,e1,e2,e3,e5,e4⟩:=S1.own i ds h3;refine⟨.ref a,e1,H1,aG ρ',.int k,.refl _,S1.all,h2,λkv H2 Qp G rk=>?_⟩;simp?[Rep] at rk;have S2:=S1.step G.hh;let⟨a',TC,f1,f2,f3,f5,f4⟩:=S2.own i ds h3;rw[e1] at f1;cases f1;exact⟨a,TC,k,j,rfl,rk,f2,by rw[f4.length];exact hj,q σ _ Qf (S2.mut h3 e1 f2 (tN r j f4)) s1⟩
def M7:D->Bool|.none=>true|_=>false
def mT{K:W.Frag}(r:Rep K HF d v):decide (v=.Qb)=M7 d:=by
 cases d<;>simp?[Rep] at r<;>first
  | (subst r;rfl)
  | (let⟨a,vs,rfl,_⟩:=r;rfl)
  | (let⟨a,ks,us,rfl,_⟩:=r;rfl)
  | exact r.elim
def DR:D->D->Option D:=λx y=>if M7 y=true then some (.bool (M7 x)) else none
def td:D->D->Option D:=λx y=>if M7 y=true then some (.bool (!M7 x)) else none
def y3{K:W.Frag}:di K (λx y H Q=>y=.Qb/\Q (.bl (decide (x=.Qb))) H) DR:=by
 intro HF H x y v1 v2 d Q sm r1 r2 hg q;unfold DR at hg;split at hg
 ·rename_i h;cases hg;have h2:=mT r2;rw[h,zJ] at h2;refine⟨h2,?_⟩;rw[mT r1];exact q _ H HF (.refl sm) (by simp[Rep])
 ·cases hg
def uV{K:W.Frag}:di K (λx y H Q=>y=.Qb/\Q (.bl (!decide (x=.Qb))) H) td:=by
 intro HF H x y v1 v2 d Q sm r1 r2 hg q;unfold td at hg;split at hg
 ·rename_i h;cases hg;have h2:=mT r2;rw[h,zJ] at h2;refine⟨h2,?_⟩;rw[mT r1];exact q _ H HF (.refl sm) (by simp[Rep])
 ·cases hg
def Bk.Zn(C:Bk X N sc k)(ha:DE X a fa)(hb:DE X b fb):DE X (.Compare a [.Is] [b] pos) (f2 DR fa fb):=d6 BR y3 ha hb (dg _)
def Bk.WN(C:Bk X N sc k)(ha:DE X a fa)(hb:DE X b fb):DE X (.Compare a [.IsNot] [b] pos) (f2 td fa fb):=d6 yt uV ha hb (dg _)
def Bk.WO(C:Bk X N sc k)(ha:DE X a fa)(hb:DE X b fb):DT X (.Compare a [.Is] [b] pos) (fB (f2 DR fa fb)):=dX BR y3 ha hb (dg _)
def Bk.Vd(C:Bk X N sc k)(ha:DE X a fa)(hb:DE X b fb):DT X (.Compare a [.IsNot] [b] pos) (fB (f2 td fa fb)):=dX yt uV ha hb (dg _)
def Ky(hc:X.calm=true)(B:mv X "min" (.builtin "min"))(he:starEach (e::es) X.env=(false,eval e X.env)::starEach es X.env)(QZ:(backTo pos (starEach es X.env)).any (·.1)=false)(ha:DA X (e::es) fs):DE X (.Call (.Name "min" p) (e::es) [] pos) (aW KW fs) :=
 gf (Cp hc) (by
  intro HF H ds vs d Q sm r hg q;unfold KW at hg;split at hg
  ·cases hg;let⟨v1,r1,rfl,a1,b1⟩:=r.cons_inv;let⟨v2,r2,rfl,a2,b2⟩:=b1.cons_inv;rw[b2.nil_inv];simp?[Rep] at a1 a2;exact .inl ⟨_,_,by rw[a1,a2],q _ H HF (.refl sm) (by simp[Rep])⟩
  ·cases hg;let⟨v1,r1,rfl,a1,b1⟩:=r.cons_inv;let⟨v2,r2,rfl,a2,b2⟩:=b1.cons_inv;let⟨v3,r3,rfl,a3,b3⟩:=b2.cons_inv;rw[b3.nil_inv];simp?[Rep] at a1 a2 a3;exact .inr ⟨_,_,_,by rw[a1,a2,a3],q _ H HF (.refl sm) (by simp[Rep])⟩
  ·cases hg) B ha (by decide) (by decide) he QZ
section
variable {fl fs:Env->Option (List D)}
def Ad(ds:List D):D->Option (List D)
 | .int k=>if m4 k=true/\ds.length * k.toNat<=sizeLine then some (List.replicate k.toNat ds).flatten else none
 | _=>none
def pS(fl:Env->Option (List D))(fb:Env->Option D):Env->Option (List D):=λρ=>(fl ρ).bind λds=>(fb ρ).bind (Ad ds)
def Lw(ha:DF X a fl)(hb:DE X b fb):DF X (.BinOp a .Mult b pos) (pS fl fb):=aD (BP JI ha hb) λσ H Q ⟨HF,ρ,d,sm,eo,hf,q⟩=>by
 let⟨ds,hx,hf⟩:=bs hf;let⟨y,hy,hg⟩:=bs hf;refine⟨HF,ρ,ds,sm,eo,hx,λl vs H1 Qf g1 h0 hn h1 r1=>⟨Qf,ρ,y,g1.fh,eo.mono g1.ff,hy,λv2 H2 Qp g2 r2=>?_⟩⟩;cases y<;>try cases hg
 rename_i k;have hg:(if m4 k=true/\ds.length * k.toNat<=sizeLine then some (List.replicate k.toNat ds).flatten else none)=some d:=hg;split at hg
 ·rename_i hz;cases hg;simp?[Rep] at r2;have r1:=r1.mono g2.ff;have G:=g1.trans g2;have ok:=hz.1;simp?[m4,zF,zJ] at ok;exact⟨l,k,vs,rfl,r2,g2.hh _ _ h1,by lia,by lia,by rw[r1.length];exact hz.2,λp hp=>q p _ _ Qp (G.trans (.own G.fh hp)) (G.hh.free hp) (G.fh.free hp) aF (ki r1 _)⟩
 ·cases hg
def wy(hc:X.calm=true):cS X (.builtin "any") (λxs H Q=>∃ (a:Addr) (bs:List Bool),xs=[.ref a]/\eH X.K H a (bs.map V.bl)/\Q (.bl (bs.any id)) H):=by
 intro pins s σ H xs us Q I r h;let⟨a,bs,rfl,hq,q⟩:=h;let⟨u,rfl,rx⟩:=vals1 r;cases rx;let⟨its,rv,pl,hz⟩:=I.list hq;have hv:=i3 rv;subst hv;have hh:X.A.in1.handled=none:=I.ok.hd hc;refine call_any_walk (qH pl.isList ?_);let⟨o,ho,QX,n,hd⟩:=pl.isList;have QT:a≠s.heap.objs.size:=yP (zX ho);refine⟨_,_,_,_,_,_,λi=>bs.getD i false,rfl,Walks.list hh s.heap.objs.size a QT (bs.map Value.bool).toArray,⟨⟨_,zW _ rfl,rfl,rfl⟩,pl.isList.push _⟩,λi v s' Q' E' hP hQ=>?_,λh' tk kp=>?_⟩
 ·have e:v=Value.bool (bs.getD i false):=by
   have hP:(bs.map Value.bool).toArray[i]?=some v:=hP;rw[vH,zO] at hP;let⟨b,hb,rfl⟩:=af hP;rw[zG,hb];rfl
  subst e;exact xU hQ
 ·refine⟨.bl (bs.any id),H,?_,?_,q⟩
  ·exact I.kept (t':=tk) λb o' e=>kp b o' (by simp;exact yP (zX e)) (zT _ e)
  ·show Value.bool _=Value.bool _;have:=range_any bs;simp?[zH,zD];rw[this]
end
def Lr(hc:X.calm=true)(B:mv X "any" (.builtin "any"))(he:starEach [e] X.env=(false,eval e X.env)::starEach [] X.env)(ha:DA X [e] fs):DE X (.Call (.Name "any" p) [e] [] pos) (aW (λds=>(oneOf ds).bind λd=>match d with
 | .list es=>(boolsOf es).map λbs=>.bool (bs.any id)
 | _=>none) fs) :=
 gf (wy hc) (by
  intro HF H ds vs d Q sm r hg q;let⟨x,hx,hg⟩:=bs hg;rw[fg hx] at r;cases x<;>try cases hg
  let⟨bs,hb,rfl⟩:=af hg;let⟨v,r',rfl,a,b⟩:=r.cons_inv;rw[b.nil_inv];simp?[Rep] at a;let⟨p,us,rfl,h,rr⟩:=a;rw[gy hb] at rr;have:=cR rr;subst this;exact⟨p,bs,rfl,sm.seq h,q _ H HF (.refl sm) (by simp[Rep])⟩) B ha (by decide) (by decide) he rfl
def l6(ns:List Int):∀j:Nat,preSum (λi=>ns.getD i 0) j=(ns.take j).sum
 | 0=>by simp[preSum]
 | j+1=>by
  rw[preSum,l6 ns j,List.take_add_one,List.sum_append]
  congr 1
  rw[zG];cases ns[j]?<;>simp
def pU(val:Nat->Int)(B:Int)(h:∀i,-B<=val i/\val i<=B):∀j:Nat,-(B * j)<=preSum val j/\preSum val j<=B * j
 | 0=>by simp[preSum]
 | j+1=>by
  have ih:=pU val B h j;have:=h j;rw[preSum];have e:B * ((j+1:Nat):Int)=B * (j:Int)+B:=by rw[Int.natCast_add,Int.mul_add];simp
  rw[e];lia
def Iw(ns:List Int):Bool:=decide (ns.length<=1000)&&ns.all λn=>decide (-1000000<=n)&&decide (n<=1000000)
def I0(h:Iw ns=true):ns.length<=1000/\∀i,-1000000<=ns.getD i 0/\ns.getD i 0<=1000000:=by
 unfold Iw at h;rw[zF,zJ,xE] at h;refine⟨h.1,λi=>?_⟩;rw[zG];cases e:ns[i]? with
 | none=>simp
 | some n =>
  have:=h.2 n (xZ e);simpa using this
def m8{ns:List Int}{its:List Value}(r:aA (ns.map V.int) its){i:Nat}(h:its.toArray[i]?=some v):∃t,v=.int (ns.getD i 0) t:=by
 rw[vH] at h
 induction ns generalizing its i with
 | nil=>cases r;simp at h
 | cons n ns ih =>
  cases r with
  | cons r1 rr =>
   cases i with
   | zero =>
    simp?[xO,Option.some.injEq] at h;subst h;let⟨t,rfl⟩:=r1;exact⟨t,rfl⟩
   | succ i =>
    simp?[yW] at h;exact ih rr h
def wW(hc:X.calm=true):cS X (.builtin "sum") (λxs H Q=>∃ (a:Addr) (ns:List Int),xs=[.ref a]/\(eH X.K H a (ns.map V.int)\/eE X.K H a (ns.map V.int))/\Iw ns=true/\Q (.int ns.sum) H):=by
 intro pins s σ H xs us Q I r h;let⟨a,ns,rfl,hq,Qh,q⟩:=h;let⟨u,rfl,rx⟩:=vals1 r;cases rx;have hh:X.A.in1.handled=none:=I.ok.hd hc;let⟨hlen,X6⟩:=I0 Qh;have SF:∀n:Nat,n<=1000->∀j,j < n->InLong ((λi=>ns.getD i 0) j)/\InLong (preSum (λi=>ns.getD i 0) (j+1)):=λn hn j hj=>by
  have h1:=X6 j;have h2:=pU (λi=>ns.getD i 0) 1000000 X6 (j+1);refine⟨⟨?_,?_⟩,?_,?_⟩
  ·show -(2 ^ 63)<=ns.getD j 0;lia
  ·show ns.getD j 0 < 2 ^ 63;lia
  ·lia
  ·lia
 have Ve:preSum (λi=>ns.getD i 0) ns.length=ns.sum:=by rw[l6,List.take_length]
 rcases hq with hq|hq
 ·let⟨its,rv,pl,hz⟩:=I.list hq;have hl:its.length=ns.length:=by rw[<- rv.length,zD]
  refine call_sum_walk (qH pl.isList ?_);let⟨o,ho,QX,n,hd⟩:=pl.isList;have QL:=zX ho;have QT:a≠s.heap.objs.size:=yP QL;refine⟨_,_,_,_,_,_,λi=>ns.getD i 0,rfl,Walks.list hh s.heap.objs.size a QT its.toArray,⟨⟨_,zW _ rfl,rfl,rfl⟩,pl.isList.push _⟩,λb hb=>?_,λi v hP=>m8 rv hP,by rw[zH,hl];exact SF _ hlen,λh' tk t' kp=>?_⟩
  ·show b < (s.heap.push _).objs.size;rw[xH];simp?[zQ,yE,xR] at hb;rcases hb with rfl|rfl
   ·exact kF _
   ·exact jK QL
  ·refine⟨.int ns.sum,H,I.kept (t':=tk) λb o' e=>kp b o' (by simp;exact yP (zX e)) (zT _ e),⟨t',?_⟩,q⟩;rw[zH,hl,Ve]
 ·let⟨its,rv,pl,hz⟩:=I.tuple hq;have pl:s.heap.IsTuple a its.toArray:=pl;have hl:its.length=ns.length:=by rw[<- rv.length,zD]
  refine call_sum_walk (xP pl ?_);let⟨o,ho,QX,n,hd⟩:=id pl;have QL:=zX ho;have QT:a≠s.heap.objs.size:=yP QL;refine⟨_,_,_,_,_,_,λi=>ns.getD i 0,rfl,Walks.tuple hh s.heap.objs.size a QT its.toArray,⟨⟨_,zW _ rfl,rfl,rfl⟩,pl.push _⟩,λb hb=>?_,λi v hP=>m8 rv hP,by rw[zH,hl];exact SF _ hlen,λh' tk t' kp=>?_⟩
  ·show b < (s.heap.push _).objs.size;rw[xH];simp?[zQ,yE,xR] at hb;rcases hb with rfl|rfl
   ·exact kF _
   ·exact jK QL
  ·refine⟨.int ns.sum,H,I.kept (t':=tk) λb o' e=>kp b o' (by simp;exact yP (zX e)) (zT _ e),⟨t',?_⟩,q⟩;rw[zH,hl,Ve]
def nC:List D->Option D:=λds=>(c7 ds).bind λes=>(intsOf es).bind λns=>if Iw ns=true then some (.int ns.sum) else none
def gk{K:W.Frag}:∀ {ns:List Int}{vs:List V},au K H (ns.map PyData.int) vs->vs=ns.map V.int
 | [],vs,h=>h.nil_inv
 | b::bs,vs,h=>by
  let⟨v,r,rfl,a,c⟩:=h.cons_inv;simp?[Rep] at a;rw[a,gk c];rfl
def Kh(hc:X.calm=true)(B:mv X "sum" (.builtin "sum"))(he:starEach [e] X.env=(false,eval e X.env)::starEach [] X.env)(ha:DA X [e] fs):DE X (.Call (.Name "sum" p) [e] [] pos) (aW nC fs) :=
 gf (wW hc) (by
  intro HF H ds vs d Q sm r hg q;let⟨es,h1,hg⟩:=bs hg;let⟨ns,h2,hg⟩:=bs hg;have hg:(if Iw ns=true then some (PyData.int ns.sum) else none)=some d:=hg;split at hg
  ·rename_i Qh;cases hg;have e2:=cW h2;subst e2;rcases fH h1 with rfl|rfl
   all_goals
    let⟨v,r',rfl,a,b⟩:=r.cons_inv;rw[b.nil_inv];simp?[Rep] at a;let⟨p,us,rfl,h,rr⟩:=a;have:=gk rr;subst this
   ·exact⟨p,ns,rfl,.inr (ax sm h),Qh,q _ H HF (.refl sm) (by simp[Rep])⟩
   ·exact⟨p,ns,rfl,.inl (sm.seq h),Qh,q _ H HF (.refl sm) (by simp[Rep])⟩
  ·cases hg) B ha (by decide) (by decide) he rfl
def LN(i:Int):Value->Bool|.int a _=>a == i|_=>false
def AG:IV X "list.index" (λx vs H Q=>∃ (l:Addr) (ns:List Int) (i:Int) (j:Nat),x=.ref l/\vs=[.int i]/\eH X.K H l (ns.map V.int)/\ns[j]?=some i/\(∀m,m < j->ns[m]?≠some i)/\Q (.int j) H):=by
 intro pins s σ H x vs v us Q I rx rv h;let⟨l,ns,i,j,rfl,rfl,hq,hj,S5,q⟩:=h;cases rx;let⟨u,rfl,ru⟩:=rv.one;let⟨t,rfl⟩:=ru;let⟨its,r,pl,hz⟩:=I.list hq;let⟨⟨cls,dd,data,sl⟩,ho,hc,n,hd⟩:=id pl.isList;simp only at hc hd;subst hc hd;have hl:its.length=ns.length:=by rw[<- r.length,zD]
 have Vf:j < ns.length:=(List.getElem?_eq_some_iff.mp hj).1;have TJ:ns.length<=sizeLine:=by rw[zD] at hz;exact hz
 have Zo:(sizeLine:Nat) < 2 ^ 62:=by decide
 have at_:∀m (hm:m < its.toArray.size),∃t',its.toArray[m]=.int (ns.getD m 0) t':=λm hm=>m8 r (jU hm);refine qT F.slot_list_index ⟨_,ho,rfl⟩ F.entry_list_index (F.args_list_index_2 _ _) (PySem.SeqAt.list_indexAt l its.toArray n dd sl (.int i t) (LN i) j (by rw[zH,hl];exact Vf) (by lia) ?_ ?_) ⟨ho,?_,?_⟩
 ·let⟨t',e⟩:=at_ j (by rw[zH,hl];exact Vf);rw[e,LN,zG,hj];simp
 ·intro m hm WQ;let⟨t',e⟩:=at_ m hm;have R0:m < ns.length:=by lia
  have:=S5 m WQ;rw[e,LN,zG];rw[zK R0] at this ⊢;simp?[qE,beq_eq_false_iff_ne];exactλh=>this (by rw[h])
 ·intro y hy;let⟨m,hm,rfl⟩:=Array.getElem_of_mem hy;let⟨t',e⟩:=at_ m hm;rw[e];exact PySem.SeqAt.EqAt.int_int _ _ _ _
 ·exact⟨.int j,H,I.tok _,⟨_,rfl⟩,q⟩
def AJ(i:Int):List Int->Option Nat
 | []=>none
 | n::ns=>if n=i then some 0 else (AJ i ns).map (·+1)
def lg:∀ {ns:List Int}{j:Nat},AJ i ns=some j->ns[j]?=some i/\∀m,m < j->ns[m]?≠some i
 | [],j,h=>by cases h
 | n::ns,j,h=>by
  unfold AJ at h;split at h
  ·cases h;rename_i e;exact⟨by rw[e];rfl,λm hm=>absurd hm (vC _)⟩
  ·rename_i e;let⟨k,hk,rfl⟩:=af h;let⟨a,b⟩:=lg hk;refine⟨by simpa using a,λm hm=>?_⟩;cases m with
   | zero=>simpa using e
   | succ m=>simpa using b m (by lia)
def N7:D->D->Option D
 | .list es,.int i=>(intsOf es).bind λns=>(AJ i ns).map λj=>.int ((j:Nat):Int)
 | _,_=>none
def CI{fo:Env->Option D}(Qz:attributeBase o "index" X.env (eval o X.env)=eval o X.env)
  (QB:((backTo Qe (starEach [e] X.env)).all (λx=>!x.1)&&(backToKw Qe (keywordEach [] X.env)).all (λx=>x.1.isSome)&&decide ([e].length+([]:List Keyword).length+(if ([]:List Keyword).isEmpty then 0 else 1) < 30))=true)
  (Qm:(apos.endLine == Qe.line)=true) (hs:starEach [e] X.env=(false,eval e X.env)::starEach [] X.env) (ho:DE X o fo) (he:DE X e fe):DE X (.Call (.Attribute o "index" apos) [e] [] Qe) (f2 N7 fo fe) :=
 aD (mn qL PySem.F.slot_list_index PySem.F.type_list_index AG ho (bS he dc hs) Qz QB Qm hs rfl) λσ H Q ⟨HF,ρ,d,sm,eo,hf,q⟩=>by
  let⟨x,hx,hf⟩:=bs hf;let⟨y,hy,hg⟩:=bs hf;refine⟨HF,ρ,x,sm,eo,hx,λv1 H1 Qf g1 r1=>?_⟩;cases x<;>try cases hg
  cases y<;>try cases hg
  rename_i es i;let⟨ns,h1,hg⟩:=bs hg;let⟨j,h2,rfl⟩:=af hg;have e1:=cW h1;subst e1;simp?[Rep] at r1;let⟨l,us,rfl,hq,rr⟩:=r1;have:=gk rr;subst this;refine⟨.inl ⟨rfl,_,g1.fh.seq hq⟩,Qf,ρ,.int i,g1.fh,eo.mono g1.ff,hy,λv2 H2 Qp g2 r2=>?_⟩;simp?[Rep] at r2;let⟨a,b⟩:=lg h2;exact⟨l,ns,i,j,rfl,by rw[r2],g2.fh.seq (g2.ff.seq hq),a,b,q _ H2 Qp (g1.trans g2) (by simp[Rep])⟩
end Dl
namespace Tx
open PySem PySem.SeqAt PyProof.Rows
open PySem.AutoSeq1 (wpAny_loadPart')
open PySem.MeetsSeq PySem.MeetsSeq2 PySem.MeetsSeq3
def Zq(f:Nat->β->Sem (ForInStep β))(I:List Nat->β->Shared->Prop)(Q:β->Shared->Prop)
  (turn:∀x rest b s,I (x::rest) b s->wpAny M A (f x b) (λr s'=>match r with|.yield b'=>I rest b' s'|.done b'=>Q b' s') E s)
  (fin:∀b s,I [] b s->Q b s) (n:Nat) (b:β) (h:I (List.range' 0 n 1) b s):wpAny M A (forIn [:n] b f) Q E s:=by
 have e:forIn [:n] b f=forIn (List.range' 0 n 1) b f:=by
  rw[Std.Legacy.Range.forIn_eq_forIn_range'];simp[Std.Legacy.Range.size]
 rw[e];exact wpAny_forIn_list f I Q turn fin _ b h
def Rb(l:Addr)(items:Array Value)(n:Nat)(dd:Option Addr)(sl:Array (Option Value))(x:Value)(e:Value->Bool)(j:Nat)(hj:j < items.size)(h1:e items[j]=true)(h2:∀m (hm:m < items.size),m < j->e items[m]=false) :
  Meets (Builtin.«tuple.index» ⟨[.ref l,x],[]⟩)
   (λA R s=>s.heap.get? l=some { cls:=.type "tuple",dict:=dd,data:=.seq items n,slots:=sl }/\(∀y,y∈items->EqAt A.in1 s y x (e y))/\R (.ok (.ret (.int (j:Nat) s.toks))) { s with toks:=s.toks+1 }) :=
 .of_wp λprog w A R s h=>by
  let⟨hp,g,d,tk,os⟩:=s;let⟨hl,he,h⟩:=h
  wp_walk using wpAny_loadPart' hl,Zq _ (λrest b s'=>s'=⟨hp,g,d,tk,os⟩/\b.1=none/\∃i,i<=j/\rest=List.range' i (items.size - i) 1) _
  case turn =>
   rintro i rest b s' ⟨rfl,hb,i',hi,e1⟩;have QL:i' < items.size:=by lia
   rw[show items.size - i'=(items.size - (i'+1))+1 by lia,kS] at e1;injection e1 with e2 e3
   subst e2;subst e3;simp?[jU QL];refine zU (he _ (Array.getElem_mem QL) prog w _ _ ?_);by_cases Qj:i=j
   ·subst Qj;rw[h1]
    wp_walk
    exact⟨_,rfl,h⟩
   ·rw[h2 i QL (by lia)]
    wp_walk
    exact⟨rfl,rfl,i+1,by lia,rfl⟩
  case fin =>
   rintro b s' ⟨rfl,hb,i,hi,e1⟩;have:=qY List.length e1;simp at this;lia
  case h =>
   exact⟨rfl,rfl,0,xS _,by simp⟩
end Tx
namespace Dl
open PySem L2 PySem.Spec PyProof.Rows
def Bo:IV X "tuple.index" (λx vs H Q=>∃ (l:Addr) (ns:List Int) (i:Int) (j:Nat),x=.ref l/\vs=[.int i]/\eE X.K H l (ns.map V.int)/\ns[j]?=some i/\(∀m,m < j->ns[m]?≠some i)/\Q (.int j) H):=by
 intro pins s σ H x vs v us Q I rx rv h;let⟨l,ns,i,j,rfl,rfl,hq,hj,S5,q⟩:=h;cases rx;let⟨u,rfl,ru⟩:=rv.one;let⟨t,rfl⟩:=ru;let⟨its,r,pl,hz⟩:=I.tuple hq;let⟨⟨cls,dd,data,sl⟩,ho,hc,n,hd⟩:=id pl;simp only at hc hd;subst hc hd;have hl:its.length=ns.length:=by rw[<- r.length,zD]
 have Vf:j < ns.length:=(List.getElem?_eq_some_iff.mp hj).1;have at_:∀m (hm:m < its.toArray.size),∃t',its.toArray[m]=.int (ns.getD m 0) t':=λm hm=>m8 r (jU hm);refine qT F.slot_tuple_index ⟨_,ho,rfl⟩ F.entry_tuple_index (F.args_tuple_index_2 _ _) (Tx.Rb l its.toArray n dd sl (.int i t) (LN i) j (by rw[zH,hl];exact Vf) ?_ ?_) ⟨ho,?_,?_⟩
 ·let⟨t',e⟩:=at_ j (by rw[zH,hl];exact Vf);rw[e,LN,zG,hj];simp
 ·intro m hm WQ;let⟨t',e⟩:=at_ m hm;have R0:m < ns.length:=by
   rw[zH] at hm;lia
  have:=S5 m WQ;rw[e,LN,zG];rw[zK R0] at this ⊢;simp?[qE,beq_eq_false_iff_ne];exactλh=>this (by rw[h])
 ·intro y hy;let⟨m,hm,rfl⟩:=Array.getElem_of_mem hy;let⟨t',e⟩:=at_ m hm;rw[e];exact PySem.SeqAt.EqAt.int_int _ _ _ _
 ·exact⟨.int j,H,I.tok _,⟨_,rfl⟩,q⟩
def D2(h:PE X e t)(g:PE X e u):PE X e (λσ H Q=>t σ H Q\/u σ H Q):=λpins s σ H Q I q=>q.elim (h pins s σ H Q I) (g pins s σ H Q I)
def MU:D->D->Option D
 | .list es,.int i=>(intsOf es).bind λns=>(AJ i ns).map λj=>.int ((j:Nat):Int)
 | .tuple es,.int i=>(intsOf es).bind λns=>(AJ i ns).map λj=>.int ((j:Nat):Int)
 | _,_=>none
def An{fo:Env->Option D}(Qz:attributeBase o "index" X.env (eval o X.env)=eval o X.env)
  (QB:((backTo Qe (starEach [e] X.env)).all (λx=>!x.1)&&(backToKw Qe (keywordEach [] X.env)).all (λx=>x.1.isSome)&&decide ([e].length+([]:List Keyword).length+(if ([]:List Keyword).isEmpty then 0 else 1) < 30))=true)
  (Qm:(apos.endLine == Qe.line)=true) (hs:starEach [e] X.env=(false,eval e X.env)::starEach [] X.env) (ho:DE X o fo) (he:DE X e fe):DE X (.Call (.Attribute o "index" apos) [e] [] Qe) (f2 MU fo fe) :=
 aD (D2 (CI Qz QB Qm hs ho he) (mn PySem.F.plainAttrs_tuple PySem.F.slot_tuple_index PySem.F.type_tuple_index Bo ho (bS he dc hs) Qz QB Qm hs rfl)) λσ H Q ⟨HF,ρ,d,sm,eo,hf,q⟩=>by
  let⟨x,hx,hf⟩:=bs hf;let⟨y,hy,hg⟩:=bs hf;cases x<;>try cases hg
  ·cases y<;>try cases hg
   rename_i es i;exact .inl ⟨HF,ρ,d,sm,eo,by simp?[f2,hx,hy,zA];exact hg,q⟩
  ·cases y<;>try cases hg
   rename_i es i;let⟨ns,h1,hg⟩:=bs hg;let⟨j,h2,rfl⟩:=af hg;have e1:=cW h1;subst e1;refine .inr ⟨HF,ρ,_,sm,eo,hx,λv1 H1 Qf g1 r1=>?_⟩;simp?[Rep] at r1;let⟨l,us,rfl,hq,rr⟩:=r1;have:=gk rr;subst this;refine⟨?_,Qf,ρ,.int i,g1.fh,eo.mono g1.ff,hy,λv2 H2 Qp g2 r2=>?_⟩
   ·first|exact .inr (.inl ⟨rfl,_,ax g1.fh hq⟩)|exact .inl ⟨rfl,_,ax g1.fh hq⟩|exact .inr ⟨rfl,_,ax g1.fh hq⟩
   ·simp?[Rep] at r2;let⟨a,b⟩:=lg h2;exact⟨l,ns,i,j,rfl,by rw[r2],ax g2.fh (ax g2.ff hq),a,b,q _ H2 Qp (g1.trans g2) (by simp[Rep])⟩
end Dl
namespace Zp
open PySem PyProof.Rows
def QH(b:Bool)(h:Heap)(it l:Addr)(k:Nat):Prop:=match b with|true=>h.IsTupleIter it l k|false=>h.IsListIter it l k
def QM(b:Bool)(h:Heap)(l:Addr)(xs:Array Value):Prop:=match b with|true=>h.IsTuple l xs|false=>h.IsList l xs
def QH.obj(x:QH b h it l k):∃o,h.get? it=some o/\∀v,o.data≠.cell v:=by
 cases b
 ·let⟨o,e,_,d⟩:=(show h.IsListIter it l k from x);exact⟨o,e,λv q=>by rw[d] at q;cases q⟩
 ·let⟨o,e,_,d⟩:=(show h.IsTupleIter it l k from x);exact⟨o,e,λv q=>by rw[d] at q;cases q⟩
def QH.at(x:QH b h it l k)(e:∀o,h.get? it=some o->h'.get? it=some o):QH b h' it l k:=by
 cases b
 ·exact Heap.IsListIter.at x e
 ·exact Heap.IsTupleIter.at x e
def QH.extBut(x:QH b h it l k)(e:Heap.ExtBut a h h')(n:it≠a):QH b h' it l k:=x.at λo q=>e it o n q
def QM.at(x:QM b h l xs)(e:∀o,h.get? l=some o->h'.get? l=some o):QM b h' l xs:=by
 cases b
 ·let⟨o,q,r⟩:=(show h.IsList l xs from x);exact⟨o,e o q,r⟩
 ·let⟨o,q,r⟩:=(show h.IsTuple l xs from x);exact⟨o,e o q,r⟩
def QM.extBut(x:QM b h l xs)(e:Heap.ExtBut a h h')(n:l≠a):QM b h' l xs:=x.at λo q=>e l o n q
section
def WR(hj:QH b s.heap j t k)(ht:QM b s.heap t its)(hv:its[k]?=some v)
  (hQ:∀g,QH b g j t (k+1)->Heap.SameBut j s.heap g->Q v { s with heap:=g }):wpAny (model prog w) A (Builtin.SmallTypes.nextOf (.ref j)) Q E s:=by
 cases b
 ·exact wpAny_nextOf_list_item hj ht hv hQ
 ·exact En.RO hj ht hv hQ
def Tf{Q:Value->Shared->Prop}(hh:A.handled=none)(hj:QH b s.heap j t k)(ht:QM b s.heap t its)(hv:its[k]?=none)
  (hE:∀g x,Heap.ExtBut j s.heap g->(∃o,g.get? x=some o/\o.cls=.type "StopIteration")->E (.ref x) { s with heap:=g }):wpAny (model prog w) A (Builtin.SmallTypes.nextOf (.ref j)) Q E s:=by
 cases b
 ·exact wpAny_nextOf_list_end hh hj ht hv hE
 ·exact En.R7 hh hj ht hv hE
structure ZS(Qq Qv:Bool)(h₀ h:Heap)(z TI TO i j l m:Addr)(xs ys:Array Value)(f:Value)(p q:Nat)(a b:Value):Prop where
 zo:IsZip h z TI TO f
 ti:IsPair h TI (.ref i) (.ref j)
 to:IsPair h TO a b
 wi:QH Qq h i l p
 wj:QH Qv h j m q
 sl:QM Qq h l xs
 sm:QM Qv h m ys
 kp:∀c o,c≠z->c≠TO->c≠i->c≠j->h₀.get? c=some o->h.get? c=some o
 sz:h.objs.size=h₀.objs.size
section
variable {z TI TO i j l m:Addr}
def ZS.fl(Z:ZS Qq Qv h₀ h z TI TO i j l m xs ys f p q a b)(D:ZipApart z TI TO i j l m)(e:IsZip g z TI TO f')(t:Heap.SameBut z h g):ZS Qq Qv h₀ g z TI TO i j l m xs ys f' p q a b :=
 ⟨e,t.extBut _ _ D.TIz Z.ti,t.extBut _ _ D.TOz Z.to,Z.wi.extBut t.extBut D.i1z,Z.wj.extBut t.extBut D.i2z,Z.sl.extBut t.extBut D.l1z,Z.sm.extBut t.extBut D.l2z,λc o n1 n2 n3 n4 r=>t.extBut _ _ n1 (Z.kp c o n1 n2 n3 n4 r),t.1.trans Z.sz⟩
def ZS.fst(Z:ZS Qq Qv h₀ h z TI TO i j l m xs ys f p q a b)(D:ZipApart z TI TO i j l m)(e:QH Qq g i l (p+1))(t:Heap.SameBut i h g):ZS Qq Qv h₀ g z TI TO i j l m xs ys f (p+1) q a b :=
 ⟨t.extBut _ _ D.i1z.symm Z.zo,t.extBut _ _ D.TIi1 Z.ti,t.extBut _ _ D.TOi1 Z.to,e,Z.wj.extBut t.extBut D.i12.symm,Z.sl.extBut t.extBut D.l1i1,Z.sm.extBut t.extBut D.l2i1,λc o n1 n2 n3 n4 r=>t.extBut _ _ n3 (Z.kp c o n1 n2 n3 n4 r),t.1.trans Z.sz⟩
def ZS.snd(Z:ZS Qq Qv h₀ h z TI TO i j l m xs ys f p q a b)(D:ZipApart z TI TO i j l m)(e:QH Qv g j m (q+1))(t:Heap.SameBut j h g):ZS Qq Qv h₀ g z TI TO i j l m xs ys f p (q+1) a b :=
 ⟨t.extBut _ _ D.i2z.symm Z.zo,t.extBut _ _ D.TIi2 Z.ti,t.extBut _ _ D.TOi2 Z.to,Z.wi.extBut t.extBut D.i12,e,Z.sl.extBut t.extBut D.l1i2,Z.sm.extBut t.extBut D.l2i2,λc o n1 n2 n3 n4 r=>t.extBut _ _ n4 (Z.kp c o n1 n2 n3 n4 r),t.1.trans Z.sz⟩
def ZS.put(Z:ZS Qq Qv h₀ h z TI TO i j l m xs ys f p q a b)(D:ZipApart z TI TO i j l m)(e:IsPair g TO x y)(t:Heap.SameBut TO h g):ZS Qq Qv h₀ g z TI TO i j l m xs ys f p q x y :=
 ⟨t.extBut _ _ D.TOz.symm Z.zo,t.extBut _ _ D.TITO Z.ti,e,Z.wi.extBut t.extBut D.TOi1.symm,Z.wj.extBut t.extBut D.TOi2.symm,Z.sl.extBut t.extBut D.l1TO,Z.sm.extBut t.extBut D.l2TO,λc o n1 n2 n3 n4 r=>t.extBut _ _ n2 (Z.kp c o n1 n2 n3 n4 r),t.1.trans Z.sz⟩
end
variable {z TI TO i j l m:Addr}
def Vg{Q:Value->Shared->Prop}(hn:A.handled=none)(D:ZipApart z TI TO i j l m)(Z:ZS Qq Qv s.heap s.heap z TI TO i j l m xs ys .none p q a b)
  (item:∀x y g g',xs[p]?=some x->ys[q]?=some y->ZS Qq Qv s.heap g z TI TO i j l m xs ys .ellipsis (p+1) (q+1) x y->IsZip g' z TI TO (rawInt g.objs.size) ->
   Heap.SameBut z (g.push { cls:=.type "tuple",data:=.seq #[x,y] }) g'->Q (.ref g.objs.size) { s with heap:=g' })
  (over:(xs[p]?=none\/ys[q]?=none)->∀g e,(∀c o,c≠z->c≠TO->c≠i->c≠j->s.heap.get? c=some o->g.get? c=some o)->(∃o,g.get? e=some o/\o.cls=.type "StopIteration")->E (.ref e) { s with heap:=g }) :
  wpAny (model prog w) A (Builtin.«zip.__next__» ⟨[.ref z],[]⟩) (λr s'=>∃v,r=.done (.ret v)/\Q v s') E s:=by
 have stop:∀ {g1 g2:Heap}{e:Addr}{c:Addr}{p' q':Nat}{a' b':Value},ZS Qq Qv s.heap g1 z TI TO i j l m xs ys .ellipsis p' q' a' b'->(c=i\/c=j)->(xs[p]?=none\/ys[q]?=none)->Heap.ExtBut c g1 g2 ->
   (∃o,g2.get? e=some o/\o.cls=.type "StopIteration")->wpAny (model prog w) A (setField (.ref z) 0 Value.none) (λ_ t=>E (.ref e) t) E { s with heap:=g2 }:=by
  intro g1 g2 e c p' q' a' b' Y hc hv k ⟨o,ho,ht⟩;have cz:z≠c:=hc.elim (λe=>e ▸ D.i1z.symm) λe=>e ▸ D.i2z.symm;have Yz:IsZip g2 z TI TO .ellipsis:=k _ _ cz Y.zo;refine kL Yz (by simp) λg3 _ t=>over hv g3 e (λd u n1 n2 n3 n4 r=>t.extBut _ _ n1 (k _ _ ?_ (Y.kp d u n1 n2 n3 n4 r))) ⟨o,t.extBut _ _ ?_ ho,ht⟩
  ·exact hc.elim (λe=>e ▸ n3) λe=>e ▸ n4
  ·rintro rfl;rw[Yz] at ho;cases ho;simp at ht
 show wpAny _ _ (field (.ref z) 2 >>= _) _ _ _;refine zU (qQ Z.zo rfl (x:=.bool false) rfl (zU (qQ Z.zo rfl (x:=.ref TI) rfl (zU (jX Z.ti rfl (zU (m:=Builtin.SmallTypes.ownedTupleIsFree _) ?_))))));refine zU (qQ Z.zo rfl (x:=.none) rfl (zV ?_));rw[yJ rfl];refine zU (wpAny_rule (zU (qQ Z.zo rfl (x:=.ref TO) rfl (zU (kL Z.zo (by simp) λg1 e1 t1=>?_)))));have Z1:=Z.fl D (f':=.ellipsis) e1 t1;refine zU ?_;simp?[List.zipIdx_cons,List.zipIdx_nil,List.forIn_cons,List.forIn_nil];refine zU (zU (wpAny_onRaise (zU (m:=Builtin.SmallTypes.nextOf _) ?_)));cases hx:xs[p]? with
 | none=>exact Tf hn Z1.wi Z1.sl hx λg2 e k o=>stop Z1 (.inl rfl) (.inl hx) k o
 | some x =>
 refine WR Z1.wi Z1.sl hx λg2 e2 t2=>zV ?_;have Z2:=Z1.fst D e2 t2;refine zU (jX Z2.to rfl (zU (wpAny_updateSeq_pair Z2.to λg3 e3 t3=>zU (wpAny_letGo (zV ?_)))));have Z3:=Z2.put D (x:=x) (y:=b) e3 t3;refine zU (zU (wpAny_onRaise (zU (m:=Builtin.SmallTypes.nextOf _) ?_)));cases hy:ys[q]? with
 | none=>exact Tf hn Z3.wj Z3.sm hy λg4 e k o=>stop Z3 (.inr rfl) (.inr hy) k o
 | some y =>
 refine WR Z3.wj Z3.sm hy λg4 e4 t4=>zV ?_;have Z4:=Z3.snd D e4 t4;refine zU (jX Z4.to rfl (zU (wpAny_updateSeq_pair Z4.to λg5 e5 t5=>zU (wpAny_letGo (zV (zV ?_))))));have Z5:=Z4.put D (x:=x) (y:=y) e5 t5;refine zU (jX Z5.to rfl (zU (wpAny_newTuple (zU (m:=Builtin.SmallTypes.ownedTupleHandOut _ _) ?_))));refine zU (kL (zT _ Z5.zo) (by simp) λg6 e6 t6=>kL e6 (by simp) λg7 e7 t7=>zV ⟨_,rfl,?_⟩);exact item x y g5 g7 hx hy Z5 e7 (t6.trans t7)
def Vh(hn:A.handled=none)(D:ZipApart z TI TO i j l m)
  (qz:IsZip s.heap z TI TO .none) (qI:IsPair s.heap TI (.ref i) (.ref j)) (qO:IsPair s.heap TO a b)
  (p1:QH Qq s.heap i l p) (p2:QH Qv s.heap j m q) (r1:QM Qq s.heap l xs) (r2:QM Qv s.heap m ys) (ex:xs[p]?=some x) (ey:ys[q]?=some y)
  (kQ:∀g,IsZip g z TI TO (rawInt s.heap.objs.size)->IsPair g TO x y->QH Qq g i l (p+1)->QH Qv g j m (q+1)->IsPair g s.heap.objs.size x y->g.objs.size=s.heap.objs.size+1 ->
   (∀c o,c≠z->c≠TO->c≠i->c≠j->s.heap.get? c=some o->g.get? c=some o)->Q (some (.ref s.heap.objs.size)) { s with heap:=g }) :
  wpAny (model prog w) A (pyNext (.ref z)) Q E s:=by
 have ty:s.TypeIs (.ref z) "zip":=⟨_,qz,rfl⟩
 have Z:ZS Qq Qv s.heap s.heap z TI TO i j l m xs ys .none p q a b:=⟨qz,qI,qO,p1,p2,r1,r2,λ_ _ _ _ _ _ e=>e,rfl⟩
 refine zU (kG (qA (name:=Str.ofString "__next__") ty vF (qS vF ty F.entry_zip_next (Vg hn D Z ?_ ?_) (F.args_zip_next_1 _))))
 ·intro x' y' g g' hx hy Y ez t;rw[ex] at hx;rw[ey] at hy;cases hx;cases hy;rw[Y.sz] at ez ⊢;have lt:=zX Y.zo;have up:∀c o,c≠z->g.get? c=some o->g'.get? c=some o:=λc o n e=>t.extBut _ _ n (zT _ e);refine zV (kQ g' ez (up _ _ D.TOz Y.to) (Y.wi.at λo e=>up _ _ D.i1z e) (Y.wj.at λo e=>up _ _ D.i2z e) ?_ (by rw[t.1,xH,Y.sz]) λc o n1 n2 n3 n4 e=>up c o n1 (Y.kp c o n1 n2 n3 n4 e));rw[<- Y.sz];exact t.extBut _ _ (jE lt) (zW _ rfl)
 ·intro no;rw[ex,ey] at no;rcases no with no|no<;>cases no
def Uj(hn:A.handled=none)(D:ZipApart z TI TO i j l m)
  (qz:IsZip s.heap z TI TO .none) (qI:IsPair s.heap TI (.ref i) (.ref j)) (qO:IsPair s.heap TO a b)
  (p1:QH Qq s.heap i l p) (p2:QH Qv s.heap j m q) (r1:QM Qq s.heap l xs) (r2:QM Qv s.heap m ys) (ends:xs[p]?=none\/ys[q]?=none)
  (kQ:∀g,(∀c o,c≠z->c≠TO->c≠i->c≠j->s.heap.get? c=some o->g.get? c=some o)->Q none { s with heap:=g }):wpAny (model prog w) A (pyNext (.ref z)) Q E s:=by
 have ty:s.TypeIs (.ref z) "zip":=⟨_,qz,rfl⟩
 have Z:ZS Qq Qv s.heap s.heap z TI TO i j l m xs ys .none p q a b:=⟨qz,qI,qO,p1,p2,r1,r2,λ_ _ _ _ _ _ e=>e,rfl⟩
 refine zU (kG (qA (name:=Str.ofString "__next__") ty vF (qS vF ty F.entry_zip_next (Vg hn D Z ?_ ?_) (F.args_zip_next_1 _))))
 ·intro x y g g' hx hy;rw[hx,hy] at ends;rcases ends with no|no<;>cases no
 ·rintro _ g e kp ⟨o,ho,ht⟩;exact zU (wpAny_isInstance (T:="StopIteration") (b:=true) ⟨o,ho,ht⟩ isSubtype_stop (zV (kQ _ kp)))
end
abbrev Vi(b:Bool)(l:Addr):Obj:={ cls:=.type (if b then "tuple_iterator" else "list_iterator"),data:=.fields #[.ref l,.int 0 0] }
abbrev z1(b:Bool)(h:Heap)(l:Addr):Heap:=h.push (Vi b l)
abbrev z2(b c:Bool)(h:Heap)(l m:Addr):Heap:=(z1 b h l).push (Vi c m)
abbrev z3(b c:Bool)(h:Heap)(l m:Addr):Heap:=(z2 b c h l m).push { cls:=.type "tuple",data:=.seq #[.ref h.objs.size,.ref (z1 b h l).objs.size] }
abbrev z4(b c:Bool)(h:Heap)(l m:Addr):Heap:=(z3 b c h l m).push { cls:=.type "tuple",data:=.seq #[.none,.none] }
abbrev z5(b c:Bool)(h:Heap)(l m:Addr):Heap:=(z4 b c h l m).push { cls:=.type "zip",data:=.fields #[.none,.bool false,.bool false,.ref (z2 b c h l m).objs.size,.ref (z3 b c h l m).objs.size] }
def QM.push(x:QM b h l xs)(o:Obj):QM b (h.push o) l xs:=x.at λo' e=>zT _ e
def Tg(b c:Bool)(l m:Addr)(xs ys:Array Value):Meets (Builtin.«zip.__new__» ⟨[.type "zip",.ref l,.ref m],[]⟩) (λ_ R s=>QM b s.heap l xs/\QM c s.heap m ys/\R (.ok (.ret (.ref (z4 b c s.heap l m).objs.size))) { s with heap:=z5 b c s.heap l m }) :=
 .of_wp λprog w A R s h=>by
  let⟨hp,g,d,tk,os⟩:=s;let⟨q1,q2,h⟩:=h;have Te:=sub_zip;cases b<;>cases c
  ·have L1:Heap.IsList (Shared.heap ⟨hp,g,d,tk,os⟩) l xs:=q1;have L2:Heap.IsList (Shared.heap ⟨hp.push { cls:=.type "list_iterator",data:=.fields #[.ref l,.int 0 0] },g,d,tk,os⟩) m ys:=QM.push (b:=false) q2 _
   wp_walk using qH L1,qH L2
   exact⟨_,rfl,h⟩
  ·have L1:Heap.IsList (Shared.heap ⟨hp,g,d,tk,os⟩) l xs:=q1;have L2:Heap.IsTuple (Shared.heap ⟨hp.push { cls:=.type "list_iterator",data:=.fields #[.ref l,.int 0 0] },g,d,tk,os⟩) m ys:=QM.push (b:=true) q2 _
   wp_walk using qH L1,xP L2
   exact⟨_,rfl,h⟩
  ·have L1:Heap.IsTuple (Shared.heap ⟨hp,g,d,tk,os⟩) l xs:=q1;have L2:Heap.IsList (Shared.heap ⟨hp.push { cls:=.type "tuple_iterator",data:=.fields #[.ref l,.int 0 0] },g,d,tk,os⟩) m ys:=QM.push (b:=false) q2 _
   wp_walk using xP L1,qH L2
   exact⟨_,rfl,h⟩
  ·have L1:Heap.IsTuple (Shared.heap ⟨hp,g,d,tk,os⟩) l xs:=q1;have L2:Heap.IsTuple (Shared.heap ⟨hp.push { cls:=.type "tuple_iterator",data:=.fields #[.ref l,.int 0 0] },g,d,tk,os⟩) m ys:=QM.push (b:=true) q2 _
   wp_walk using xP L1,xP L2
   exact⟨_,rfl,h⟩
def R1(e:h.get? it=some (Vi b l)):QH b h it l 0:=by
 cases b
 ·exact⟨_,e,rfl,rfl⟩
 ·exact⟨_,e,rfl,rfl⟩
def SG(q1:QM b s.heap l xs)(q2:QM c s.heap m ys)
  (h:∀g,IsZip g (s.heap.objs.size+4) (s.heap.objs.size+2) (s.heap.objs.size+3) .none->IsPair g (s.heap.objs.size+2) (.ref s.heap.objs.size) (.ref (s.heap.objs.size+1))->IsPair g (s.heap.objs.size+3) .none .none ->
   QH b g s.heap.objs.size l 0->QH c g (s.heap.objs.size+1) m 0->(∀a o,s.heap.get? a=some o->g.get? a=some o)->Q (.ref (s.heap.objs.size+4)) { s with heap:=g }) :
  wpAny (model prog w) A (call (.type "zip") [.ref l,.ref m]) Q E s:=by
 refine callType_new F.called_zip (by decide) (F.typeCall_zip_2 _ _) (F.newCall_zip_2 _ _) (λobj=>F.args_object_init_3 obj _ _) F.entry_zip_new (Tg b c l m xs ys) ⟨q1,q2,?_⟩;have n1:(z1 b s.heap l).objs.size=s.heap.objs.size+1:=xH ..;have n2:(z2 b c s.heap l m).objs.size=s.heap.objs.size+2:=by rw[xH,n1]
 have n3:(z3 b c s.heap l m).objs.size=s.heap.objs.size+3:=by rw[xH,n2]
 have n4:(z4 b c s.heap l m).objs.size=s.heap.objs.size+4:=by rw[xH,n3]
 have g5:(z5 b c s.heap l m).get? (z4 b c s.heap l m).objs.size=some _:=zW _ rfl;have g4:(z5 b c s.heap l m).get? (z3 b c s.heap l m).objs.size=some _:=zT _ (zW _ rfl);have g3:(z5 b c s.heap l m).get? (z2 b c s.heap l m).objs.size=some _:=zT _ (zT _ (zW _ rfl));have g2:(z5 b c s.heap l m).get? (z1 b s.heap l).objs.size=some (Vi c m):=zT _ (zT _ (zT _ (zW _ rfl)));have g1:(z5 b c s.heap l m).get? s.heap.objs.size=some (Vi b l):=zT _ (zT _ (zT _ (zT _ (zW _ rfl))));show _/\_;rw[n2,n3,n4] at g5;rw[n1,n2] at g3;rw[n3] at g4;rw[n1] at g2;rw[n4];exact⟨⟨_,g5,rfl⟩,h _ g5 g3 g4 (R1 g1) (R1 g2) λa o x=>zT _ (zT _ (zT _ (zT _ (zT _ x))))⟩
end Zp
namespace Dl
open PySem L2 PySem.Spec PyProof.Rows Zp
def qc(K:W.Frag)(b:Bool)(a:Addr)(H:Hp)(xs:List V):Prop:=match b with|true=>eE K H a xs|false=>eH K H a xs
def qc.src(I:Inv X pins σ H s)(h:qc X.K b a H xs):∃its:List Value,aA xs its/\QM b s.heap a its.toArray/\xs.length<=sizeLine:=by
 cases b
 ·let⟨its,rv,pl,hz⟩:=I.list (show eH X.K H a xs from h);exact⟨its,rv,pl.isList,hz⟩
 ·let⟨its,rv,pl,hz⟩:=I.tuple (show eE X.K H a xs from h);exact⟨its,rv,pl,hz⟩
def qc.ne(I:Inv X pins σ H s)(hf:fP X pins H c)(h:qc X.K b a H xs):a≠c:=by
 cases b
 ·exact Kd I hf h
 ·exact Jc I hf h
def qc.inj(I:Inv X pins σ H s)(h:qc X.K b a H xs)(h':qc X.K b a H ys):xs=ys:=by
 cases b
 ·exact I.Rv h h'
 ·exact I.Rh h h'
def qc.mono{K:W.Frag}(e:aK H H')(h:qc K b a H xs):qc K b a H' xs:=by
 cases b
 ·exact e.seq h
 ·exact ax e h
def Bc{K:W.Frag}(b c:Bool)(l1 l2 z TI TO i1 i2:Addr)(Z:Px z TI TO i1 i2) :
  Turn P w K (.Tuple elts k pos) (N6 (qc K b l1) (qc K c l2)) [z,TI,TO,i1,i2] z (λi h=>IsZip h z TI TO .none/\IsPair h TI (.ref i1) (.ref i2)/\(∃a b,IsPair h TO a b)/\QH b h i1 l1 i/\QH c h i2 l2 i) where
 mem:=by simp
 obj:=λi h st d hd=>by
  let⟨hz,Th,⟨a,b',TL⟩,p1,p2⟩:=st;simp?[zQ,yE,xR] at hd;rcases hd with rfl|rfl|rfl|rfl|rfl
  ·exact⟨_,hz,λv q=>by have q:Data.fields _=Data.cell v:=q;cases q⟩
  ·exact⟨_,Th,λv q=>by have q:Data.seq _ _=Data.cell v:=q;cases q⟩
  ·exact⟨_,TL,λv q=>by have q:Data.seq _ _=Data.cell v:=q;cases q⟩
  ·exact p1.obj
  ·exact p2.obj
 keep:=λi h h' st kk=>by
  let⟨hz,Th,⟨a,b',TL⟩,h1,h2⟩:=st;exact⟨kk z (by simp) _ hz,kk TI (by simp) _ Th,⟨a,b',kk TO (by simp) _ TL⟩,h1.at λo q=>kk i1 (by simp) o q,h2.at λo q=>kk i2 (by simp) o q⟩
 item:=by
  intro X hP hw hK hc i pins s σ H E I hf st hg;subst hP hw hK;let⟨xs,ys,x,y,RH,RI,hx,hy⟩:=hg;let⟨WS,WT,p1,Zr⟩:=RH.src I;let⟨QS,WU,p2,Zs⟩:=RI.src I;let⟨u1,Zt,Zu⟩:=WT.get hx;let⟨u2,Zv,Zw⟩:=WU.get hy;have D:ZipApart z TI TO i1 i2 l1 l2:=⟨Z.a1,Z.a2,Z.a3,Z.a4,Z.a5,Z.a6,Z.a7,Z.a8,Z.a9,Z.a0,RH.ne I (hf z (by simp)),RH.ne I (hf TO (by simp)),RH.ne I (hf i1 (by simp)),RH.ne I (hf i2 (by simp)),RI.ne I (hf z (by simp)),RI.ne I (hf TO (by simp)),RI.ne I (hf i1 (by simp)),RI.ne I (hf i2 (by simp))⟩
  let⟨hz,Th,⟨a,b',TL⟩,h1,h2⟩:=st;refine Vh (I.ok.hd hc) D hz Th TL h1 h2 p1 p2 (x:=u1) (y:=u2) (by simpa using Zt) (by simpa using Zv) λg b1 b2 b3 b4 b5 b6 hk=>⟨.ref s.heap.objs.size,rfl,?_⟩
  have lt:∀ {c:Addr}{o:Obj},s.heap.get? c=some o->s.heap.objs.size≠c:=λe=>jE (zX e);refine wpAny_letOwnedTupleGo_zip (s:={ s with heap:=g }) b1 λg' TJ Rt=>?_;have X7:g'.get? s.heap.objs.size=some { cls:=.type "tuple",data:=.seq #[u1,u2] }:=Rt.extBut _ _ (lt hz) b5;have ht:mz g' s.heap.objs.size (List.toArray [u1,u2]):=⟨⟨_,X7,rfl,_,rfl⟩,_,X7,rfl⟩
  refine⟨.ref s.heap.objs.size,_,uq (ch:=[z,TI,TO,i1,i2]) (xs:=[x,y]) (t':=s.toks) I hf (λb o hb q=>?_) (yK _) ht (.cons Zu (.cons Zw .nil)) (by show 2<=sizeLine;decide),rfl,
   ⟨s.heap.objs.size,x,y,rfl,I.fresh,rfl,λzs Vj=>by rw[Vj.inj I RH];exact hx,λzs Vj=>by rw[Vj.inj I RI];exact hy⟩,
   ⟨TJ,Rt.extBut _ _ Z.a1 (hk _ _ D.TIz D.TITO D.TIi1 D.TIi2 Th),⟨_,_,Rt.extBut _ _ Z.a2 b2⟩,b3.extBut Rt.extBut Z.a3,b4.extBut Rt.extBut Z.a4⟩,λb hb=>?_⟩
  ·simp?[zQ,yE,xR,not_or] at hb;exact Rt.extBut _ _ hb.1 (hk b o hb.1 hb.2.2.1 hb.2.2.2.1 hb.2.2.2.2 q)
  ·have:s.heap.objs.size≠b:=by
    simp?[zQ,yE,xR] at hb;let⟨o1,g1,_⟩:=h1.obj;let⟨o2,g2,_⟩:=h2.obj;rcases hb with rfl|rfl|rfl|rfl|rfl
    ·exact lt hz
    ·exact lt Th
    ·exact lt TL
    ·exact lt g1
    ·exact lt g2
   rw[aE (jJ this)];exact (hf b hb).1
 done:=by
  intro X hP hw hK hc i pins s σ H E I hf st hg;subst hP hw hK;let⟨xs,ys,RH,RI,hx⟩:=hg;let⟨WS,WT,p1,Zr⟩:=RH.src I;let⟨QS,WU,p2,Zs⟩:=RI.src I;have D:ZipApart z TI TO i1 i2 l1 l2:=⟨Z.a1,Z.a2,Z.a3,Z.a4,Z.a5,Z.a6,Z.a7,Z.a8,Z.a9,Z.a0,RH.ne I (hf z (by simp)),RH.ne I (hf TO (by simp)),RH.ne I (hf i1 (by simp)),RH.ne I (hf i2 (by simp)),RI.ne I (hf z (by simp)),RI.ne I (hf TO (by simp)),RI.ne I (hf i1 (by simp)),RI.ne I (hf i2 (by simp))⟩
  let⟨hz,Th,⟨a,b',TL⟩,h1,h2⟩:=st;have e1:=WT.length;have e2:=WU.length;refine Uj (I.ok.hd hc) D hz Th TL h1 h2 p1 p2 (hx.elim (λq=>.inl (by simp;lia)) λq=>.inr (by simp;lia)) λg hk=>⟨rfl,?_⟩
  refine AI (ch:=[z,TI,TO,i1,i2]) (t':=s.toks) I hf λb o hb q=>?_;simp?[zQ,yE,xR,not_or] at hb;exact hk b o hb.1 hb.2.2.1 hb.2.2.2.1 hb.2.2.2.2 q
 self:=λ_ _ _ _ _ st h=>wpAny_pyIter_zip st.1 h
def G8(B:mv X "zip" (.type "zip"))(ha:PA X [l,l'] tl)(hs:starEach [l,l'] X.env=(false,eval l X.env)::starEach [l'] X.env)(Sl:(backTo pos (starEach [l'] X.env)).any (·.1)=false) :
  PI X (.Tuple elts k tp) (.Call (.Name "zip" p) [l,l'] [] pos) (λσ H R=>tl σ H λvs H1=>∃a b,vs=[.ref a,.ref b]/\∃c d xs ys,qc X.K c a H1 xs/\qc X.K d b H1 ys/\R (N6 (qc X.K c a) (qc X.K d b)) H1):=by
 intro pins s σ H R I h;refine Call_ (gL I B.gl B.mg B.bt (qP (bC (ha pos pins s σ H _ I h) λus s1 ⟨vs,H1,I1,r1,q1⟩=>?_) hs Sl));let⟨a,b,e,c,d,xs,ys,RH,RI,q⟩:=q1;subst e;let⟨u,u',rfl,rx,ry⟩:=vals2 r1;cases rx;cases ry;let⟨its,rv,pl,hz⟩:=RH.src I1;let⟨its',rv',Zx,TJ⟩:=RI.src I1;refine SG pl Zx λg b1 b2 b3 b4 b5 kp=>wpAny_pyIter_zip (s:={ s1 with heap:=g }) b1 ?_;refine⟨_,_,_,_,H1,rfl,I1.kept (t':=s1.toks) kp,Bc c d a b (s1.heap.objs.size+4) (s1.heap.objs.size+2) (s1.heap.objs.size+3) s1.heap.objs.size (s1.heap.objs.size+1) ?_,⟨b1,b2,⟨_,_,b3⟩,b4,b5⟩,λc hc=>?_,q⟩
 ·constructor<;>(intro z;have z:(_:Nat)=_:=z;lia)
 ·have TF:s1.heap.objs.size<=c:=by
   simp?[zQ,yE,xR] at hc;rcases hc with rfl|rfl|rfl|rfl|rfl
   ·exact jR _ _
   ·exact jR _ _
   ·exact jR _ _
   ·exact yK _
   ·exact jR _ _
  exact I1.Q9 TF (I1.Qh.fresh TF)
def Mg:List D->Option (List D):=λds=>match ds with
 | [x,y]=>(fA x).bind λxs=>(fA y).map λys=>hZ xs ys
 | _=>none
def wI{K:W.Frag}(h:fA d=some xs)(r:Rep K HF d v):∃b a vs,v=.ref a/\qc K b a HF vs/\au K HF xs vs:=by
 rcases gD h with rfl|rfl
 ·simp?[Rep] at r;let⟨a,vs,rfl,q,rr⟩:=r;exact⟨true,a,vs,rfl,q,rr⟩
 ·simp?[Rep] at r;let⟨a,vs,rfl,q,rr⟩:=r;exact⟨false,a,vs,rfl,q,rr⟩
def dQ(fs:Env->Option (List D)):Env->Option (List D):=λρ=>(fs ρ).bind Mg
def HR(B:mv X "zip" (.type "zip"))(hs:starEach [l,l'] X.env=(false,eval l X.env)::starEach [l'] X.env)(Sl:(backTo pos (starEach [l'] X.env)).any (·.1)=false)(h:DA X [l,l'] fs) :
  DI X (.Tuple elts k tp) (.Call (.Name "zip" p) [l,l'] [] pos) (dQ fs) :=
 lD (G8 B h hs Sl) λσ H R ⟨HF,ρ,ds,sm,eo,hf,q⟩=>by
  let⟨x,hx,hf⟩:=bs hf;refine⟨HF,ρ,_,sm,eo,hx,λvs H1 Qf g1 r1=>?_⟩;unfold Mg at hf;split at hf
  ·let⟨xs,h1,hf⟩:=bs hf;let⟨ys,h2,rfl⟩:=af hf;let⟨v,r',rfl,a,b⟩:=r1.cons_inv;let⟨v',r'',rfl,a',b'⟩:=b.cons_inv;rw[b'.nil_inv];let⟨c,ad,us,rfl,hq,rr⟩:=wI h1 a;let⟨c',Zy,WV,rfl,X8,Zz⟩:=wI h2 a';exact⟨ad,Zy,rfl,c,c',us,WV,hq.mono g1.fh,X8.mono g1.fh,q _ H1 Qf g1 (Ct hq (λ_ _ s h=>h.mono s) X8 (λ_ _ s h=>h.mono s) rr Zz)⟩
  ·cases hf
end Dl
namespace Zp
open PySem PyProof.Rows
def QH.ne(x:QH b h it l k)(y:QM b h l xs):l≠it:=by
 rintro rfl;cases b
 ·let⟨o,e,c,d⟩:=(show h.IsListIter l l k from x)
  let⟨o',e',r⟩:=(show h.IsList l xs from y)
  rw[e] at e';cases e';simp_all
 ·let⟨o,e,c,d⟩:=(show h.IsTupleIter l l k from x)
  let⟨o',e',r⟩:=(show h.IsTuple l xs from y)
  rw[e] at e';cases e';simp_all
def Uk(hn:A.handled=none)(b:Bool)(it l:Addr)(xs:Array Value):Draws prog w A it [it,l] xs.size (λi x=>xs[i]?=some x) (λi h=>QH b h it l i/\QM b h l xs) where
 live:=λi h st=>let ⟨o,e,_⟩:=st.1.obj;⟨o,e⟩
 frame:=λi h h' st k=>⟨st.1.at (k it (by simp)),st.2.at (k l (by simp))⟩
 item:=λi s Q E hi st hQ=>WR st.1 st.2 (v:=xs[i]) (by simp[hi]) λg e t=>hQ _ g s.toks (by simp[hi]) ⟨e,st.2.extBut t.extBut (st.1.ne st.2)⟩ t
 done:=λs Q E st hE=>Tf hn st.1 st.2 (by simp) hE
def Vk{Qq:Bool}{e it l:Addr}{i:Nat}{items:Array Value}{x old:Value}{Q:Option Value->Shared->Prop}(hn:A.handled=none)
  (qe:IsEnum s.heap e it i old) (qi:QH Qq s.heap it l i) (ql:QM Qq s.heap l items) (ex:items[i]?=some x) (X9:e≠it)
  (kQ:∀g tk,IsEnumOut g e it ((i:Int)+1) x s.heap.objs.size->QH Qq g it l (i+1)->g.get? s.heap.objs.size=some { cls:=.type "tuple",data:=.seq #[.int i tk,x] } ->
   g.objs.size=s.heap.objs.size+1->(∀c o,c≠e->c≠it->s.heap.get? c=some o->g.get? c=some o)->Q (some (.ref s.heap.objs.size)) { s with heap:=g,toks:=tk+1 }) :
  wpAny (model prog w) A (pyNext (.ref e)) Q E s:=by
 have ZA:e≠l:=by
  rintro rfl;cases Qq
  ·let⟨o,e1,r⟩:=(show s.heap.IsList e items from ql)
   rw[qe] at e1;cases e1;simp at r
  ·let⟨o,e1,r⟩:=(show s.heap.IsTuple e items from ql)
   rw[qe] at e1;cases e1;simp at r
 have D:Draws prog w A.in1 it [it,l] items.size (λi x=>items[i]?=some x) (λi h=>QH Qq h it l i/\QM Qq h l items):=Uk (A:=A.in1) hn Qq it l items;refine wpAny_pyNext_enum_itemD D qe ⟨qi,ql⟩ (Array.getElem?_eq_some_iff.mp ex).1 X9 (by simp[X9,ZA]) λy g tk hy a b c d k=>?_;rw[ex] at hy;cases hy;exact kQ g tk a b.1 c d k
end Zp
namespace Dl
open PySem L2 PySem.Spec PyProof.Rows Zp
def nJ{K:W.Frag}(b:Bool)(a it e:Addr)(Yb:e≠it):Turn P w K (.Tuple elts k pos) (Om (qc K b a)) [e,it] e (λi h=>(∃old,IsEnum h e it i old)/\QH b h it a i) where
 mem:=by simp
 obj:=λi h st c hc=>by
  let⟨⟨old,he⟩,hi⟩:=st;rcases List.mem_cons.mp hc with z|z
  ·subst z;exact⟨_,he,λv q=>by have q:Data.fields _=Data.cell v:=q;cases q⟩
  ·rw[List.mem_singleton.mp z];exact hi.obj
 keep:=λi h h' st kk=>⟨let ⟨old,he⟩:=st.1;⟨old,kk e (by simp) _ he⟩,st.2.at λo q=>kk it (by simp) o q⟩
 item:=by
  intro X hP hw hK hc i pins s σ H E I hf st hg;subst hP hw hK;let⟨xs,x,hq,hx⟩:=hg;let⟨its,rv,p,hz⟩:=hq.src I;let⟨u,hu,ru⟩:=rv.get hx;let⟨⟨old,he⟩,hi⟩:=st;refine Vk (I.ok.hd hc) he hi p (x:=u) (by simpa using hu) Yb λg tk b1 b2 b3 b4 hk=>⟨.ref s.heap.objs.size,rfl,?_⟩
  have lt:∀ {c:Addr}{o:Obj},s.heap.get? c=some o->s.heap.objs.size≠c:=λe=>jE (zX e);have UY:s.heap.objs.size≠e:=lt he;refine wpAny_letOwnedTupleGo_enum (s:={ s with heap:=g,toks:=tk+1 }) b1 λg' Va Rt=>?_;have Yc:g'.get? s.heap.objs.size=some { cls:=.type "tuple",data:=.seq #[.int i tk,u] }:=Rt.extBut _ _ UY b3;have ht:mz g' s.heap.objs.size (List.toArray [Value.int (i:Nat) tk,u]):=⟨⟨_,Yc,rfl,_,rfl⟩,_,Yc,rfl⟩
  refine⟨.ref s.heap.objs.size,_,uq (ch:=[e,it]) (xs:=[.int (i:Nat),x]) (t':=tk+1) I hf (λc o hb q=>?_) (yK _) ht (.cons ⟨_,rfl⟩ (.cons ru .nil)) (by show 2<=sizeLine;decide),rfl,
   ⟨s.heap.objs.size,x,rfl,I.fresh,rfl,λzs Vj=>by rw[Vj.inj I hq];exact hx⟩,⟨⟨_,Va⟩,b2.extBut Rt.extBut (jJ Yb)⟩,λc Q2=>?_⟩
  ·simp?[zQ,yE,xR,not_or] at hb;exact Rt.extBut _ _ hb.1 (hk c o hb.1 hb.2 q)
  ·have:s.heap.objs.size≠c:=by
    simp?[zQ,yE,xR] at Q2;let⟨o1,g1,_⟩:=hi.obj;rcases Q2 with rfl|rfl
    ·exact lt he
    ·exact lt g1
   rw[aE (jJ this)];exact (hf c Q2).1
 done:=by
  intro X hP hw hK hc i pins s σ H E I hf st hg;subst hP hw hK;let⟨xs,hq,hx⟩:=hg;let⟨its,rv,p,hz⟩:=hq.src I;have hh:X.A.in1.handled=none:=I.ok.hd hc;have hl:=rv.length;let⟨⟨old,he⟩,hi⟩:=st;have hT:s.TypeIs (.ref e) "enumerate":=⟨_,he,rfl⟩
  unfold pyNext;refine zU (kG (qA (name:=Str.ofString "__next__") hT F.slot_enumerate_next (qS F.slot_enumerate_next hT F.entry_enumerate_next ?_ (F.args_enumerate_next_1 _))));refine zU (m:=field (.ref e) 2) (qQ he rfl (x:=.ref it) rfl ?_);refine zU (Tf hh hi p (by simp;lia) λh1 x k1 ZC=>?_);let⟨o,ho,ZD⟩:=ZC;refine zU (wpAny_isInstance (T:="StopIteration") (b:=true) ⟨o,ho,ZD⟩ isSubtype_stop (zV ⟨rfl,?_⟩));let⟨f0,f1,f2,f3,f4,f5⟩:=hf it (by simp);exact I.turned (t':=s.toks) (λb o hb q=>k1 b o hb q) f0 f1 f3 f4 f5
 self:=λ_ _ _ _ _ st h=>let ⟨_,he⟩:=st.1;vV he h
def Gy(B:mv X "enumerate" (.type "enumerate"))(ha:PA X [l] tl)(hs:starEach [l] X.env=[(false,eval l X.env)]):PI X (.Tuple elts k tp) (.Call (.Name "enumerate" p) [l] [] pos) (λσ H R=>tl σ H λvs H1=>∃a,vs=[.ref a]/\∃b xs,qc X.K b a H1 xs/\R (Om (qc X.K b a)) H1):=by
 intro pins s σ H R I h;refine Call_ (gL I B.gl B.mg B.bt (qP (bC (ha pos pins s σ H _ I h) λus s1 ⟨vs,H1,I1,r1,q1⟩=>?_) hs rfl));let⟨a,e,b,xs,hq,q⟩:=q1;subst e;let⟨u,rfl,rx⟩:=vals1 r1;cases rx;have fresh:∀b∈[s1.heap.objs.size+1,s1.heap.objs.size],fP X pins H1 b:=λb hb=>by
  rcases List.mem_cons.mp hb with z|z
  ·subst z;exact I1.Q9 (Nat.le_succ _) (I1.Qh.fresh (Nat.le_succ _))
  ·cases List.mem_singleton.mp z;exact I1.Q9 (yK _) I1.fresh
 let⟨its,rv,pl,hz⟩:=hq.src I1;cases b with
 | false =>
  refine call_enumerate_list pl λh' he hit hsz kp=>vV (s:={ s1 with heap:=h' }) he ?_;exact⟨_,_,_,_,H1,rfl,I1.kept (t':=s1.toks) kp,nJ false a s1.heap.objs.size (s1.heap.objs.size+1) (Nat.succ_ne_self _),⟨⟨_,he⟩,hit⟩,fresh,q⟩
 | true =>
  refine En.RP (show s1.heap.IsTuple a its.toArray from pl) λh' he hit hsz kp=>vV (s:={ s1 with heap:=h' }) he ?_;exact⟨_,_,_,_,H1,rfl,I1.kept (t':=s1.toks) kp,nJ true a s1.heap.objs.size (s1.heap.objs.size+1) (Nat.succ_ne_self _),⟨⟨_,he⟩,hit⟩,fresh,q⟩
def cE(fs:Env->Option (List D)):Env->Option (List D):=λρ=>(fs ρ).bind λds=>(c7 ds).map (cY 0)
def Hh(B:mv X "enumerate" (.type "enumerate"))(h:DA X [l] fs)(hs:starEach [l] X.env=[(false,eval l X.env)]):DI X (.Tuple elts k tp) (.Call (.Name "enumerate" p) [l] [] pos) (cE fs) :=
 lD (Gy B h hs) λσ H R ⟨HF,ρ,ds,sm,eo,hf,q⟩=>by
  let⟨x,hx,hf⟩:=bs hf;let⟨es,h1,rfl⟩:=af hf;let⟨d,h0,h1⟩:=bs h1;rw[fg h0] at hx;refine⟨HF,ρ,_,sm,eo,hx,λvs H1 Qf g1 r1=>?_⟩;let⟨v,r',rfl,a,b⟩:=r1.cons_inv;rw[b.nil_inv];let⟨c,ad,us,rfl,hq,rr⟩:=wI h1 a;exact⟨ad,rfl,c,us,hq.mono g1.fh,q _ H1 Qf g1 (Az hq (λ_ _ s h=>h.mono s) rr)⟩
end Dl
namespace Sy
open PySem PySem.W PySem.Calls PyProof.Rows L2
end Sy
namespace Dl
open PySem L2 PySem.Spec PyProof.Rows
section
structure Im(X:Cx)(qual:Str):Prop where
 ex:∃c P,X.env.code=.ref c/\X.env.qual++"<lambda>"=qual/\W.codeHdIn X.K c P=true/\∀HF,dv X.K HF->HF P=some (.tab qual)
variable {fl te:Env->Option D}{cs:List Nat}
end
end Dl
namespace Sy
open PySem PySem.W PySem.Calls PyProof.Rows L2
end Sy
namespace Dl
open PySem L2 PySem.Spec PyProof.Rows
section
variable {cs:List Nat}
end
def OE(i j l:Nat):Env->D->Option Env:=λρ d=>match d with
 | .tuple [x,y,z]=>if isFree ρ i=true/\isFree ρ j=true/\isFree ρ l=true then some (((ρ.set i (some x)).set j (some y)).set l (some z)) else none
 | _=>none
def Ef(i j l:Nat)(hc:X.calm=true)(hN:X.N.Nodup)(hi:X.N[i]?=some x)(hx:Loc X.env.scope x)(hj:X.N[j]?=some y)(hy:Loc X.env.scope y)(hl:X.N[l]?=some z)(hz:Loc X.env.scope z)
  (hf:X.fn x=true\/X.env.scope.names.lookup x=some .local) (SQ:X.fn y=true\/X.env.scope.names.lookup y=some .local) (WW:X.fn z=true\/X.env.scope.names.lookup z=some .local) :
  DG X (.Tuple [.Name x px,.Name y py,.Name z pz] k pos) (OE i j l) :=
 lr (sr hc (cL (cO hN hi hx hf) (cL (cO hN hj hy SQ) (cL (cO hN hl hz WW) mX)))) λv σ H Q ⟨HF,ρ,d,ρ',sm,eo,r,hf,q⟩=>by
  unfold OE at hf;split at hf
  ·rename_i x' y' z';split at hf
   ·rename_i hh;cases hf;simp?[Rep] at r;let⟨a,vs,rfl,hs,rr⟩:=r;let⟨v1,r1,rfl,a1,b1⟩:=rr.cons_inv;let⟨v2,r2,rfl,a2,b2⟩:=b1.cons_inv;let⟨v3,r3,rfl,a3,b3⟩:=b2.cons_inv;rw[b3.nil_inv] at hs;exact⟨a,_,rfl,ax sm hs,rfl,v1,_,rfl,v2,_,rfl,v3,_,rfl,rfl,q _ (iC (iC (iC eo a1) a2) a3) (iM (iM (iM eo hh.1) hh.2.1) hh.2.2)⟩
   ·cases hf
  ·cases hf
def NJ(x y:D):Option Bool:=match y with
 | .tuple ds=>if SeqAt.shaped x=true/\SeqAt.shaped y=true then some (!ds.any λz=>PyData.eqv z x) else none
 | .list ds=>if SeqAt.shaped x=true/\SeqAt.shaped y=true then some (!ds.any λz=>PyData.eqv z x) else none
 | _=>none
def Ck(hu:X.A.units+66 < cLine):eN X (compareOp .NotIn) (KE X.K NJ):=by
 intro pins s σ H v1 v2 u1 u2 Q I rx ry h;let⟨HF,x,y,k,sm,r1,r2,hg,q⟩:=h;let⟨as,ra⟩:=da I sm r1 rx;let⟨bs,rb⟩:=da I sm r2 ry;cases y<;>simp?[NJ] at hg<;>try cases hg
 all_goals
  split at hg<;>cases hg;rename_i ds hh;have c1:=jZ hh.1;have c2:=jZ hh.2;have d1:=SeqAt.depth_of_shaped hh.1;simp?[PyData.canLay0] at c2;have m:=Nat.min_le_right (PyData.depthAll ds) x.depth
  first
   | exact SeqAt.notIn_list_reads rb ra c2 c1 (by lia) ⟨.bl _,H,I,rfl,q⟩
   | exact SeqAt.notIn_tuple_reads rb ra c2 c1 (by lia) ⟨.bl _,H,I,rfl,q⟩
def K0:D->D->Option D:=λx y=>(NJ x y).map PyData.bool
def Bk.Vl(C:Bk X N sc k)(ha:DE X a fa)(hb:DE X b fb)(hm:behindInMarks .NotIn b=false:=by rfl):DE X (.Compare a [.NotIn] [b] pos) (f2 K0 fa fb):=d6 (Ck C.VR) d7 ha hb hm
def Bk.WX(C:Bk X N sc k)(ha:DE X a fa)(hb:DE X b fb)(hm:behindInMarks .NotIn b=false:=by rfl):DT X (.Compare a [.NotIn] [b] pos) (fB (f2 K0 fa fb)):=dX (Ck C.VR) d7 ha hb hm
structure OW(h:Heap)(v:Value)(r:List Int):Prop where
 ex:∃ (a:Addr) (o:Obj) (n:Nat) (p:Value) (x y m:Int) (t:Tok),v=.ref a/\r=[x,y,m]/\h.get? a=some o/\o.cls=.type "tuple"/\o.data=.seq #[p,.int m t] n/\rF h p [x,y]
end Dl
namespace HT
open PySem PyProof.Rows
section
open PySem.SeqAt
open PySem.AutoSeq1 (wpAny_loadPart')
open PySem.MeetsSeq PySem.MeetsSeq2 PySem.MeetsSeq3
end
end HT
namespace Dl
open PySem L2 PySem.Spec PyProof.Rows
section
variable {fl te:Env->Option D}{cs:List Nat}
end
def strsOf:List D->Option (List Str)
 | []=>some []
 | .str x::r=>(strsOf r).map (x::·)
 | _::_=>none
def l4:∀ {ds:List D}{xs:List Str},strsOf ds=some xs->ds=xs.map PyData.str
 | [],xs,h=>by cases h;rfl
 | d::ds,xs,h=>by
  cases d<;>try cases h
  let⟨ys,h1,rfl⟩:=af (show (strsOf ds).map _=some xs from h);rw[zI,<- l4 h1]
def oM:∀xs:List Str,strsOf (xs.map PyData.str)=some xs
 | []=>rfl
 | x::xs=>by rw[zI,strsOf,oM xs];rfl
def pO{K:W.Frag}:∀ {xs:List Str}{vs:List V},au K H (xs.map PyData.str) vs->vs=xs.map V.str
 | [],vs,h=>h.nil_inv
 | x::xs,vs,h=>by
  let⟨v,r,rfl,a,c⟩:=h.cons_inv;simp?[Rep] at a;rw[a,pO c];rfl
def km{K:W.Frag}:∀xs:List Str,au K H (xs.map PyData.str) (xs.map V.str)
 | []=>au.nil
 | x::xs=>au.cons (by simp[Rep]) (km xs)
def pk:∀ {xs:List Str}{us:List Value},aA (xs.map V.str) us->∃l:List (Str×Tok),us=strValues l/\l.map (·.1)=xs
 | [],us,h=>by cases h;exact⟨[],rfl,rfl⟩
 | x::xs,us,h=>by
  rw[zI] at h;cases h with
  | cons r rr =>
   let⟨t,rfl⟩:=r;let⟨l,rfl,e⟩:=pk rr;exact⟨(x,t)::l,rfl,by rw[zI,e]⟩
def ka:∀l:List (Str×Tok),aA ((l.map (·.1)).map V.str) (strValues l)
 | []=>.nil
 | (x,t)::l=>.cons ⟨t,rfl⟩ (ka l)
def bZ:D->D->Option D
 | .str a,.str b=>if a.length+b.length<=sizeLine then some (.str (a++b)) else none
 | _,_=>none
def Cc{K:W.Frag}:di K (λx y H Q=>∃i j,x=.str i/\y=.str j/\i.length+j.length<=sizeLine/\Q (.str (i++j)) H) bZ:=by
 intro HF H x y v1 v2 d Q sm r1 r2 hg q;cases x<;>try cases hg
 cases y<;>try cases hg
 rename_i a b;have hg:(if a.length+b.length<=sizeLine then some (PyData.str (a++b)) else none)=some d:=hg;split at hg
 ·rename_i hz;cases hg;simp?[Rep] at r1 r2;exact⟨a,b,r1,r2,hz,q _ H HF (.refl sm) (by simp[Rep])⟩
 ·cases hg
def F0:IV X "str.join" (λx vs H Q=>∃ (sep:Str) (l:Addr) (xs:List Str),x=.str sep/\vs=[.ref l]/\eH X.K H l (xs.map V.str)/\JoinOk sep xs=true/\Q (.str (Txt.join sep xs)) H):=by
 intro pins s σ H x vs v us Q I rx rv h;let⟨sep,l,xs,rfl,rfl,hq,Qh,q⟩:=h;let⟨t,rfl⟩:=rx;let⟨u,rfl,ru⟩:=rv.one;cases ru;let⟨its,r,pl,hz⟩:=I.list hq;let⟨m,rfl,em⟩:=pk r;exact SC.join (l:=m) pl.isList em Qh λt' k=>⟨.str _,H,I.tok _,⟨t',rfl⟩,q⟩
def iT:D->D->Option D
 | .str sep,.list es=>(strsOf es).bind λxs=>if JoinOk sep xs=true then some (.str (Txt.join sep xs)) else none
 | _,_=>none
def F3{fo:Env->Option D}(Qz:attributeBase o "join" X.env (eval o X.env)=eval o X.env)
  (QB:((backTo Qe (starEach [e] X.env)).all (λx=>!x.1)&&(backToKw Qe (keywordEach [] X.env)).all (λx=>x.1.isSome)&&decide ([e].length+([]:List Keyword).length+(if ([]:List Keyword).isEmpty then 0 else 1) < 30))=true)
  (Qm:(apos.endLine == Qe.line)=true) (hs:starEach [e] X.env=(false,eval e X.env)::starEach [] X.env) (ho:DE X o fo) (he:DE X e fe):DE X (.Call (.Attribute o "join" apos) [e] [] Qe) (f2 iT fo fe) :=
 aD (mn PySem.F.plainAttrs_str PySem.F.slot_str_join PySem.F.type_str_join F0 ho (bS he dc hs) Qz QB Qm hs rfl) λσ H Q ⟨HF,ρ,d,sm,eo,hf,q⟩=>by
  let⟨x,hx,hf⟩:=bs hf;let⟨y,hy,hg⟩:=bs hf;refine⟨HF,ρ,x,sm,eo,hx,λv1 H1 Qf g1 r1=>?_⟩;cases x<;>try cases hg
  cases y<;>try cases hg
  rename_i sep es;let⟨xs,h1,hg⟩:=bs (show (strsOf es).bind _=some d from hg);split at hg
  ·rename_i Qh;cases hg;simp?[Rep] at r1;subst r1;refine⟨rfl,Qf,ρ,.list es,g1.fh,eo.mono g1.ff,hy,λv2 H2 Qp g2 r2=>?_⟩;rw[l4 h1] at r2;simp?[Rep] at r2;let⟨l,us,rfl,hl,rr⟩:=r2;rw[pO rr] at hl;exact⟨sep,l,xs,rfl,rfl,g2.fh.seq hl,Qh,q _ H2 Qp (g1.trans g2) (by simp[Rep])⟩
  ·cases hg
def wH{a b:Str}{t t':Tok}{s:Shared}{Q:Value->Shared->Prop}(hb:(b.length == 0)=false)(ha:a.length<=sizeLine)(hn:(Txt.split a b).length<=sizeLine)
  (q:∀ (l:List (Str×Tok)) (k:Nat),l.map (·.1)=Txt.split a b->Q (.ref s.heap.objs.size) { s with heap:=s.heap.push { cls:=.type "list",data:=.seq (strValues l).toArray },toks:=k }) :
  wpAny (model prog w) A (call (.builtin "str.split") [.str a t,.str b t']) Q E s:=by
 have whole:Txt.split a b=[a]->Q (.ref s.heap.objs.size) { s with heap:=s.heap.push { cls:=.type "list",data:=.seq [Value.str a t].toArray } }:=λe=>q [(a,t)] s.toks (by rw[e];rfl);cases h1:(decide (a.length < b.length)||decide (Builtin.Str.strKind a < Builtin.Str.strKind b)) with
 | true=>exact qT PySem.F.slot_str_split (typeIs_str _ _ _) PySem.F.entry_str_split (PySem.F.args_str_split_2 _ _) (meets_str_split_cannot_occur a b t t' h1) (whole (by unfold Txt.split;rw[yJ h1]))
 | false =>
  have n1:¬ (decide (a.length < b.length)||decide (Builtin.Str.strKind a < Builtin.Str.strKind b))=true:=by rw[h1];exact yX
  cases h2:(Builtin.Str.occurrences a b 0 a.length (a.length+1)).isEmpty with
  | true=>exact qT PySem.F.slot_str_split (typeIs_str _ _ _) PySem.F.entry_str_split (PySem.F.args_str_split_2 _ _) (meets_str_split_not_found a b t t' h1 hb h2) (whole (by unfold Txt.split;rw[yL n1,yJ h2]))
  | false =>
   have e:Txt.split a b=Builtin.Str.partsBetween a (Builtin.Str.occurrences a b 0 a.length (a.length+1)) b.length:=by unfold Txt.split;rw[yL n1,yL (by rw[h2];exact yX)]
   rw[e] at hn q;refine qT PySem.F.slot_str_split (typeIs_str _ _ _) PySem.F.entry_str_split (PySem.F.args_str_split_2 _ _) (meets_str_split_sep a b t t' h1 hb h2 ha hn) ?_;rw[strsFrom_eq];exact q (numbered s.toks _) _ (numbered_texts _ _)
def EJ:IV X "str.split" (λx vs H Q=>∃a b:Str,x=.str a/\vs=[.str b]/\(b.length == 0)=false/\a.length<=sizeLine/\(Txt.split a b).length<=sizeLine/\∀D:Addr,H D=none->Q (.ref D) (upd H D (.lst ((Txt.split a b).map V.str)))):=by
 intro pins s σ H x vs v us Q I rx rv h;let⟨a,b,rfl,rfl,hb,ha,hn,q⟩:=h;let⟨t,rfl⟩:=rx;let⟨u,rfl,ru⟩:=rv.one;let⟨t',rfl⟩:=ru;refine wH hb ha hn λl k e=>?_;have hv:=ka l;rw[e] at hv;refine⟨.ref s.heap.objs.size,_,I.laid (t':=k) (o:=.lst ((Txt.split a b).map V.str)) (λ_ _ z=>zT _ z) (yK _) ⟨by rw[zD];exact hn,_,0,hv,zW _ rfl⟩,rfl,q _ I.fresh⟩
def ck:D->D->Option (List D)
 | .str a,.str b=>if (b.length == 0)=false/\a.length<=sizeLine/\(Txt.split a b).length<=sizeLine then some ((Txt.split a b).map PyData.str) else none
 | _,_=>none
def D3{fo:Env->Option D}(Qz:attributeBase o "split" X.env (eval o X.env)=eval o X.env)
  (QB:((backTo Qe (starEach [e] X.env)).all (λx=>!x.1)&&(backToKw Qe (keywordEach [] X.env)).all (λx=>x.1.isSome)&&decide ([e].length+([]:List Keyword).length+(if ([]:List Keyword).isEmpty then 0 else 1) < 30))=true)
  (Qm:(apos.endLine == Qe.line)=true) (hs:starEach [e] X.env=(false,eval e X.env)::starEach [] X.env) (ho:DE X o fo) (he:DE X e fe):DF X (.Call (.Attribute o "split" apos) [e] [] Qe) (iG ck fo fe) :=
 aD (mn PySem.F.plainAttrs_str PySem.F.slot_str_split PySem.F.type_str_split EJ ho (bS he dc hs) Qz QB Qm hs rfl) λσ H Q ⟨HF,ρ,d,sm,eo,hf,q⟩=>by
  let⟨x,hx,hf⟩:=bs hf;let⟨y,hy,hg⟩:=bs hf;refine⟨HF,ρ,x,sm,eo,hx,λv1 H1 Qf g1 r1=>?_⟩;cases x<;>try cases hg
  cases y<;>try cases hg
  rename_i a b;have hg:(if (b.length == 0)=false/\a.length<=sizeLine/\(Txt.split a b).length<=sizeLine then some ((Txt.split a b).map PyData.str) else none)=some d:=hg;split at hg
  ·rename_i hc;cases hg;simp?[Rep] at r1;subst r1;refine⟨rfl,Qf,ρ,.str b,g1.fh,eo.mono g1.ff,hy,λv2 H2 Qp g2 r2=>?_⟩;simp?[Rep] at r2;subst r2;refine⟨a,b,rfl,rfl,hc.1,hc.2.1,hc.2.2,λD hD=>?_⟩;have g3:=g1.trans g2;exact q D _ _ Qp (g3.trans (.own g3.fh hD)) (g3.hh.free hD) (g3.fh.free hD) aF (km _)
  ·cases hg
def Be:IV X "str.index" (λx vs H Q=>∃ (a b:Str) (i:Nat) (r:List Nat),x=.str a/\vs=[.str b]/\Builtin.Str.occurrences a b 0 a.length 1=i::r/\Q (.int i) H):=by
 intro pins s σ H x vs v us Q I rx rv h;let⟨a,b,i,r,rfl,rfl,ho,q⟩:=h;let⟨t,rfl⟩:=rx;let⟨u,rfl,ru⟩:=rv.one;let⟨t',rfl⟩:=ru;exact SC.index ho ⟨.int i,H,I.tok _,⟨_,rfl⟩,q⟩
def yu:D->D->Option D
 | .str a,.str b=>match Builtin.Str.occurrences a b 0 a.length 1 with|i::_=>some (.int ((i:Nat):Int))|[]=>none
 | _,_=>none
def AU{fo:Env->Option D}(Qz:attributeBase o "index" X.env (eval o X.env)=eval o X.env)
  (QB:((backTo Qe (starEach [e] X.env)).all (λx=>!x.1)&&(backToKw Qe (keywordEach [] X.env)).all (λx=>x.1.isSome)&&decide ([e].length+([]:List Keyword).length+(if ([]:List Keyword).isEmpty then 0 else 1) < 30))=true)
  (Qm:(apos.endLine == Qe.line)=true) (hs:starEach [e] X.env=(false,eval e X.env)::starEach [] X.env) (ho:DE X o fo) (he:DE X e fe):DE X (.Call (.Attribute o "index" apos) [e] [] Qe) (f2 yu fo fe) :=
 aD (mn PySem.F.plainAttrs_str PySem.F.slot_str_index PySem.F.type_str_index Be ho (bS he dc hs) Qz QB Qm hs rfl) λσ H Q ⟨HF,ρ,d,sm,eo,hf,q⟩=>by
  let⟨x,hx,hf⟩:=bs hf;let⟨y,hy,hg⟩:=bs hf;refine⟨HF,ρ,x,sm,eo,hx,λv1 H1 Qf g1 r1=>?_⟩;cases x<;>try cases hg
  cases y<;>try cases hg
  rename_i a b;simp?[Rep] at r1;subst r1;refine⟨rfl,Qf,ρ,.str b,g1.fh,eo.mono g1.ff,hy,λv2 H2 Qp g2 r2=>?_⟩;simp?[Rep] at r2;subst r2;cases ho:Builtin.Str.occurrences a b 0 a.length 1 with
  | nil=>simp?[yu,ho] at hg;cases hg
  | cons i r =>
   simp?[yu,ho] at hg;cases hg;exact⟨a,b,i,r,rfl,rfl,ho,q _ H2 Qp (g1.trans g2) (by simp[Rep])⟩
def Mx:D->D->Option Bool
 | .str a,.str b=>some (!(Builtin.Str.occurrences b a 0 b.length 1).isEmpty)
 | _,_=>none
def DJ:eN X (compareOp .In) (KE X.K Mx):=by
 intro pins s σ H v1 v2 u1 u2 Q I rx ry h;let⟨HF,x,y,k,sm,r1,r2,hg,q⟩:=h;cases x<;>try cases hg
 cases y<;>try cases hg
 simp?[Rep] at r1 r2;subst r1 r2;exact AD pins s σ H _ _ u1 u2 Q I rx ry ⟨_,_,rfl,rfl,q⟩
def v7:D->D->Option Bool
 | .str a,.str b=>some (!(!(Builtin.Str.occurrences b a 0 b.length 1).isEmpty))
 | _,_=>none
def CU:eN X (compareOp .NotIn) (KE X.K v7):=by
 intro pins s σ H v1 v2 u1 u2 Q I rx ry h;let⟨HF,x,y,k,sm,r1,r2,hg,q⟩:=h;cases x<;>try cases hg
 cases y<;>try cases hg
 simp?[Rep] at r1 r2;subst r1 r2;exact sy pins s σ H _ _ u1 u2 Q I rx ry ⟨_,_,rfl,rfl,q⟩
def yx(n d:Nat)(o:Option Int)(hd:d<=n):(match o with|none=>((d:Nat):Int)|some i=>max 0 (min (if i < 0 then i+((n:Nat):Int) else i) ((n:Nat):Int)))=((HT.bp n d o:Nat):Int):=by
 cases o with
 | none=>rfl
 | some v =>
  show max 0 (min (if v < 0 then v+((n:Nat):Int) else v) ((n:Nat):Int))=(((if v < 0 then (v+(n:Int)).toNat else min v.toNat n):Nat):Int)
  by_cases h:v < 0
  ·rw[yJ h,yJ h];have:v+(n:Int)<=n:=by lia
   lia
  ·rw[yL h,yL h];lia
def tO(lo hi:Option Int)(n:Nat):Builtin.Str.strSliceIndices lo hi 1 n=(List.range (HT.bp n n hi - HT.bp n 0 lo)).map (λk=>HT.bp n 0 lo+k):=by
 have h1:=yx n 0 lo (xS _);have h2:=yx n n hi (yK _);have e:Builtin.Str.strSliceIndices lo hi 1 n=Builtin.Str.strSliceIndices (some ((HT.bp n 0 lo:Nat):Int)) (some ((HT.bp n n hi:Nat):Int)) 1 n:=by
  have l1:=HT.hJ n 0 (xS _) lo;have l2:=HT.hJ n n (yK _) hi;have a1:max (0:Int) (min ((HT.bp n 0 lo:Nat):Int) (n:Int))=((HT.bp n 0 lo:Nat):Int):=by lia
  have a2:max (0:Int) (min ((HT.bp n n hi:Nat):Int) (n:Int))=((HT.bp n n hi:Nat):Int):=by lia
  have n1:¬ (((HT.bp n 0 lo:Nat):Int) < 0):=by lia
  have n2:¬ (((HT.bp n n hi:Nat):Int) < 0):=by lia
  unfold Builtin.Str.strSliceIndices;simp?[show ((1:Int) > 0)=True from by simp,xF,n1,n2,qM,a1,a2];rw[<- h1,<- h2];cases lo<;>cases hi<;>rfl
 rw[e];rcases Nat.le_total (HT.bp n 0 lo) (HT.bp n n hi) with z|z
 ·exact StrLaws.strSliceIndices_plain z (HT.hJ n n (yK _) hi)
 ·have e0:HT.bp n n hi - HT.bp n 0 lo=0:=by lia
  have l1:=HT.hJ n 0 (xS _) lo;have l2:=HT.hJ n n (yK _) hi;have a1:max (0:Int) (min ((HT.bp n 0 lo:Nat):Int) (n:Int))=((HT.bp n 0 lo:Nat):Int):=by lia
  have a2:max (0:Int) (min ((HT.bp n n hi:Nat):Int) (n:Int))=((HT.bp n n hi:Nat):Int):=by lia
  have n1:¬ (((HT.bp n 0 lo:Nat):Int) < 0):=by lia
  have n2:¬ (((HT.bp n n hi:Nat):Int) < 0):=by lia
  have n3:¬ (((HT.bp n 0 lo:Nat):Int) < ((HT.bp n n hi:Nat):Int)):=by lia
  unfold Builtin.Str.strSliceIndices;simp?[sliceRange,show ((1:Int) > 0)=True from by simp,xF,n1,n2,n3,qM,a1,a2,e0];rfl
def nN(a:Str)(lo hi:Option Int):Str:=⟨(cut a.cps.toList lo hi).toArray⟩
def wF(a:Str)(lo hi:Option Int):(⟨((Builtin.Str.strSliceIndices lo hi 1 a.length).filterMap (a.cps[·]?)).toArray⟩:Str)=nN a lo hi:=by
 unfold nN cut;rw[tO];have hl:a.cps.toList.length=a.length:=by simp[Str.length]
 rw[hl]
 congr 2
 rcases Nat.le_total (HT.bp a.length 0 lo) (HT.bp a.length a.length hi) with z|z
 ·have h:=StrLaws.picks a.cps.toList (HT.bp a.length a.length hi - HT.bp a.length 0 lo) (HT.bp a.length 0 lo) (by
   have:=HT.hJ a.length a.length (yK _) hi;lia)
  simpa using h
 ·have e0:HT.bp a.length a.length hi - HT.bp a.length 0 lo=0:=by lia
  rw[e0];simp
def CA(a:Str)(lo hi:Option Int):(nN a lo hi).length<=a.length:=by
 have:=mS a.cps.toList lo hi;simpa [nN,Str.length] using this
def part_of{v:Value}{o:Option Int}(h:IsPart v o):∃l:Option (Int×Tok),v=partValue l/\l.map (·.1)=o:=by
 cases h with
 | none=>exact⟨none,rfl,rfl⟩
 | int i t=>exact⟨some (i,t),rfl,rfl⟩
def HD(hg:Gl X x)(hm:X.mg x=some (.str i t))(hd:(x == ("__debug__":Str))=false:=by decide):DE X (.Name x pos) (fC (.str i)) :=
 aD (zu (v:=.str i) hg hm ⟨t,rfl⟩ hd) λσ H Q ⟨HF,ρ,d,sm,eo,hf,q⟩=>by cases hf;exact q _ H HF (.refl sm) (by simp[Rep])
def IZ:GE X (λx lo hi H Q=>∃a:Str,x=.str a/\a.length<=sizeLine/\Q (.str (nN a lo hi)) H):=by
 intro pins s σ H x v vl vu lo hi sl Q I rx hs pl pu h;let⟨a,rfl,hz,q⟩:=h;let⟨t,rfl⟩:=rx;let⟨l,rfl,rfl⟩:=part_of pl;let⟨u,rfl,rfl⟩:=part_of pu;refine⟨"str",_,PySem.F.slot_str_getitem.lookup,typeIs_str _ _ _,wpAny_getItem_str_slice (l:=l) (u:=u) (st:=none) hs rfl ?_⟩;have ep:(⟨((slicePicked a l u none).filterMap (a.cps[·]?)).toArray⟩:Str)=nN a (l.map (·.1)) (u.map (·.1)):=wF a _ _;unfold sliceMade;by_cases hw:((Option.map (λx:Int×Tok=>x.1) none).getD 1 == 1&&(slicePicked a l u none).length == a.length)=true
 ·rw[yJ hw];have hlen:(slicePicked a l u none).length=a.length:=by simpa using hw
  have e2:nN a (l.map (·.1)) (u.map (·.1))=a:=by
   have h1:HT.bp a.length a.length (u.map (·.1)) - HT.bp a.length 0 (l.map (·.1))=a.length:=by
    have:(slicePicked a l u none).length=HT.bp a.length a.length (u.map (·.1)) - HT.bp a.length 0 (l.map (·.1)):=by unfold slicePicked;rw[show ((Option.map (λx:Int×Tok=>x.1) none).getD 1:Int)=1 from rfl,tO,zD,zR]
    lia
   have l2:=HT.hJ a.length a.length (yK _) (u.map (·.1));unfold nN cut;have hl:a.cps.toList.length=a.length:=by simp[Str.length]
   rw[hl,h1];by_cases h0:a.length=0
   ·have:a.cps.toList=[]:=List.length_eq_zero_iff.mp (by rw[hl];exact h0);cases a with
    | mk c=>simp at this;simp[this]
   ·rw[show HT.bp a.length 0 (l.map (·.1))=0 by lia,List.drop_zero,kA (by rw[hl];exact yK _)]
  exact⟨.str a,H,I,⟨t,rfl⟩,by rw[e2] at q;exact q⟩
 ·rw[yL hw,ep];exact⟨yC (CA _ _ _) hz,.str _,H,I.tok _,⟨_,rfl⟩,q⟩
def bR:D->Option Int->Option Int->Option D
 | .str a,lo,hi=>if a.length<=sizeLine then some (.str (nN a lo hi)) else none
 | _,_,_=>none
def Gw{lo hi:Option Expr}{fl fh:Env->Option (Option Int)}(ha:DE X a fa)(hl:DO X lo fl)(hh:DO X hi fh):DE X (.Subscript a (.Slice lo hi none p2) pos) (aP bR fa fl fh):=aD (uo IZ ha hl hh) λσ H Q ⟨HF,ρ,d,sm,eo,hf,q⟩=>by
 let⟨x,hx,hf⟩:=bs hf;let⟨l,hl,hf⟩:=bs hf;let⟨u,hu,hf⟩:=bs hf;refine⟨HF,ρ,x,sm,eo,hx,λv1 H1 Qf g1 r1=>⟨Qf,ρ,l,g1.fh,eo.mono g1.ff,hl,λH2 Qp g2=>⟨Qp,ρ,u,g2.fh,eo.mono (g1.ff.trans g2.ff),hu,λH3 QC g3=>?_⟩⟩⟩;have G:=(g1.trans g2).trans g3;obtain⟨a,rfl⟩:∃a,x=.str a:=by
  cases x<;>first|exact⟨_,rfl⟩|cases hf
 simp?[Rep] at r1;subst r1;have hf:(if a.length<=sizeLine then some (PyData.str (nN a l u)) else none)=some d:=hf;split at hf
 ·rename_i hz;cases hf;exact⟨a,rfl,hz,q _ H3 QC G (by simp[Rep])⟩
 ·cases hf
def ju:List D->Option D
 | [.str x]=>if x.length<=sizeLine then some (.int ((x.length:Nat):Int)) else none
 | _=>none
def GN(B:mv X "len" (.builtin "len"))(ha:DA X [e] fs)(he:starEach [e] X.env=(false,eval e X.env)::starEach [] X.env:=by rfl):DE X (.Call (.Name "len" p) [e] [] pos) (aW ju fs) :=
 gf rO (by
  intro HF H ds vs d Q sm r hg q;unfold ju at hg;split at hg
  ·split at hg
   ·rename_i x hz;cases hg;let⟨v,r',rfl,a,e0⟩:=r.cons_inv;rw[e0.nil_inv];simp?[Rep] at a;subst a;exact⟨x,rfl,hz,q _ H HF (.refl sm) (by simp[Rep])⟩
   ·cases hg
  ·cases hg) B ha (by decide) (by decide) he rfl
def dR:D->D->Option D
 | .str z,.int i=>if z.length<=sizeLine then (jj z.cps.toList i).map λc=>.str ⟨#[c]⟩ else none
 | _,_=>none
def FM{K:W.Frag}:di K Jh dR:=by
 intro HF H x y v1 v2 d Q sm r1 r2 hg q;cases x<;>try cases hg
 cases y<;>try cases hg
 rename_i z i;have hg:(if z.length<=sizeLine then (jj z.cps.toList i).map λc=>PyData.str ⟨#[c]⟩ else none)=some d:=hg;split at hg
 ·rename_i hz;let⟨c,hc,rfl⟩:=af hg;simp?[Rep] at r1 r2;exact⟨z,i,c,r1,r2,hz,hc,q _ H HF (.refl sm) (by simp[Rep])⟩
 ·cases hg
def J2(ha:DE X a fa)(hb:DE X b fb)(hs:kf b:=by intro _ _;rfl):DE X (.Subscript a b pos) (f2 dR fa fb):=aD (Da Dw ha hb hs) (A9 FM)
def Aw:cS X (.type "int") (λxs H Q=>∃ (x:Str) (n:Int),xs=[.str x]/\PySem.intText? x=some n/\x.length<=640/\Q (.int n) H):=by
 intro pins s σ H xs us Q I r h;let⟨x,n,rfl,hn,hl,q⟩:=h;let⟨u,rfl,t,rfl⟩:=vals1 r;exact W.KIN.call_text hn hl ⟨.int n,H,I.tok _,⟨_,rfl⟩,q⟩
def iS:List D->Option D
 | [.str x]=>if x.length<=640 then (PySem.intText? x).map PyData.int else none
 | _=>none
def HU(B:mv X "int" (.type "int"))(ha:DA X [e] fs)(he:starEach [e] X.env=(false,eval e X.env)::starEach [] X.env:=by rfl):DE X (.Call (.Name "int" p) [e] [] pos) (aW iS fs) :=
 lz Aw (by
  intro HF H ds vs d Q sm r hg q;unfold iS at hg;split at hg
  ·split at hg
   ·rename_i x hz;let⟨n,hn,rfl⟩:=af hg;let⟨v,r',rfl,a,e0⟩:=r.cons_inv;rw[e0.nil_inv];simp?[Rep] at a;subst a;exact⟨x,n,rfl,hn,hz,q _ H HF (.refl sm) (by simp[Rep])⟩
   ·cases hg
  ·cases hg) B ha (by decide) (by decide) he rfl
def Bb:List (D×D)->Str->Option D
 | [],_=>none
 | (k,v)::r,x=>match k with
  | .str y=>if y=x then some v else Bb r x
  | _=>Bb r x
def ji(ks:List (Str×List Int))(x:Str):Option (List Int):=(ks.find? λp=>decide (p.1=x)).map (·.2)
def nu(x:Str):∀ks:List (Str×List Int),Bb (dE ks) x=(ji ks x).map λns=>.tuple (ns.map PyData.int)
 | []=>rfl
 | p::r=>by
  show (if p.1=x then some (PyData.tuple (p.2.map PyData.int)) else Bb (dE r) x)=_;unfold ji;rw[List.find?_cons];by_cases h:p.1=x
  ·rw[yJ h,zZ h];rfl
  ·rw[yL h,zY h,nu x r];rfl
section
variable {X:Cx}
def so{K:W.Frag}{H:Hp}(x:Str):∀ {ks:List (Str×List Int)}{us:List (fj×V)}{vs:List (fj×Value)},eJ K H ks us->KV us vs ->
  (ji ks x=none/\valueAt vs (Sum.inr x)=none)\/∃ns b,ji ks x=some ns/\valueAt vs (Sum.inr x)=some (.ref b)/\eE K H b (ns.map V.int)
 | [],us,vs,h,kv=>by
  have h:us=[]:=h;subst h;cases kv;exact .inl ⟨rfl,rfl⟩
 | p::r,us,vs,⟨b,t,h1,h2,h3⟩,kv=>by
  subst h1;cases kv with
  | @cons _ q _ l hq kv =>
   have z1:(Sum.inr p.1:fj)=q.1:=hq.1;have z2:q.2=Value.ref b:=hq.2;by_cases h:p.1=x
   ·refine .inr ⟨p.2,b,?_,?_,h2⟩
    ·unfold ji;rw[List.find?_cons,zZ h];rfl
    ·unfold valueAt;rw[List.find?_cons,zZ (by rw[<- z1,h])];show some q.2=_;rw[z2]
   ·have e1:ji (p::r) x=ji r x:=by unfold ji;rw[List.find?_cons,zY h]
    have e2:valueAt (q::l) (Sum.inr x)=valueAt l (Sum.inr x):=by
     unfold valueAt;rw[List.find?_cons,zY (by rw[<- z1];intro z;injection z with z;exact h z)]
    rw[e1,e2];exact so x h3 kv
def Cn(I:Inv X pins σ H s)(e:H a=some (.dK us)):us.length<=sizeLine/\(a == sysModules)=false/\∃vs,KV us vs/\s.heap.DictOf (gG X.prog X.w) a vs:=(show cU X.prog X.w H s.heap a (.dK us) from I.Qh a _ e)
def MG:R2:=λx y H Q=>∃ (z:Str) (K:W.Frag) (a:Addr) (ks:List (Str×List Int)) (us:List (fj×V)),x=.str z/\y=.ref a/\H a=some (.dK us)/\eJ K H ks us/\Q (.bl (!(ji ks z).isSome)) H
def EU:eN X (compareOp .NotIn) MG:=by
 intro pins s σ H x y v u Q I rx ry h;let⟨z,K,a,ks,us,rfl,rfl,ha,hr,q⟩:=h;let⟨t,rfl⟩:=rx;cases ry;let⟨_,hd,vs,kv,dd⟩:=Cn I ha;refine wpAny_notIn_of (k:=Sum.inr z) (knd:=gG X.prog X.w) (W.isStrOf_self z t) hd dd.mapOf ⟨.bl _,H,I.tok _,rfl,?_⟩;rcases so z hr kv with ⟨e1,e2⟩|⟨ns,b,e1,e2,_⟩
 ·rw[e2];rw[e1] at q;exact q
 ·rw[e2];rw[e1] at q;exact q
def mG:D->D->Option D
 | .str x,.dict l=>some (.bool (!(Bb l x).isSome))
 | _,_=>none
def Ae{K:W.Frag}:di K MG mG:=by
 intro HF H x y v1 v2 d Q sm r1 r2 hg q;cases x<;>try cases hg
 cases y<;>try cases hg
 rename_i x l;simp?[Rep] at r1 r2;let⟨a,ks,us,h1,rfl,h3,h4⟩:=r2;refine⟨x,K,a,ks,us,r1,h1,sm _ _ h3,h4.mono sm,?_⟩;have:(!(Bb (dE ks) x).isSome)=!(ji ks x).isSome:=by rw[nu,Option.isSome_map]
 rw[<- this];exact q _ H HF (.refl sm) (by simp[Rep])
def Ih:R2:=λx y H Q=>∃ (z:Str) (K:W.Frag) (HF:Hp) (a:Addr) (ks:List (Str×List Int)) (us:List (fj×V)) (ns:List Int),x=.ref a/\y=.str z/\H a=some (.dK us)/\eJ K HF ks us/\ji ks z=some ns/\∀b,eE K HF b (ns.map V.int)->Q (.ref b) H
def Jq:Fc X Ih:=by
 intro value slice pins s σ H x y v u Q I rx ry h hs;let⟨z,K,HF,a,ks,us,ns,rfl,rfl,ha,hr,hl,q⟩:=h;cases rx;let⟨t,rfl⟩:=ry;let⟨_,hd,vs,kv,dd⟩:=Cn I ha;rcases so z hr kv with ⟨e1,e2⟩|⟨ms,b,e1,e2,e3⟩
 ·rw[hl] at e1;cases e1
 ·rw[hl] at e1;cases e1;exact tail_any dd.typeIs slot_dict_getitem.lookup (wpAny_getItem_of (k:=Sum.inr z) (knd:=gG X.prog X.w) (W.isStrOf_self z t) dd.mapOf e2 ⟨.ref b,H,I.tok _,rfl,q b e3⟩) hs
def l5:D->D->Option D
 | .dict l,.str x=>Bb l x
 | _,_=>none
def yc{K:W.Frag}{H:Hp}:∀ns:List Int,au K H (ns.map PyData.int) (ns.map V.int)
 | []=>rfl
 | n::r=>au.cons (by simp[Rep]) (yc r)
def CY{K:W.Frag}:di K Ih l5:=by
 intro HF H x y v1 v2 d Q sm r1 r2 hg q;cases x<;>try cases hg
 cases y<;>try cases hg
 rename_i l x;simp?[Rep] at r1 r2;let⟨a,ks,us,h1,rfl,h3,h4⟩:=r1;have hg:Bb (dE ks) x=some d:=hg;rw[nu] at hg;let⟨ns,hn,rfl⟩:=af hg;exact⟨x,K,HF,a,ks,us,ns,h1,r2,sm _ _ h3,h4,hn,λb hb=>q _ H HF (.refl sm) (by simp?[Rep];exact⟨b,_,rfl,hb,yc ns⟩)⟩
def FU(ha:DE X a fa)(hb:DE X b fb)(hs:kf b:=by intro _ _;rfl):DE X (.Subscript a b pos) (f2 l5 fa fb):=aD (Da Jq ha hb hs) (A9 CY)
def uQ(us:List (fj×V))(z:Str)(v:V):List (fj×V):=if (us.any λkv=>decide (kv.1=Sum.inr z))=true then us.map (λkv=>if kv.1=Sum.inr z then (kv.1,v) else kv) else us++[(Sum.inr z,v)]
def mC(ks:List (Str×List Int))(z:Str)(ns:List Int):List (Str×List Int):=if (ks.any λp=>decide (p.1=z))=true then ks.map (λp=>if p.1=z then (p.1,ns) else p) else ks++[(z,ns)]
def EI(z:Str):∀ {us:List (fj×V)}{vs:List (fj×Value)},KV us vs->(us.any λkv=>decide (kv.1=Sum.inr z))=vs.any λkv=>decide (kv.1=Sum.inr z)
 | _,_,.nil=>rfl
 | _,_,.cons h t=>by rw[kP,kP,EI z t,h.1]
def Ek(z:Str)(r:RelV v u):∀ {us:List (fj×V)}{vs:List (fj×Value)},KV us vs->KV (us.map λkv=>if kv.1=Sum.inr z then (kv.1,v) else kv) (vs.map λkv=>if kv.1=Sum.inr z then (kv.1,u) else kv)
 | _,_,.nil=>.nil
 | a::_,b::_,.cons h t=>by
  refine .cons ?_ (Ek z r t);let⟨h1,h2⟩:=h;dsimp only;by_cases e:a.1=Sum.inr z
  ·rw[yJ e,yJ (h1 ▸ e)];exact⟨h1,r⟩
  ·rw[yL e,yL (h1 ▸ e)];exact⟨h1,h2⟩
def CV:∀ {us:List (fj×V)}{vs:List (fj×Value)},KV us vs->RelV v u->KV (us++[(k,v)]) (vs++[(k,u)])
 | _,_,.nil,r=>.cons ⟨rfl,r⟩ .nil
 | _,_,.cons h t,r=>.cons h (CV t r)
def Dk:∀ {us:List (fj×V)}{vs:List (fj×Value)},KV us vs->us.length=vs.length
 | _,_,.nil=>rfl
 | _,_,.cons h t=>by rw[zL,zL,Dk t]
def Lp(z:Str){us:List (fj×V)}{vs:List (fj×Value)}(h:KV us vs)(r:RelV v u):KV (uQ us z v) (stored vs (Sum.inr z) u):=by
 unfold uQ stored;rw[EI z h];split
 ·exact Ek z r h
 ·exact CV h r
def CG(us:List (fj×V))(z:Str)(v:V)(h:us.length < sizeLine):(uQ us z v).length<=sizeLine:=by
 unfold uQ;split
 ·rw[zD];lia
 ·rw[zN];exact h
def MB:V->V->V->Hp->(Hp->Prop)->Prop:=λo i v H Q=>∃ (a:Addr) (us:List (fj×V)) (z:Str),o=.ref a/\i=.str z/\H a=some (.dK us)/\us.length < sizeLine/\Q (upd H a (.dK (uQ us z v)))
def Fy:KQ X MB:=by
 intro pins s σ H o i v ov iv u Q I ro ri rv h;let⟨a,us,z,rfl,rfl,ha,hl,q⟩:=h;cases ro;let⟨t,rfl⟩:=ri;let⟨hz,hd,vs,kv,dd⟩:=Cn I ha;refine wpAny_setItem_pairs (hsz:=by rw[<- Dk kv];exact hz) (k:=Sum.inr z) (knd:=gG X.prog X.w) (W.isStrOf_self z t) dd λh' Yd hs=>⟨_,I.write (o:=.dK (uQ us z v)) (x:=a) (e:=a) (by rw[ha];exact True.intro) (.inl rfl) (λc w' hc z=>(hs.2 c hc).trans z) (let ⟨q,_,_,hq,_⟩:=Yd;⟨q,hq⟩) ⟨CG us z v hl,hd,_,Lp z kv rv,Yd⟩,q⟩
def yn{K:W.Frag}(z:Str):∀ {ks:List (Str×List Int)}{us:List (fj×V)},eJ K H ks us->(us.any λkv=>decide (kv.1=Sum.inr z))=ks.any λp=>decide (p.1=z)
 | [],us,h=>by have h:us=[]:=h;rw[h];rfl
 | p::r,us,⟨b,t,h1,h2,h3⟩=>by
  rw[h1,kP,kP,yn z h3]
  congr 1
  simp
def sx{K:W.Frag}(z:Str)(hb:eE K H b (ns.map V.int)):∀ {ks:List (Str×List Int)}{us:List (fj×V)},eJ K H ks us->eJ K H (ks.map λp=>if p.1=z then (p.1,ns) else p) (us.map λkv=>if kv.1=Sum.inr z then (kv.1,V.ref b) else kv)
 | [],us,h=>by have h:us=[]:=h;rw[h];rfl
 | p::r,us,⟨c,t,h1,h2,h3⟩=>by
  rw[h1,zI,zI];by_cases e:p.1=z
  ·rw[yJ e,yJ (by rw[e])];exact⟨b,_,rfl,hb,sx z hb h3⟩
  ·rw[yL e,yL (λw=>by injection w with w;exact e w)];exact⟨c,_,rfl,h2,sx z hb h3⟩
def Ai{K:W.Frag}(hb:eE K H b (ns.map V.int)):∀ {ks:List (Str×List Int)}{us:List (fj×V)},eJ K H ks us->eJ K H (ks++[(z,ns)]) (us++[(Sum.inr z,V.ref b)])
 | [],us,h=>by have h:us=[]:=h;rw[h];exact⟨b,[],rfl,hb,rfl⟩
 | p::r,us,⟨c,t,h1,h2,h3⟩=>by rw[h1];exact⟨c,_,rfl,h2,Ai hb h3⟩
def eJ.put{K:W.Frag}(z:Str){ks:List (Str×List Int)}{us:List (fj×V)}(h:eJ K H ks us)(hb:eE K H b (ns.map V.int)):eJ K H (mC ks z ns) (uQ us z (.ref b)):=by
 unfold mC uQ;rw[yn z h];split
 ·exact sx z hb h
 ·exact Ai hb h
def eJ.len{K:W.Frag}:∀ {ks:List (Str×List Int)}{us:List (fj×V)},eJ K H ks us->us.length=ks.length
 | [],us,h=>by have h:us=[]:=h;rw[h];rfl
 | p::r,us,⟨c,t,h1,h2,h3⟩=>by rw[h1,zL,zL,h3.len]
def rM:Slot->Bool|.Qk _=>false|_=>true
def d0.WY{K:W.Frag}{us:List (fj×V)}{ks:List (Str×List Int)}(S:d0 K Qa Qc HF H ρ σ)(h1:H a=some (.dK us))(h2:HF a=none)(h3:Qc a=none)(h4:eJ K HF ks us)(nt:ρ.all rM=true) :
  d0 K Qa Qc HF H (ρ.set i (.Qk ks)) (σ.set i (some (.ref a))):=by
 have old:∀ {j:Nat}{t:Slot},(ρ.set i (.Qk ks))[j]?=some t->rM t=true->i≠j/\ρ[j]?=some t:=λ{j t} h hn=>by
  rw[xG] at h;by_cases Qj:i=j
  ·rw[yJ Qj] at h;split at h
   ·cases h;cases hn
   ·cases h
  ·rw[yL Qj] at h;exact⟨Qj,h⟩
 have new:∀ {j:Nat}{ls:List (Str×List Int)},(ρ.set i (.Qk ks))[j]?=some (.Qk ls)->i=j/\ls=ks/\i < ρ.length:=λ{j ls} h=>by
  rw[xG] at h;by_cases Qj:i=j
  ·rw[yJ Qj] at h;split at h
   ·rename_i hl;cases h;exact⟨Qj,rfl,Qj ▸ hl⟩
   ·cases h
  ·rw[yL Qj] at h;have:=List.all_eq_true.mp nt _ (xZ h);cases this
 refine⟨S.gr,λj e h=>?_,λj es h=>?_,λj k xs ys b e1 e2 e3 e4=>?_,by rw[yB,yB];exact S.len,S.tb,λj ls h=>?_,λj k ls ms g1 g2=>(new g1).1.symm.trans (new g2).1⟩
 ·let⟨Qj,h⟩:=old h rfl;rw[xG,yL Qj];exact S.val j e h
 ·let⟨Qj,h⟩:=old h rfl;rw[xG,yL Qj];exact S.own j es h
 ·let⟨n1,e1⟩:=old e1 rfl;let⟨n2,e2⟩:=old e2 rfl;rw[xG,yL n1] at e3;rw[xG,yL n2] at e4;exact S.inj j k xs ys b e1 e2 e3 e4
 ·let⟨rfl,rfl,hl⟩:=new h;rw[xG,yJ rfl,yJ (zP hl S.len)];exact⟨a,us,rfl,h1,h2,h3,h4⟩
def d0.putD{K:W.Frag}{us:List (fj×V)}{ks:List (Str×List Int)}(S:d0 K Qa Qc HF H ρ σ)(h:ρ[i]?=some (.Qk ls))(ha:σ[i]?=some (some (.ref a)))(h4:eJ K HF ks us) :
  d0 K Qa Qc HF (upd H a (.dK us)) (ρ.set i (.Qk ks)) σ:=by
 let⟨a',ys,e1,e2,e3,e5,_⟩:=S.Qk i ls h;rw[ha] at e1;cases e1;have hl:i < ρ.length:=(List.getElem?_eq_some_iff.mp h).1;have gr:bQ Qa Qc HF (upd H a (.dK us)):=⟨λb o e=>by rw[aE (aJ e e5)];exact S.gr.hh b o e,S.gr.ff,λb o e=>by rw[aE (aJ e e3)];exact S.gr.fh b o e,S.gr.nw⟩
 have old:∀ {j:Nat}{t:Slot},(ρ.set i (.Qk ks))[j]?=some t->rM t=true->ρ[j]?=some t:=λ{j t} h hn=>by
  rw[xG] at h;by_cases Qj:i=j
  ·rw[yJ Qj,yJ hl] at h;cases h;cases hn
  ·rw[yL Qj] at h;exact h
 have new:∀ {j:Nat}{ms:List (Str×List Int)},(ρ.set i (.Qk ks))[j]?=some (.Qk ms)->i=j/\ms=ks:=λ{j ms} g=>by
  rw[xG] at g;by_cases Qj:i=j
  ·rw[yJ Qj,yJ hl] at g;cases g;exact⟨Qj,rfl⟩
  ·rw[yL Qj] at g;exact absurd (S.one i j ls ms h g) Qj
 refine⟨gr,λj e g=>S.val j e (old g rfl),λj es g=>?_,λj k xs ys b f1 f2=>S.inj j k xs ys b (old f1 rfl) (old f2 rfl),by rw[yB];exact S.len,S.tb,λj ms g=>?_,λj k ms qs g1 g2=>(new g1).1.symm.trans (new g2).1⟩
 ·let⟨b,vs,f1,f2,f3,f5,f4⟩:=S.own j es (old g rfl);refine⟨b,vs,f1,?_,f3,f5,f4⟩;rw[aE λz=>by rw[z,e2] at f2;cases f2];exact f2
 ·let⟨rfl,rfl⟩:=new g;exact⟨a,us,ha,aF,e3,e5,h4⟩
def L8:Option Slot->Option (List (Str×List Int))
 | some (.Qk ks)=>some ks
 | _=>none
def lP{ρ:aq}{i:Nat}(h:L8 ρ[i]?=some ks):ρ[i]?=some (.Qk ks):=by
 cases hd:ρ[i]? with
 | none=>rw[hd] at h;cases h
 | some t =>
  rw[hd] at h;cases t with
  | Qk ls=>cases h;rfl
  | _=>cases h
def Kb:D->Option Str
 | .str x=>some x
 | _=>none
def qa(j:Nat):aq->Option Out:=λρ=>if ρ.all rM=true then some (.nx (ρ.set j (.Qk []))) else none
def Hr:PE X (.Dict [] [] pos) (λ_ H Q=>∀p,H p=none->Q (.ref p) (upd H p (.dK []))):=by
 intro pins s σ H Q I q;have big:sysModules < s.heap.objs.size:=vU (by decide) (show mainGlobals < s.heap.objs.size from (I.mod.glob.keeps I.bk).lt);exact wpAny_Dict_empty ⟨.ref s.heap.objs.size,_,I.laid (a:=s.heap.objs.size) (o:=.dK []) (t':=s.toks) (λ_ _ q=>zT _ q) (yK _) ⟨xS _,beq_eq_false_iff_ne.mpr (jJ (yP big)),[],.nil,Heap.DictOf.new s.heap⟩,rfl,q _ (I.Qh.fresh (yK _))⟩
def Hg(j:Nat)(ZE:X.N.Nodup)(hi:X.N[j]?=some y)(hy:Loc X.env.scope y)
  (hs:swapsWith (.Dict [] [] dp) (some (.Name y pos')) pos.line X.env=pure false:=by rfl)
  (hf:X.fn y=true\/X.env.scope.names.lookup y=some .local:=by first|exact .inl rfl|exact .inr rfl|assumption):DS X Qa Qc (.Assign [.Name y pos'] (.Dict [] [] dp) pos) (qa j) :=
 bM (oD ZE hi hy Hr hs hf) λE σ H ⟨HF,ρ,o,S,hg,q⟩=>by
  unfold qa at hg;split at hg
  ·rename_i hc;cases hg;intro p hp;have S2:d0 X.K Qa Qc HF (upd H p (.dK [])) ρ σ:=S.step (cu hp);exact q _ _ HF (S2.WY (i:=j) aF (S.gr.fh.free hp) (S.gr.hh.free hp) rfl hc) (.refl _)
  ·cases hg
def uC(j:Nat)(fk f:Env->Option D):aq->Option Out:=λρ=>(f (aY ρ)).bind λd=>(kj d).bind λns=>(fk (aY ρ)).bind λk=>(Kb k).bind λx=>(L8 ρ[j]?).bind λks=>if ks.length < sizeLine then some (.nx (ρ.set j (.Qk (mC ks x ns)))) else none
def Hi(j:Nat)(hN:X.N[j]?=some y)(hv:FC X.env.scope y)(hk:DE X ek fk)(h:DE X e2 f)(hd:(y == ("__debug__":Str))=false)(QW:(y == ("__classdict__":Str))=false)
  (ha:∀v,assign (.Subscript (.Name y py) ek Qx) X.env v=(do
   let ov <- holding [v] (eval (.Name y py) X.env)
   let iv <- holding [v,ov] (eval ek X.env)
   standAt Qx
   holding [v,ov,iv] (setItem ov iv v)
   release [v,ov,iv] []):=by intro _;rfl)
  (hs:swapsWithSole [.Subscript (.Name y py) ek Qx] e2 pos.line X.env=pure false:=by rfl) (hw:swappedStores [.Subscript (.Name y py) ek Qx] e2 X.env=pure none:=by rfl)
  (h1:(assignEach [.Subscript (.Name y py) ek Qx] X.env).map (·.2)=[assign (.Subscript (.Name y py) ek Qx) X.env]:=by rfl) :
  DS X Qa Qc (.Assign [.Subscript (.Name y py) ek Qx] e2 pos) (uC j fk f) :=
 bM (Di h (BM (ja hN hv hd QW) hk Fy ha) hs hw h1) λE σ H ⟨HF,ρ,o,S,hg,q⟩=>by
  let⟨d,h3,hg⟩:=bs hg;let⟨ns,h1,hg⟩:=bs hg;let⟨k,h4,hg⟩:=bs hg;let⟨x,h5,hg⟩:=bs hg;let⟨ks,h2,hg⟩:=bs hg;split at hg
  ·rename_i hc;cases hg;refine⟨HF,aY ρ,d,S.gr.fh,S.QK,h3,λv H1 Qf G1 r1=>?_⟩;have S1:=S.grow G1;let⟨a,us,f1,f2,f3,f5,f4⟩:=S1.Qk j ks (lP h2);refine⟨_,f1,Qf,aY ρ,k,G1.fh,S1.QK,h4,λv2 H2 Qp G2 r2=>?_⟩;have S2:=S1.grow G2;let⟨a',WV,g1,g2,g3,g5,g4⟩:=S2.Qk j ks (lP h2);rw[f1] at g1;cases g1;cases k with
   | str x' =>
    cases h5;simp?[Rep] at r2;rw[jv h1] at r1;have r1:=r1.mono G2.ff;simp?[Rep] at r1;let⟨b,vs,rfl,hb,rr⟩:=r1;rw[gk rr] at hb;exact⟨a,WV,x,rfl,r2,g2,by rw[g4.len];exact hc,q σ _ Qp (S2.putD (lP h2) f1 (g4.put x hb)) (G1.ff.trans G2.ff)⟩
   | _=>cases h5
  ·cases hg
end
section
variable {X:Cx}
def tq:List D->Option D
 | [.int i]=>if i.natAbs.log2 < 1920 then some (.str (toString i)) else none
 | [.str x]=>some (.str x)
 | _=>none
def As:cS X (.type "str") (λxs H Q=>(∃i,xs=[.int i]/\i.natAbs.log2 < 1920/\Q (.str (toString i)) H)\/∃x,xs=[.str x]/\Q (.str x) H):=by
 intro pins s σ H xs us Q I r h;rcases h with ⟨i,rfl,hz,q⟩|⟨x,rfl,q⟩
 ·let⟨u,rfl,t,rfl⟩:=vals1 r;exact PySem.P.str_of_int hz ⟨.str _,H,I.tok _,⟨_,rfl⟩,q⟩
 ·let⟨u,rfl,t,rfl⟩:=vals1 r;exact PySem.P.str_of_str ⟨.str _,H,I,⟨_,rfl⟩,q⟩
def Ft(B:mv X "str" (.type "str"))(ha:DA X [e] fs)(he:starEach [e] X.env=(false,eval e X.env)::starEach [] X.env:=by rfl):DE X (.Call (.Name "str" p) [e] [] pos) (aW tq fs) :=
 lz As (by
  intro HF H ds vs d Q sm r hg q;unfold tq at hg;split at hg
  ·rename_i i;split at hg
   ·rename_i hz;cases hg;let⟨v,r',rfl,a,e0⟩:=r.cons_inv;rw[e0.nil_inv];simp?[Rep] at a;subst a;exact .inl ⟨i,rfl,hz,q _ H HF (.refl sm) (by simp[Rep])⟩
   ·cases hg
  ·rename_i x;cases hg;let⟨v,r',rfl,a,e0⟩:=r.cons_inv;rw[e0.nil_inv];simp?[Rep] at a;subst a;exact .inr ⟨x,rfl,q _ H HF (.refl sm) (by simp[Rep])⟩
  ·cases hg) B ha (by decide) (by decide) he rfl
def Bh:D->Option D
 | .int i=>if i.natAbs.log2 < 1920 then some (.str (toString i)) else none
 | _=>none
def K9(h:DE X e f):DE X (.FormattedValue e (-1) none pos) (f1 Bh f):=by
 intro pins s σ H Q I ⟨HF,ρ,d,sm,eo,hf,q⟩;let⟨x,hx,hg⟩:=bs hf;refine wpAny_FormattedValue_plain (bC (h pins s σ H _ I ⟨HF,ρ,x,sm,eo,hx,λv H' Qd G r=>(⟨Qd,G,r⟩:∃Qd,bQ HF H Qd H'/\Rep X.K Qd x v)⟩) λu s1 ⟨y,H1,I1,r1,Qf,G,r⟩=>?_);cases x with
 | int i =>
  have hg:(if i.natAbs.log2 < 1920 then some (PyData.str (toString i)) else none)=some d:=hg;split at hg
  ·rename_i hz;cases hg;simp?[Rep] at r;subst r;let⟨t,rfl⟩:=r1;exact wpAny_formatField_int hz ⟨.str _,H1,I1.tok _,⟨_,rfl⟩,q _ H1 Qf G (by simp[Rep])⟩
  ·cases hg
 | _=>cases hg
def Gs:List (Env->Option D)->Str->Env->Option D
 | [],acc,_=>some (.str acc)
 | f::fs,acc,ρ=>(f ρ).bind λd=>(Kb d).bind λy=>if (acc++y).length<=sizeLine then Gs fs (acc++y) ρ else none
def Du{ρ:Env}{d:D}{es:List Expr}{fs:List (Env->Option D)}(P:Paired (λe f=>DE X e f) es fs):∀ {acc:Str}{s:Shared}{HF H:Hp}{Q:V->Hp->Prop},acc.length<=sizeLine->Inv X pins σ H s->aK HF H->cy X.K HF ρ σ->Gs fs acc ρ=some d->(∀v H' Qd,bQ HF H Qd H'->Rep X.K Qd d v->Q v H') ->
  Joins (model X.prog X.w) X.A X.xe (evalEach es X.env) acc (λout s1=>out.length<=sizeLine/\EP X pins σ Q (.str out s1.toks) { s1 with toks:=s1.toks+1 }) s:=by
 induction P with
 | nil =>
  intro acc s HF H Q hl I sm eo hf q;cases hf;exact Joins_nil ⟨hl,.str acc,H,I.tok _,⟨_,rfl⟩,q _ H HF (.refl sm) (by simp[Rep])⟩
 | @cons e f es fs h t ih =>
  intro acc s HF H Q hl I sm eo hf q;let⟨x,hx,Ye⟩:=bs hf;let⟨y,hy,WZ⟩:=bs Ye;clear hf Ye;split at WZ
  ·rename_i hz;refine Joins_cons (bC (h pins s σ H _ I ⟨HF,ρ,x,sm,eo,hx,λv H' Qd G r=>(⟨Qd,G,r⟩:∃Qd,bQ HF H Qd H'/\Rep X.K Qd x v)⟩) λu s1 ⟨w,H1,I1,r1,Qf,G,r⟩=>?_);cases x with
   | str z =>
    cases hy;simp?[Rep] at r;subst r;let⟨tk,rfl⟩:=r1;exact⟨y,tk,rfl,hz,ih hz I1 G.fh (eo.mono G.ff) WZ λv H' Qd G2 r2=>q v H' Qd (G.trans G2) r2⟩
   | _=>cases hy
  ·cases WZ
def Bx(P:Paired (λe f=>DE X e f) (e1::e2::es) fs):DE X (.JoinedStr (e1::e2::es) pos) (Gs fs Str.empty):=by
 intro pins s σ H Q I ⟨HF,ρ,d,sm,eo,hf,q⟩;exact wpAny_JoinedStr (Du P (by decide) I sm eo hf q)
def KI(i j k:Nat):aq->D->Option aq:=λρ d=>match d with
 | .tuple [a,b,c]=>some (((ρ.set i (.val a)).set j (.val b)).set k (.val c))
 | _=>none
def AS(i j k:Nat){n:Nat}(hc:X.calm=true)(hN:X.N.Nodup)(hi:X.N[i]?=some x)(hx:Loc X.env.scope x)(hj:X.N[j]?=some y)(hy:Loc X.env.scope y)(hk:X.N[k]?=some z)(hz:Loc X.env.scope z)
  (f1:X.fn x=true\/X.env.scope.names.lookup x=some .local) (f2:X.fn y=true\/X.env.scope.names.lookup y=some .local) (f3:X.fn z=true\/X.env.scope.names.lookup z=some .local) :
  LP X Qa Qc (.Tuple [.Name x px,.Name y py,.Name z pz] n pos) (KI i j k) :=
 lr (sr hc (cL (cO hN hi hx f1) (cL (cO hN hj hy f2) (cL (cO hN hk hz f3) mX)))) λv σ H Q ⟨HF,ρ,d,ρ',S,r,hf,q⟩=>by
  unfold KI at hf;split at hf
  ·cases hf;simp?[Rep] at r;let⟨a,vs,rfl,hs,rr⟩:=r;let⟨v1,r1,rfl,a1,b1⟩:=rr.cons_inv;let⟨v2,r2,rfl,a2,b2⟩:=b1.cons_inv;let⟨v3,r3,rfl,a3,b3⟩:=b2.cons_inv;rw[b3.nil_inv] at hs;exact⟨a,_,rfl,ax S.gr.fh hs,rfl,v1,_,rfl,v2,_,rfl,v3,_,rfl,rfl,q _ (((S.Rn a1).Rn a2).Rn a3)⟩
  ·cases hf
def z6:List D->Option (List D)
 | [.int i,.int j]=>if (m4 i&&m4 j)=true then some ((List.range (j - i).toNat).map λk=>PyData.int (i+((k:Nat):Int))) else none
 | _=>none
def fw(fs:Env->Option (List D)):Env->Option (List D):=λρ=>(fs ρ).bind z6
def A1(B:mv X "range" (.type "range"))(h:DA X [a,b] fs)(hs:starEach [a,b] X.env=[(false,eval a X.env),(false,eval b X.env)]:=by rfl)(Sl:starEach [b] X.env=[(false,eval b X.env)]:=by rfl):DI X tg (.Call (.Name "range" p) [a,b] [] pos) (fw fs) :=
 lD (AR B.gl B.mg h hs Sl) λσ H R ⟨HF,ρ,ds,sm,eo,hf,q⟩=>by
  let⟨x,hx,hf⟩:=bs hf;unfold z6 at hf;split at hf
  ·rename_i i j;split at hf
   ·rename_i hz;cases hf;refine⟨HF,ρ,_,sm,eo,hx,λvs H1 Qf g1 r1=>?_⟩;let⟨v,r,rfl,a1,b1⟩:=r1.cons_inv;let⟨v2,r2,rfl,a2,b2⟩:=b1.cons_inv;rw[b2.nil_inv];simp?[Rep] at a1 a2;subst a1 a2;unfold m4 at hz;simp?[zF,zJ] at hz;exact⟨i,j,rfl,⟨hz.1.1,hz.1.2,hz.2.1,hz.2.2⟩,q _ H1 Qf g1 n5⟩
   ·cases hf
  ·cases hf
end
end Dl
namespace L2
open PySem PySem.Spec PyProof.Rows
def Np(x:Str):It:=⟨λi _=>i < x.cps.size,λi H v H'=>H'=H/\∃c,x.cps[i]?=some c/\v=.str ⟨#[c]⟩,λi _=>x.cps.size<=i⟩
def pX{K:W.Frag}(it:Addr)(T:String)(x:Str)(t:Tok)
  (hn:["enumerate","zip","dict_itemiterator","dict_reverseitemiterator","odict_iterator","itertools.zip_longest","itertools.pairwise"].contains T=false)
  (W:∀A':Around,A'.handled=none->Walks P w A' it [it] [it] x.cps.size (SignAt x) (λi h=>h.IsStrIter it T x t i))
  (Wd:∀ (A:Around) (s:Shared) (i:Nat) (Q:Option Value->Shared->Prop) (E:Value->Shared->Prop),A.handled=none->s.heap.IsStrIter it T x t i->x.cps[i]?=none ->
   (∀h',(∀b o,b≠it->s.heap.get? b=some o->h'.get? b=some o)->Q none { s with heap:=h' })->wpAny (model P w) A (pyNext (.ref it)) Q E s)
  (Ws:∀ (A:Around) (s:Shared) (i:Nat) (Q:Value->Shared->Prop) (E:Value->Shared->Prop),s.heap.IsStrIter it T x t i->Q (.ref it) s->wpAny (model P w) A (pyIter (.ref it)) Q E s) :
  Turn P w K tg (Np x) [it] it (λi h=>h.IsStrIter it T x t i) where
 mem:=by simp
 obj:=λi h st b hb=>by
  have e:b=it:=by simpa using hb
  subst e;let⟨o,e,c,d⟩:=st;exact⟨o,e,λv z=>by rw[d] at z;cases z⟩
 keep:=λi h h' st k=>by
  let⟨o,e,r⟩:=st;exact⟨o,k it (by simp) o e,r⟩
 item:=by
  intro X hP hw hK hc i pins s σ H E I hf st hg;subst hP hw hK;let⟨f0,f1,f2,f3,f4,f5⟩:=hf it (by simp);refine (W X.A (I.ok.hd hc)).item i s _ _ hg st λv h' tk hv Q4 kk=>?_;let⟨c,u,Q2,rfl⟩:=hv;have I1:Inv X pins σ H { s with heap:=h',toks:=tk }:=I.turned (λb o hb e=>kk b o (by simpa using hb) e) f0 f1 f3 f4 f5;let⟨o,e,c1,d⟩:=id Q4;exact⟨_,rfl,xu (s:={ s with heap:=h',toks:=tk }) (n:=T) e c1 d hn ⟨.str ⟨#[c]⟩,H,I1,⟨u,rfl⟩,⟨rfl,c,Q2,rfl⟩,Q4,λb hb=>(hf b hb).1⟩⟩
 done:=by
  intro X hP hw hK hc i pins s σ H E I hf st hg;subst hP hw hK;let⟨f0,f1,f2,f3,f4,f5⟩:=hf it (by simp);have hl:x.cps.size<=i:=hg;exact Wd X.A s i _ _ (I.ok.hd hc) st (by simp[hl]) λh' eb=>⟨rfl,I.turned (t':=s.toks) (λb o hb e=>eb b o hb e) f0 f1 f3 f4 f5⟩
 self:=λA i s Q E st h=>Ws A s i Q E st h
def FW{E:Value->Shared->Prop}(I:Inv X pins σ H s)(x:Str)(t:Tok)(q:R (Np x) H):wpAny (model X.prog X.w) X.A (pyIter (.str x t)) (NM X pins σ tg R) E s:=by
 have fo:∀b∈[s.heap.objs.size],fP X pins H b:=λb hb=>by
  cases List.mem_singleton.mp hb;exact I.Q9 (yK _) (I.Qh.fresh (yK _))
 cases ha:x.cps.all (· < 128)
 ·refine wpAny_pyIter_wide ha ⟨s.heap.objs.size,[s.heap.objs.size],_,_,H,rfl,I.kept (t':=s.toks) λb o e=>zT _ e,
   pX _ "str_iterator" x t (by decide) (λA' hA=>Walks.strWide hA _ x t) ?_ (λA s i Q E st h=>wpAny_pyIter_striter_wide st h),⟨_,zW _ rfl,rfl,rfl⟩,fo,q⟩
  exactλA s i Q E hA st hx hQ=>wpAny_pyNext_wide_end hA st hx λh' he=>hQ h' he
 ·refine wpAny_pyIter_ascii ha ⟨s.heap.objs.size,[s.heap.objs.size],_,_,H,rfl,I.kept (t':=s.toks) λb o e=>zT _ e,
   pX _ "str_ascii_iterator" x t (by decide) (λA' hA=>Walks.strAscii hA _ x t) ?_ (λA s i Q E st h=>wpAny_pyIter_striter_ascii st h),⟨_,zW _ rfl,rfl,rfl⟩,fo,q⟩
  exactλA s i Q E hA st hx hQ=>wpAny_pyNext_ascii_end hA st hx λh' he=>hQ h' he
end L2
namespace Dl
open PySem L2 PySem.Spec PyProof.Rows
def tQ(x:Str):List D:=x.cps.toList.map λc=>PyData.str ⟨#[c]⟩
def Bv{K:W.Frag}{x:Str}:nz K (Np x) HF (tQ x) where
 go:=λi d Qy Qn e s1 s2=>by
  unfold tQ at e;rw[zO] at e;let⟨c,hc,rfl⟩:=af e;have Q2:x.cps[i]?=some c:=by simpa using hc
  obtain⟨hi,-⟩:=Array.getElem?_eq_some_iff.mp Q2;refine⟨hi,λv Rx ⟨e2,c',h',hv⟩=>⟨Qn,by rw[e2];exact .refl s2,?_⟩⟩;rw[Q2] at h';cases h';simp?[Rep];exact hv
 stop:=λQy Qn s1 s2=>by
  show x.cps.size<=_;simp[tQ]
section
variable {X:Cx}{tg l e:Expr}{f:Env->Option D}{fs:Env->Option (List D)}{pos p:Pos}
def FA(hl:PE X l tl):PI X tg l (λσ H R=>tl σ H λx H1=>(∃a,x=.ref a/\((∃xs,eH X.K H1 a xs/\R (Nk X.K a) H1)\/∃xs,eE X.K H1 a xs/\R (Nv X.K a) H1))\/∃y,x=.str y/\R (Np y) H1):=by
 intro pins s σ H R I h;refine bC (hl pins s σ H _ I h) λv s1 ⟨x,H1,I1,r1,q1⟩=>?_;rcases q1 with ⟨a,e,q⟩|⟨y,e,q⟩
 ·subst e;cases r1;rcases q with ⟨xs,hq,q⟩|⟨xs,hq,q⟩
  ·let⟨its,rv,pl,hz⟩:=I1.list hq;refine qH pl.isList ⟨s1.heap.objs.size,[s1.heap.objs.size],_,_,H1,rfl,I1.kept (t':=s1.toks) λb o e=>zT _ e,p6 a _,⟨_,zW _ rfl,rfl,rfl⟩,λb hb=>?_,q⟩;cases List.mem_singleton.mp hb;exact I1.Q9 (yK _) I1.fresh
  ·let⟨its,rv,pl,hz⟩:=I1.tuple hq;refine xP (show s1.heap.IsTuple a its.toArray from pl) ⟨s1.heap.objs.size,[s1.heap.objs.size],_,_,H1,rfl,I1.kept (t':=s1.toks) λb o e=>zT _ e,oo a _,⟨_,zW _ rfl,rfl,rfl⟩,λb hb=>?_,q⟩;cases List.mem_singleton.mp hb;exact I1.Q9 (yK _) I1.fresh
 ·subst e;let⟨t,rfl⟩:=r1;exact FW I1 y t q
def Li:D->Option (List D)|.str x=>some (tQ x)|d=>fA d
def AY(h:Li d=some ds):(d=.tuple ds\/d=.list ds)\/∃x,d=.str x/\ds=tQ x:=by
 unfold Li at h;split at h
 ·cases h;exact .inr ⟨_,rfl,rfl⟩
 ·exact .inl (gD h)
def pD(f:Env->Option D):Env->Option (List D):=λρ=>(f ρ).bind Li
def GV(h:DE X l f):DI X tg l (pD f):=lD (FA h) λσ H R ⟨HF,ρ,ds,sm,eo,hf,q⟩=>by
 let⟨x,hx,hf⟩:=bs hf;refine⟨HF,ρ,x,sm,eo,hx,λv1 H1 Qf g1 r1=>?_⟩;rcases AY hf with (rfl|rfl)|⟨y,rfl,rfl⟩
 ·simp?[Rep] at r1;let⟨a,vs,rfl,hs,rr⟩:=r1;exact .inl ⟨a,rfl,.inr ⟨vs,ax g1.fh hs,q _ H1 Qf g1 (ui hs rr)⟩⟩
 ·simp?[Rep] at r1;let⟨a,vs,rfl,hs,rr⟩:=r1;exact .inl ⟨a,rfl,.inl ⟨vs,g1.fh.seq hs,q _ H1 Qf g1 (pj hs rr)⟩⟩
 ·simp?[Rep] at r1;exact .inr ⟨y,r1,q _ H1 Qf g1 Bv⟩
end
def A8(its:List Value):slicePick its.toArray none none (some (-1))=its.reverse.toArray:=by
 rw[<- sV its];unfold slicePick;have e:sliceBounds none none (some (-1)) its.toArray.size=(((its.length:Nat):Int) - 1,-1,-1):=rfl;rw[e];unfold sliceRange;have e2:((if (-1:Int) > 0 then (if ((its.length:Nat):Int) - 1 < -1 then (-1 - (((its.length:Nat):Int) - 1)+-1 - 1) / -1 else 0) else (if ((its.length:Nat):Int) - 1 > -1 then (((its.length:Nat):Int) - 1 - -1 - -1 - 1) / (- -1) else 0)):Int).toNat=its.length:=by
  rw[yL (by decide)];simp?[Int.neg_neg,Int.ediv_one];split<;>lia
 simp?[e2];rw[List.filterMap_map]
 congr 1
 refine nP λk _=>?_;show its.toArray[(((its.length:Nat):Int) - 1+(-1) * (k:Int)).toNat]?=_;rw[Int.mul_comm]
def HQ(ha:PE X a ta):PE X (.Subscript a (.Slice none none (some (.UnaryOp .USub (.Constant (.int 1) j p4) p3)) p2) pos) (λσ H Q=>ta σ H λx H1=>∃b xs,x=.ref b/\eH X.K H1 b xs/\∀p,H1 p=none->Q (.ref p) (upd H1 p (.lst xs.reverse))):=by
 intro pins s σ H Q I h;refine Subscript_ (bC (ha pins s σ H _ I h) λv s1 ⟨x,H1,I1,r1,b,xs,e,hq,q⟩=>?_);subst e;cases r1;refine wpAny_Slice ?_;rw[evalPart_none];refine zV (zV ?_);have RG:=se (X:=X) (Ew (op:=.USub) vv (wR (X:=X) (i:=1) (j:=j) (pos:=p4)) (pos:=p3)) pins s1 σ H1 (λo H'=>o=some (-1)/\H'=H1) I1 ⟨1,rfl,-1,rfl,rfl,rfl⟩;refine bC RG λY6 s2 ⟨o,H2,I2,WG,e1,e2⟩=>?_;subst e1 e2;cases WG with
 | int _ tk =>
 have I4:Inv X pins σ H2 { s2 with heap:=s2.heap.push { cls:=.type "slice",data:=.fields #[.none,.none,.int (-1) tk] } }:=I2.kept (t':=s2.toks) λb ob q=>zT _ q;let⟨its',r',Ug,hz⟩:=I4.list hq;refine tail_any (ops:=[.ref b,.ref s2.heap.objs.size]) Ug.isList.typeIs slot_list_getitem.lookup (wpAny_getItem_list_slice Ug.isList (Heap.IsSliceOf.new ..) .none .none (.int _ _) (by decide) ?_ (by rw[zH,<- r'.length];exact hz)) (by with_unfolding_all rfl);rw[A8];have hv:aA xs.reverse its'.reverse:=L2.aA.reverse r';exact⟨.ref _,_,I4.laid (t':=s2.toks) (o:=.lst xs.reverse) (λb ob q=>zT _ q) (yK _) ⟨by rw[List.length_reverse];exact hz,_,0,hv,zW _ rfl⟩,rfl,q _ I4.fresh⟩
def zr:D->Option D|.list ds=>some (.list ds.reverse)|_=>none
def Gi(ha:DE X a fa):DE X (.Subscript a (.Slice none none (some (.UnaryOp .USub (.Constant (.int 1) j p4) p3)) p2) pos) (f1 zr fa):=aD (HQ ha) λσ H Q ⟨HF,ρ,d,sm,eo,hf,q⟩=>by
 let⟨x,hx,hf⟩:=bs hf;refine⟨HF,ρ,x,sm,eo,hx,λv1 H1 Qf g1 r1=>?_⟩;cases x<;>try cases hf
 simp?[Rep] at r1;let⟨b,vs,rfl,hs,rr⟩:=r1;refine⟨b,vs,rfl,g1.fh.seq hs,λp hp=>q _ _ _ (g1.trans (.new g1.fh hp)) ?_⟩;simp?[Rep];exact⟨p,_,rfl,.inl (.inl aF),rr.reverse.mono (cu (g1.fh.free hp))⟩
end Dl
namespace Rf
open PySem L2 Dl PySem.Spec PyProof.Rows
variable {env:PySem.Env}
structure Tr where
 e:Expr->Option (Dl.Env->Option D)
 f:Expr->Option (Dl.Env->Option (List D))
 t:Expr->Option (Dl.Env->Option Bool)
structure Sg where
 fn:List (Str×Nat×(List D->Option D))
 int:List (Str×D)
abbrev FE:=Dl.Env->Option D
def wu(G:Sg)(sc:Scope)(N:List Str)(x:Str):Option FE:=match N.idxOf? x with
 | some i=>if u0 N sc i x=true then some (aa i) else none
 | none=>if (sR sc x&&!(x == ("__debug__":Str)))=true then (G.int.lookup x).map λn=>fC n else none
def ze:Const->Option FE
 | .int i=>some (fC (.int i))
 | .bool b=>some (fC (.bool b))
 | .none=>some (fC .none)
 | .str x=>some (fC (.str x))
 | _=>none
def MD(T:Tr)(op:UnaryOp)(a:Expr):Option FE:=match op with
 | .USub=>(T.e a).map (f1 gW)
 | _=>none
def Ow:Operator->Option (D->D->Option D)
 | .Add=>some aw
 | .Sub=>some Dl.ir
 | .Mult=>some ft
 | .FloorDiv=>some la
 | .Mod=>some jd
 | _=>none
def LS:Expr->Bool
 | .Name x _=>x == ("_law_lines":Str)
 | _=>false
def Ir:Expr->Bool
 | .Subscript a (.Slice ..) _=>LS a
 | _=>false
def IU:Expr->Bool
 | .List ..=>true
 | .ListComp ..=>true
 | _=>false
def yp:Expr->Bool
 | .List ..=>true
 | .ListComp ..=>true
 | .BinOp a .Mult _ _=>IU a
 | .BinOp a .Add b _=>Ir a||yp a||yp b
 | .Call (.Name x _) _ _ _=>x == ("sorted":Str)||x == ("list":Str)
 | _=>false
def Ci(T:Tr)(whole a:Expr)(op:Operator)(b:Expr):Option FE :=
 if yp whole=true then (T.f whole).map cm else (Ow op).bind λg=>(T.e a).bind λx=>(T.e b).map λy=>f2 g x y
def rW(T:Tr)(op:BoolOp):List Expr->Option FE
 | []=>none
 | [a]=>T.e a
 | a::b::r=>(T.e a).bind λx=>(rW T op (b::r)).map λy=>match op with|.And=>iP x y|.Or=>Oq x y
def Ms:CmpOp->Option (D->D->Option D)
 | .Lt=>some Nn
 | .LtE=>some sQ
 | .Gt=>some D1
 | .GtE=>none
 | .Eq=>some aX
 | .NotEq=>some bN
 | .In=>some JD
 | .NotIn=>some K0
 | .Is=>some DR
 | .IsNot=>some td
def NH:CmpOp->Option (D->D->Option D)
 | .Lt=>some Nn
 | .LtE=>some sQ
 | _=>none
def zq(T:Tr)(a:Expr)(ops:List CmpOp)(cs:List Expr):Option FE:=match ops,cs with
 | [op],[b]=>if behindInMarks op b=false then (Ms op).bind λg=>(T.e a).bind λx=>(T.e b).map λy=>f2 g x y else none
 | [op,RU],[b,c]=>if lastMarks [op,RU] [b,c]=false then (NH op).bind λg=>(NH RU).bind λg'=>(T.e a).bind λx=>(T.e b).bind λy=>(T.e c).map λz=>il g g' x y z else none
 | _,_=>none
def oN(T:Tr):List Expr->Option (Dl.Env->Option (List D))
 | []=>some ag
 | e::es=>if isStar e=false then (T.e e).bind λx=>(oN T es).map λr=>ae x r else none
def M8(T:Tr):Option Expr->Option (Dl.Env->Option (Option Int))
 | none=>some aN
 | some e=>(T.e e).map bX
def qk:Expr->Bool
 | .Slice ..=>true
 | .Tuple ..=>true
 | .Starred ..=>true
 | _=>false
def om:Expr->Bool
 | .UnaryOp .USub (.Constant (.int 1) _ _) _=>true
 | _=>false
def Eh(T:Tr)(a b:Expr):Option FE:=match b with
 | .Slice lo hi none _=>(T.e a).bind λx=>(M8 T lo).bind λl=>(M8 T hi).map λh=>aP bf x l h
 | .Slice none none (some s) _=>if om s=true then (T.e a).map λx=>if Ir a=true then f1 zr x else f1 uU x else none
 | _=>if qk b=false then (T.e a).bind λx=>(T.e b).map λy=>f2 aC x y else none
def OM:List D->Option D:=λds=>(oneOf ds).bind λd=>match d with
 | .list es=>(boolsOf es).map λbs=>.bool (bs.any id)
 | _=>none
def lL:Expr->Option Expr
 | .Call (.Name x _) [e] [] _=>if x="set" then some e else none
 | _=>none
def Jo(x:Str):Option String:=if x="int" then some "int" else if x="bool" then some "bool" else if x="tuple" then some "tuple" else if x="list" then some "list" else none
def vz(G:Sg)(sc:Scope)(T:Tr)(whole:Expr)(x:Str)(args:List Expr):Option FE :=
 if (sR sc x&&args.all λe=>!isStar e)=true then
  match G.fn.lookup x with
  | some (n,m)=>if (args.isEmpty||x == ("__debug__":Str))=true then none else (oN T args).map λfs=>ai n m fs
  | none =>
   if x="len" then (match args with
    | [e]=>(match lL e with
     | some e'=>if (sR sc "set"&&!isStar e')=true then (T.e e').map λy=>f1 iI y else none
     | none=>(oN T args).map λfs=>aW bD fs)
    | _=>none)
   else if x="isinstance" then (match args with
    | [e,.Name y _]=>if sR sc y=true then (Jo y).bind λty=>(T.e e).map λz=>IB ty z else none
    | _=>none)
   else if x="tuple" then (if args.length=1 then (oN T args).map λfs=>aW bU fs else none)
   else if x="all" then (if args.length=1 then (oN T args).map λfs=>aW j4 fs else none)
   else if x="any" then (if args.length=1 then (oN T args).map λfs=>aW OM fs else none)
   else if x="sum" then (if args.length=1 then (oN T args).map λfs=>aW nC fs else none)
   else if x="min" then (if args.isEmpty=true then none else (oN T args).map λfs=>aW KW fs)
   else if (x == ("list":Str)||x == ("sorted":Str))=true then (T.f whole).map cm
   else none
 else none
def m5:Expr->Bool
 | .Call ..=>true
 | _=>false
def wk(T:Tr)(o:Expr)(m:Str)(apos:Pos)(args:List Expr)(Qe:Pos):Option FE :=
 if (m == ("index":Str)&&apos.endLine == Qe.line&&!m5 o)=true then (match args with
  | [e]=>if isStar e=false then (T.e o).bind λx=>(T.e e).map λy=>f2 MU x y else none
  | _=>none)
 else none
def yy(G:Sg)(sc:Scope)(N:List Str)(T:Tr)(whole:Expr):Option FE:=match whole with
 | .Name x _=>wu G sc N x
 | .Constant c _ _=>ze c
 | .UnaryOp op a _=>MD T op a
 | .BinOp a op b _=>Ci T whole a op b
 | .BoolOp op es _=>rW T op es
 | .Compare a ops cs _=>zq T a ops cs
 | .IfExp c a b _=>(T.t c).bind λz=>(T.e a).bind λx=>(T.e b).map λy=>Fd z x y
 | .Tuple es _ _=>(oN T es).map bc
 | .Subscript a b _=>Eh T a b
 | .List ..=>(T.f whole).map cm
 | .ListComp ..=>(T.f whole).map cm
 | .Call (.Name x _) args [] _=>vz G sc T whole x args
 | .Call (.Name _ _) _ (_::_) _=>(T.f whole).map cm
 | .Call (.Attribute o m apos) args [] Qe=>wk T o m apos args Qe
 | _=>none
def Ni(T:Tr)(op:BoolOp):List Expr->Option (Dl.Env->Option Bool)
 | []=>none
 | [a]=>T.t a
 | a::b::r=>(T.t a).bind λx=>(Ni T op (b::r)).map λy=>match op with|.And=>ow x y|.Or=>dk x y
def El:Expr->Bool
 | .Name ..=>true
 | .Call ..=>true
 | .Subscript ..=>true
 | _=>false
def stepT(T:Tr)(whole:Expr):Option (Dl.Env->Option Bool):=match whole with
 | .Compare a ops cs _=>(zq T a ops cs).map fB
 | .UnaryOp .Not a _=>(T.t a).map bK
 | .BoolOp op es _=>Ni T op es
 | _=>if El whole=true then (T.e whole).map fB else none
def sj:Expr->Bool
 | .Tuple ..=>true
 | _=>false
def Ge:List Str:=["line","word","text","_law_line","_law_text","_law_word","_law_text_here","_law_spoilt","_law_sign","DIGITS","POINT"]
def n6:Nat->Expr->Bool
 | 0,_=>false
 | n+1,e=>match e with
  | .Constant (.str _) _ _=>true
  | .Name x _=>Ge.contains x
  | .BinOp a .Add b _=>n6 n a||n6 n b
  | .IfExp _ a b _=>n6 n a||n6 n b
  | .Subscript a (.Slice ..) _=>n6 n a
  | .Subscript a _ _=>n6 n a||LS a
  | .Call (.Attribute _ m _) _ _ _=>m == ("join":Str)
  | .Call (.Name x _) _ _ _=>x == ("str":Str)
  | _=>false
abbrev tx(e:Expr):Bool:=n6 20 e
def Mr(sc:Scope)(T:Tr)(tg iter:Expr):Option (Dl.Env->Option (List D)):=match iter with
 | .Call (.Name x _) args [] _ =>
  if x="range" then (match args with|[e]=>if (sR sc "range"&&!isStar e)=true then (oN T args).map cZ else none|[a,b]=>if (sR sc "range"&&(!isStar a&&!isStar b))=true then (oN T args).map fw else none|_=>none)
  else if x="enumerate" then (match args with|[e]=>if (sR sc "enumerate"&&!isStar e&&sj tg)=true then (oN T args).map cE else none|_=>none)
  else if x="zip" then (match args with|[e,e']=>if (sR sc "zip"&&!isStar e&&!isStar e'&&sj tg)=true then (oN T args).map dQ else none|_=>none)
  else (T.e iter).map aZ
 | .Set ..=>none
 | _=>if tx iter=true then (T.e iter).map pD else (T.e iter).map aZ
def Of:Expr->Option (List Str)
 | .Name x _=>some [x]
 | .Tuple [.Name x _,.Name y _] _ _=>some [x,y]
 | _=>none
def NS:Expr->Option (List Str)
 | .Tuple [.Name x _,.Name y _,.Name z _] _ _=>some [x,y,z]
 | tg=>Of tg
def pY(N:List Str)(scope:Scope):List Nat:=(List.range N.length).filter λj=>match N[j]? with|some x=>decide (scope.names.lookup x=some .free)|none=>false
def vt:Expr->Bool
 | .Set ..=>false
 | _=>true
def HY(B:Tr)(ifs:List Expr):Option (Dl.Env->Option Bool):=match ifs with
 | []=>some λ_=>some true
 | [c]=>B.t c
 | _=>none
def sF(sc:Scope)(N:List Str)(T:Tr)(blk:Scope->List Str->Tr)(elt:Expr)(gens:List Comprehension)(scope:Scope):Option (Dl.Env->Option (List D)):=match gens with
 | [⟨tg,iter,ifs,as⟩] =>
  if as=0 then (NS tg).bind λxs =>
   if (wG sc scope N (xs++(pY N scope).filterMap λj=>N[j]?) xs.length (pY N scope)&&(List.range xs.length).all λi=>my (xs++(pY N scope).filterMap λj=>N[j]?) scope i (xs.getD i ""))=true then
    (Mr sc T tg iter).bind λfi=>(HY (blk scope (xs++(pY N scope).filterMap λj=>N[j]?)) ifs).bind λtt =>
     ((blk scope (xs++(pY N scope).filterMap λj=>N[j]?)).e elt).map λte=>ay xs.length (pY N scope) fi (match xs with|[_]=>fG 0|[_,_]=>k6 0 1|_=>OE 0 1 2) tt te
   else none
  else none
 | _=>none
def zi(lam:Option Str)(sc:Scope)(N:List Str)(T:Tr)(blk lmb:Scope->List Str->Tr)(whole:Expr):Option (Dl.Env->Option (List D)):=match whole with
 | .List es _=>(oN T es).map cP
 | .ListComp elt gens scope _=>sF sc N T blk elt gens scope
 | .BinOp a .Mult b _=>if IU a=true then (T.f a).bind λx=>(T.e b).map λy=>pS x y else none
 | .BinOp a .Add b _=>(T.e a).bind λx=>(T.e b).map λy=>iG cX x y
 | .Call (.Name x _) [e] [] _ =>
  if (sR sc x&&!isStar e)=true then
   if x="list" then (oN T [e]).map λfs=>lG c7 fs
   else if x="sorted" then (oN T [e]).map λfs=>lG fy fs
   else none
  else none
 | _=>none
def Cg(G:Sg)(sc:Scope)(T:Tr)(x:Str)(e:Expr):Option FE :=
 if (sR sc x&&(!isStar e&&(G.fn.lookup x).isNone))=true then
  if (x == ("len":Str)&&tx e)=true then (oN T [e]).map λfs=>aW ju fs
  else if (x == ("str":Str))=true then (oN T [e]).map λfs=>aW tq fs
  else if (x == ("int":Str)&&tx e)=true then (oN T [e]).map λfs=>aW iS fs
  else none
 else none
def Ee(T:Tr)(o:Expr)(m:Str)(apos:Pos)(e:Expr)(Qe:Pos):Option FE :=
 if (apos.endLine == Qe.line&&(!m5 o&&!isStar e))=true then
  if (m == ("join":Str))=true then (T.e o).bind λx=>(T.e e).map λy=>f2 iT x y
  else if (m == ("split":Str))=true then (T.e o).bind λx=>(T.e e).map λy=>cm (iG ck x y)
  else if (m == ("index":Str)&&tx o)=true then (T.e o).bind λx=>(T.e e).map λy=>f2 yu x y
  else none
 else none
def M3:Expr->Bool
 | .Name x _=>x == ("known":Str)
 | _=>false
def JS:Expr->Option Expr
 | .FormattedValue e c none _=>if c=-1 then some e else none
 | _=>none
def vg(T:Tr)(e:Expr):Option FE:=match JS e with
 | some a=>(T.e a).map λf=>f1 Bh f
 | none=>T.e e
def mY(T:Tr):List Expr->Option (List FE)
 | []=>some []
 | e::es=>(vg T e).bind λf=>(mY T es).map λfs=>f::fs
def JV(T:Tr):List Expr->Option FE
 | a::b::es=>(mY T (a::b::es)).map λfs=>Gs fs Str.empty
 | _=>none
def Fb(T:Tr)(a b:Expr):Option FE:=match b with
 | .Slice lo hi none _=>(T.e a).bind λx=>(M8 T lo).bind λl=>(M8 T hi).map λh=>aP bR x l h
 | _=>if qk b=false then (T.e a).bind λx=>(T.e b).map λy=>f2 dR x y else none
def NN:CmpOp->Option (D->D->Option D)
 | .In=>some λx y=>(Mx x y).map PyData.bool
 | .NotIn=>some λx y=>(v7 x y).map PyData.bool
 | _=>none
def yk(T:Tr)(a:Expr)(ops:List CmpOp)(cs:List Expr):Option FE:=match ops,cs with
 | [op],[b]=>if ((M3 b&&op == .NotIn)&&!behindInMarks op b)=true then (T.e a).bind λx=>(T.e b).map λy=>f2 mG x y else if (tx b&&!behindInMarks op b)=true then (NN op).bind λg=>(T.e a).bind λx=>(T.e b).map λy=>f2 g x y else none
 | _,_=>none
def CP(G:Sg)(sc:Scope)(T:Tr)(whole:Expr):Option FE:=match whole with
 | .BinOp a .Add b _=>if (tx a||tx b)=true then (T.e a).bind λx=>(T.e b).map λy=>f2 bZ x y else none
 | .Subscript a b _=>if tx a=true then Fb T a b else if (M3 a&&!qk b)=true then (T.e a).bind λx=>(T.e b).map λy=>f2 l5 x y else none
 | .JoinedStr es _=>JV T es
 | .Call (.Name x _) [e] [] _=>Cg G sc T x e
 | .Call (.Attribute o m apos) [e] [] Qe=>Ee T o m apos e Qe
 | .Compare a ops cs _=>yk T a ops cs
 | _=>none
def B3(G:Sg)(sc:Scope)(N:List Str)(T:Tr)(whole:Expr):Option FE:=match CP G sc T whole with
 | some f=>some f
 | none=>yy G sc N T whole
def Cu(T:Tr)(whole:Expr):Option (Dl.Env->Option Bool):=match whole with
 | .Compare a ops cs _=>(yk T a ops cs).map fB
 | _=>none
def E8(T:Tr)(whole:Expr):Option (Dl.Env->Option Bool):=match Cu T whole with
 | some f=>some f
 | none=>stepT T whole
def Oz(mg:Str->Option Value)(x:Str):D->Prop
 | .int i=>∃t,mg x=some (.int i t)
 | .str a=>∃t,mg x=some (.str a t)
 | _=>False
def tr(G:Sg):Nat->Option Str->Scope->List Str->Tr
 | 0,_,_,_=>⟨λ_=>none,λ_=>none,λ_=>none⟩
 | n+1,lam,sc,N=>⟨B3 G sc N (tr G n lam sc N),zi lam sc N (tr G n lam sc N) (tr G n none) (tr G n none),E8 (tr G n lam sc N)⟩
structure Lq(G:Sg)(X:Cx)(j:Nat):Prop where
 fn:∀x n m,G.fn.lookup x=some (n,m)->EY X.prog X.w X.K X.mg X.base j x n m
 int:∀x i,G.int.lookup x=some i->Oz X.mg x i
 bn:Bn X
structure nq(X:Cx)(tg iter:Expr)(ifs:List Expr)(elt:Expr)(scope:Scope)(f:Dl.Env->Option (List D)):Prop where
 ex:∃ (N':List Str) (t:Nat) (cs:List Nat) (fi:Dl.Env->Option (List D)) (tgt:Dl.Env->D->Option Dl.Env) (tt:Dl.Env->Option Bool) (te:FE),f=ay t cs fi tgt tt te/\ly X scope N' (iW t cs)/\DI X tg iter fi/\(∀x,foldedSetIterable iter X.env x=pure x) /\
  ∀fp s H,DG (aM X scope N' fp s H) tg tgt/\MH (aM X scope N' fp s H) ifs tt/\DE (aM X scope N' fp s H) elt te
structure bO(X:Cx)(T:Tr):Prop where
 c:∀elt gens scope p f,T.f (.ListComp elt gens scope p)=some f->∃tg iter ifs,gens=[⟨tg,iter,ifs,0⟩]/\nq X tg iter ifs elt scope f
 e:∀e f,T.e e=some f->DE X e f
 f:∀e f,T.f e=some f->DF X e f
 t:∀e f,T.t e=some f->DT X e f
section
variable {G:Sg}{X:Cx}{N:List Str}{sc:Scope}{k j:Nat}{T:Tr}{pos p:Pos}
def Bt(C:Bk X N sc k)(g:Lq G X j)(h:wu G sc N x=some f):DE X (.Name x pos) f:=by
 unfold wu at h;split at h
 ·split at h
  ·cases h;exact C.v _ ‹_›
  ·cases h
 ·split at h
  ·rename_i hg;let⟨n,hn,rfl⟩:=af h;have z:=g.int x n hn;simp?[zF,yN] at hg;cases n<;>first|exact False.elim z|(let⟨t,ht⟩:=z;first|exact Hy (C.gl hg.1) ht hg.2|exact HD (C.gl hg.1) ht hg.2)
  ·cases h
def wq(h:ze c=some f):DE X (.Constant c i pos) f:=by
 cases c<;>cases h<;>first|exact Jz|exact MA|exact Jd|exact La
def Fo(C:Bk X N sc k)(O:bO X T)(h:MD T op a=some f):DE X (.UnaryOp op a pos) f:=by
 cases op<;>try cases h
 ·let⟨x,hx,rfl⟩:=af h;exact C.neg (O.e _ _ hx)
def Ea(C:Bk X N sc k)(O:bO X T)(h:Ci T (.BinOp a op b pos) a op b=some f):DE X (.BinOp a op b pos) f:=by
 unfold Ci at h;split at h
 ·let⟨x,hx,rfl⟩:=af h;exact DF.de (O.f _ _ hx)
 ·let⟨g,hg,h⟩:=bs h;let⟨x,hx,h⟩:=bs h;let⟨y,hy,rfl⟩:=af h;cases op<;>cases hg
  ·exact C.add (O.e _ _ hx) (O.e _ _ hy)
  ·exact C.sub (O.e _ _ hx) (O.e _ _ hy)
  ·exact C.mul (O.e _ _ hx) (O.e _ _ hy)
  ·exact C.mod (O.e _ _ hx) (O.e _ _ hy)
  ·exact C.div (O.e _ _ hx) (O.e _ _ hy)
def pW(O:bO X T):∀ {es:List Expr}{f:FE},rW T op es=some f->DE X (.BoolOp op es pos) f
 | [],f,h=>by cases h
 | [a],f,h=>Ja (O.e _ _ h)
 | a::b::r,f,h=>by
  unfold rW at h;let⟨x,hx,h⟩:=bs h;let⟨y,hy,rfl⟩:=af h;have ih:=pW O hy;cases op with
  | And=>exact KS (O.e _ _ hx) ih
  | Or=>exact MF (O.e _ _ hx) ih
def Ju(C:Bk X N sc k)(hg:Ms op=some g)(hm:behindInMarks op b=false)(ha:DE X a x)(hb:DE X b y):DE X (.Compare a [op] [b] pos) (f2 g x y)/\DT X (.Compare a [op] [b] pos) (fB (f2 g x y)):=by
 cases op<;>cases hg
 ·exact⟨C.eq ha hb,C.Zk ha hb⟩
 ·exact⟨C.ne ha hb,C.Zl ha hb⟩
 ·exact⟨C.lt ha hb,C.Zi ha hb⟩
 ·exact⟨C.le ha hb,C.Zj ha hb⟩
 ·exact⟨C.gt ha hb,C.tgt ha hb⟩
 ·exact⟨C.Zn ha hb,C.WO ha hb⟩
 ·exact⟨C.WN ha hb,C.Vd ha hb⟩
 ·exact⟨C.isin ha hb hm,C.Zm ha hb hm⟩
 ·exact⟨C.Vl ha hb hm,C.WX ha hb hm⟩
def IL(h:NH op=some g):∃r,eN X (compareOp op) r/\di X.K r g:=by
 cases op<;>cases h
 ·exact⟨_,EA,iu⟩
 ·exact⟨_,BU,iu⟩
def uh(C:Bk X N sc k)(O:bO X T){cs:List Expr}(h:zq T a ops cs=some f):DE X (.Compare a ops cs pos) f/\DT X (.Compare a ops cs pos) (fB f):=by
 unfold zq at h;split at h
 ·split at h
  ·rename_i hm;let⟨g,hg,h⟩:=bs h;let⟨x,hx,h⟩:=bs h;let⟨y,hy,rfl⟩:=af h;exact Ju C hg hm (O.e _ _ hx) (O.e _ _ hy)
  ·cases h
 ·split at h
  ·rename_i hm;let⟨g,hg,h⟩:=bs h;let⟨g',Vb,h⟩:=bs h;let⟨x,hx,h⟩:=bs h;let⟨y,hy,h⟩:=bs h;let⟨z,hz,rfl⟩:=af h;let⟨r,r1,r2⟩:=IL (X:=X) hg;let⟨r',VG,VH⟩:=IL (X:=X) Vb;exact⟨EW r1 r2 VG VH (O.e _ _ hx) (O.e _ _ hy) (O.e _ _ hz) hm,Cq r1 r2 VG VH (O.e _ _ hx) (O.e _ _ hy) (O.e _ _ hz) hm⟩
  ·cases h
 ·cases h
def bW(O:bO X T):∀ {es:List Expr}{fs:Dl.Env->Option (List D)},oN T es=some fs->DA X es fs
 | [],fs,h=>by cases h;exact Ku
 | e::es,fs,h=>by
  unfold oN at h;split at h
  ·rename_i hs;let⟨x,hx,h⟩:=bs h;let⟨r,hr,rfl⟩:=af h;exact NB hs (O.e _ _ hx) (bW O hr)
  ·cases h
def sP(O:bO X T)(h:M8 T o=some f):DO X o f:=by
 cases o with
 | none=>cases h;exact GL
 | some e=>let⟨x,hx,rfl⟩:=af h;exact Fv (O.e _ _ hx)
def jg(h:qk b=false):kf b:=by
 cases b<;>first|(intro _ _;rfl)|cases h
def Ay(h:om e=true):∃j p4 p3,e=.UnaryOp .USub (.Constant (.int 1) j p4) p3:=by
 unfold om at h;split at h
 ·exact⟨_,_,_,rfl⟩
 ·cases h
def B8(C:Bk X N sc k)(O:bO X T)(h:Eh T a b=some f):DE X (.Subscript a b pos) f:=by
 unfold Eh at h;split at h
 ·let⟨x,hx,h⟩:=bs h;let⟨l,hl,h⟩:=bs h;let⟨u,hu,rfl⟩:=af h;exact C.cut (O.e _ _ hx) (sP O hl) (sP O hu)
 ·split at h
  ·rename_i hm;let⟨x,hx,rfl⟩:=af h;let⟨_,_,_,rfl⟩:=Ay hm;split
   ·exact Gi (O.e _ _ hx)
   ·exact IX (O.e _ _ hx)
  ·cases h
 ·split at h
  ·rename_i hc;let⟨x,hx,h⟩:=bs h;let⟨y,hy,rfl⟩:=af h;exact L6 (O.e _ _ hx) (O.e _ _ hy) (jg hc)
  ·cases h
def eU{env:PySem.Env}:∀ {es:List Expr},(es.all λe=>!isStar e)=true->(backTo pos (starEach es env)).any (·.1)=false
 | [],_=>rfl
 | e::es,h=>by
  rw[xQ,zF,yN] at h;rw[aQ h.1];show (false||(backTo pos (starEach es env)).any (·.1))=false;rw[eU h.2];rfl
def Dr(h:lL e=some e'):∃p q,e=.Call (.Name "set" p) [e'] [] q:=by
 unfold lL at h;split at h
 ·split at h
  ·rename_i hx;cases h;subst hx;exact⟨_,_,rfl⟩
  ·cases h
 ·cases h
def Gp(h:Jo y=some ty):y∈cK/\bootBuiltins y=some (.type ty)/\y≠"__name__"/\(y == ("__debug__":Str))=false:=by
 unfold Jo at h;split at h
 ·rename_i e;cases h;subst e;exact⟨by decide +kernel,by decide +kernel,by decide,by decide⟩
 ·split at h
  ·rename_i e;cases h;subst e;exact⟨by decide +kernel,by decide +kernel,by decide,by decide⟩
  ·split at h
   ·rename_i e;cases h;subst e;exact⟨by decide +kernel,by decide +kernel,by decide,by decide⟩
   ·split at h
    ·rename_i e;cases h;subst e;exact⟨by decide +kernel,by decide +kernel,by decide,by decide⟩
    ·cases h
def Kg:bootBuiltins "any"=some (.builtin "any"):=by decide +kernel
def JZ:bootBuiltins "sum"=some (.builtin "sum"):=by decide +kernel
def JJ:bootBuiltins "min"=some (.builtin "min"):=by decide +kernel
def vY(h:l.length=1):∃a,l=[a]:=by
 match l,h with
 | [a],_=>exact⟨a,rfl⟩
def Ax(C:Bk X N sc k)(g:Lq G X j)(SH:j<=k)(O:bO X T)(h:vz G sc T (.Call (.Name x p) args [] pos) x args=some f):DE X (.Call (.Name x p) args [] pos) f:=by
 unfold vz at h;split at h
 ·rename_i hg;rw[zF] at hg;let⟨hg,hs⟩:=hg;have SU:∀ {e:Expr}{es:List Expr},args=e::es->starEach (e::es) X.env=(false,eval e X.env)::starEach es X.env:=λ{e es} q=>by
   subst q;rw[xQ,zF,yN] at hs;exact aQ hs.1
  have Sh:∀ {e:Expr}{es:List Expr},args=e::es->(backTo pos (starEach es X.env)).any (·.1)=false:=λ{e es} q=>by
   subst q;rw[xQ,zF] at hs;exact eU hs.2
  split at h
  ·rename_i n m SY;split at h
   ·cases h
   ·rename_i QT;let⟨fs,Rz,rfl⟩:=af h;cases args with
    | nil=>exact absurd (by simp) QT
    | cons e es =>
     have hd:(x == ("__debug__":Str))=false:=by simpa using QT
     exact Hu (g.fn x n m SY) (C.room.mono SH) (C.gl hg) (bW O Rz) hd (SU rfl) (Sh rfl)
  ·split at h
   ·rename_i hx;subst hx;split at h
    ·rename_i e;split at h
     ·rename_i e' Va;split at h
      ·rename_i W0;rw[zF,yN] at W0;let⟨y,hy,rfl⟩:=af h;let⟨p1,p2,rfl⟩:=Dr Va;exact Bq C.calm (C.blt g.bn hg (by decide +kernel) wV) (C.blt g.bn W0.1 (by decide +kernel) JT) (O.e _ _ hy) (aQ W0.2)
      ·cases h
     ·let⟨fs,Rz,rfl⟩:=af h;exact KB (C.blt g.bn hg (by decide +kernel) wV) (bW O Rz) (SU rfl)
    ·cases h
   ·split at h
    ·rename_i hx;subst hx;split at h
     ·rename_i e y py;split at h
      ·rename_i W2;let⟨ty,Wc,h⟩:=bs h;let⟨z,hz,rfl⟩:=af h;let⟨t1,t2,t3,t4⟩:=Gp Wc;exact LY (C.blt g.bn hg (by decide +kernel) oU) (C.blt g.bn W2 t1 t2) (O.e _ _ hz) t3 t4 (SU rfl)
      ·cases h
     ·cases h
    ·split at h
     ·rename_i hx;subst hx;split at h
      ·rename_i hl;let⟨fs,Rz,rfl⟩:=af h;let⟨e,rfl⟩:=vY hl;exact CK (C.blt g.bn hg (by decide +kernel) E9) (bW O Rz) (SU rfl)
      ·cases h
     ·split at h
      ·rename_i hx;subst hx;split at h
       ·rename_i hl;let⟨fs,Rz,rfl⟩:=af h;let⟨e,rfl⟩:=vY hl;exact KM C.calm (C.blt g.bn hg (by decide +kernel) KO) (bW O Rz) (SU rfl)
       ·cases h
      ·split at h
       ·rename_i hx;subst hx;split at h
        ·rename_i hl;let⟨fs,Rz,rfl⟩:=af h;let⟨e,rfl⟩:=vY hl;exact Lr C.calm (C.blt g.bn hg (by decide +kernel) Kg) (SU rfl) (bW O Rz)
        ·cases h
       ·split at h
        ·rename_i hx;subst hx;split at h
         ·rename_i hl;let⟨fs,Rz,rfl⟩:=af h;let⟨e,rfl⟩:=vY hl;exact Kh C.calm (C.blt g.bn hg (by decide +kernel) JZ) (SU rfl) (bW O Rz)
         ·cases h
        ·split at h
         ·rename_i hx;subst hx;split at h
          ·cases h
          ·rename_i hl;let⟨fs,Rz,rfl⟩:=af h;cases args with
           | nil=>exact absurd rfl hl
           | cons e es =>
            exact Ky C.calm (C.blt g.bn hg (by decide +kernel) JJ) (SU rfl) (Sh rfl) (bW O Rz)
         ·split at h
          ·let⟨y,hy,rfl⟩:=af h;exact DF.de (O.f _ _ hy)
          ·cases h
 ·cases h
end
section
variable {G:Sg}{X:Cx}{N:List Str}{sc:Scope}{k j:Nat}{T:Tr}{pos p:Pos}
def Hn(h:isStar e=false):((backTo Qe (starEach [e] env)).all (λx=>!x.1)&&(backToKw Qe (keywordEach [] env)).all (λx=>x.1.isSome)&&decide ([e].length+([]:List Keyword).length+(if ([]:List Keyword).isEmpty then 0 else 1) < 30))=true:=by
 rw[aQ h];rfl
def fE(h:m5 o=false):attributeBase o a env w=w:=by
 cases o<;>first|rfl|cases h
def BF(C:Bk X N sc k)(O:bO X T)(h:wk T o m apos args Qe=some f):DE X (.Call (.Attribute o m apos) args [] Qe) f:=by
 unfold wk at h;split at h
 ·rename_i hm;rw[zF,zF,yN] at hm;let⟨⟨ZF,hm⟩,QX⟩:=hm;have e1:m="index":=eq_of_beq ZF;subst e1;split at h
  ·rename_i e;split at h
   ·rename_i hs;let⟨x,hx,h⟩:=bs h;let⟨y,hy,rfl⟩:=af h;exact An (fE QX) (Hn hs) hm (aQ hs) (O.e _ _ hx) (O.e _ _ hy)
   ·cases h
  ·cases h
 ·cases h
def CT(C:Bk X N sc k)(g:Lq G X j)(SH:j<=k)(O:bO X T)(h:yy G sc N T e=some f):DE X e f:=by
 unfold yy at h;split at h
 ·exact Bt C g h
 ·exact wq h
 ·exact Fo C O h
 ·exact Ea C O h
 ·exact pW O h
 ·exact (uh C O h).1
 ·let⟨z,hz,h⟩:=bs h;let⟨x,hx,h⟩:=bs h;let⟨y,hy,rfl⟩:=af h;exact Nc (O.t _ _ hz) (O.e _ _ hx) (O.e _ _ hy)
 ·let⟨x,hx,rfl⟩:=af h;exact JK (bW O hx)
 ·exact B8 C O h
 ·let⟨x,hx,rfl⟩:=af h;exact DF.de (O.f _ _ hx)
 ·let⟨x,hx,rfl⟩:=af h;exact DF.de (O.f _ _ hx)
 ·exact Ax C g SH O h
 ·let⟨x,hx,rfl⟩:=af h;exact DF.de (O.f _ _ hx)
 ·exact BF C O h
 ·cases h
def EF(O:bO X T):∀ {es:List Expr}{f:Dl.Env->Option Bool},Ni T op es=some f->DW X (.BoolOp op es pos) f
 | [],f,h=>by cases h
 | [a],f,h=>by
  cases op with
  | And=>exact Fp (O.t _ _ h)
  | Or=>exact Js (O.t _ _ h)
 | a::b::r,f,h=>by
  unfold Ni at h;let⟨x,hx,h⟩:=bs h;let⟨y,hy,rfl⟩:=af h;have ih:=EF O hy;cases op with
  | And=>exact J8 (O.t _ _ hx) ih
  | Or=>exact Md (O.t _ _ hx) ih
def Ei(C:Bk X N sc k)(O:bO X T)(h:stepT T e=some f):DT X e f:=by
 unfold stepT at h;split at h
 ·let⟨x,hx,rfl⟩:=af h;exact (uh C O hx).2
 ·let⟨x,hx,rfl⟩:=af h;exact JA (O.t _ _ hx)
 ·exact DW.dt (EF O h)
 ·split at h
  ·rename_i hp;let⟨x,hx,rfl⟩:=af h;refine LD (O.e _ _ hx) ?_;revert hp;cases e<;>first|(intro hp;cases hp;done)|(intro hp _;rfl)
  ·cases h
def w8(h:vt e=true):∀x,foldedSetIterable e env x=pure x:=by
 cases e<;>first|(intro _;rfl)|cases h
def v9(C:Bk X N sc k)(B:Bn X)(O:bO X T)(h:Mr sc T tg iter=some fi):DI X tg iter fi/\∀x,foldedSetIterable iter X.env x=pure x:=by
 unfold Mr at h;split at h
 ·refine⟨?_,λ_=>rfl⟩;split at h
  ·rename_i hx;subst hx;split at h
   ·split at h
    ·rename_i hg;rw[zF,yN] at hg;let⟨x,hx,rfl⟩:=af h;exact C4 (C.blt B hg.1 (by decide +kernel) uI) (bW O hx) (aQ hg.2)
    ·cases h
   ·split at h
    ·rename_i hg;simp?[zF,yN] at hg;let⟨x,hx,rfl⟩:=af h;exact A1 (C.blt B hg.1 (by decide +kernel) uI) (bW O hx) ((aQ hg.2.1).trans (qY _ (aQ hg.2.2))) (aQ hg.2.2)
    ·cases h
   ·cases h
  ·split at h
   ·rename_i hx;subst hx;split at h
    ·split at h
     ·rename_i hg;simp?[zF,yN] at hg;let⟨x,hx,rfl⟩:=af h;cases tg<;>first|exact Hh (C.blt B hg.1.1 (by decide +kernel) sJ) (bW O hx) (aQ hg.1.2)|exact absurd hg.2 (by simp[sj])
     ·cases h
    ·cases h
   ·split at h
    ·rename_i hx;subst hx;split at h
     ·split at h
      ·rename_i e e' hg;simp?[zF,yN] at hg;let⟨x,hx,rfl⟩:=af h;cases tg<;>first|exact HR (C.blt B hg.1.1.1 (by decide +kernel) JF) (aQ hg.1.1.2) (eU (by simp[hg.1.2])) (bW O hx)|exact absurd hg.2 (by simp[sj])
      ·cases h
     ·cases h
    ·let⟨x,hx,rfl⟩:=af h;exact E2 (O.e _ _ hx)
 ·cases h
 ·rename_i h1 h2;have hn:vt iter=true:=by cases iter<;>first|rfl|exact absurd rfl (h2 _ _ _)
  split at h
  ·let⟨x,hx,rfl⟩:=af h;exact⟨GV (O.e _ _ hx),w8 hn⟩
  ·let⟨x,hx,rfl⟩:=af h;exact⟨E2 (O.e _ _ hx),w8 hn⟩
def KZ(h:Of tg=some xs):(∃x px,tg=.Name x px/\xs=[x])\/∃x px y py m pt,tg=.Tuple [.Name x px,.Name y py] m pt/\xs=[x,y]:=by
 unfold Of at h;split at h
 ·cases h;exact .inl ⟨_,_,rfl,rfl⟩
 ·cases h;exact .inr ⟨_,_,_,_,_,_,rfl,rfl⟩
 ·cases h
def KN(h:NS tg=some xs):((∃x px,tg=.Name x px/\xs=[x])\/∃x px y py m pt,tg=.Tuple [.Name x px,.Name y py] m pt/\xs=[x,y])\/∃x px y py z pz m pt,tg=.Tuple [.Name x px,.Name y py,.Name z pz] m pt/\xs=[x,y,z]:=by
 unfold NS at h;split at h
 ·cases h;exact .inr ⟨_,_,_,_,_,_,_,_,rfl,rfl⟩
 ·exact .inl (KZ h)
def qj(C:Bk X N sc k)(B:Bn X)(O:bO X T)(OB:∀scope N' fp s H,Bk (aM X scope N' fp s H) N' scope k->bO (aM X scope N' fp s H) (blk scope N'))
  (h:sF sc N T blk elt [⟨tg,iter,ifs,as⟩] scope=some f):as=0/\nq X tg iter ifs elt scope f:=by
 unfold sF at h;dsimp only at h;split at h
 ·rename_i has;refine⟨has,?_⟩;let⟨xs,ZH,h⟩:=bs h;split at h
  ·rename_i Qh;rw[zF] at Qh;let⟨fi,RA,h⟩:=bs h;let⟨tt,Ua,h⟩:=bs h;let⟨te,UY,rfl⟩:=af h;let⟨S,CB⟩:=C.comp Qh.1;let⟨hd,QO⟩:=v9 C B O RA;refine⟨_,_,_,_,_,_,_,rfl,S,hd,QO,λfp s H=>?_⟩;have C1:=CB fp s H;have O1:=OB scope _ fp s H C1;refine⟨?_,?_,O1.e _ _ UY⟩
   ·rcases KN ZH with (⟨x,px,rfl,rfl⟩|⟨x,px,y,py,m,pt,rfl,rfl⟩)|⟨x,px,y,py,z,pz,m,pt,W3,rfl⟩
    ·have z:=C1.loc (i:=0) (x:=x) (List.all_eq_true.mp Qh.2 0 (by simp));exact G6 0 z.1 z.2.1 z.2.2.1 z.2.2.2
    ·have z:=C1.loc (i:=0) (x:=x) (List.all_eq_true.mp Qh.2 0 (by simp));have w:=C1.loc (i:=1) (x:=y) (List.all_eq_true.mp Qh.2 1 (by simp));exact K5 0 1 C1.calm z.1 z.2.1 z.2.2.1 w.2.1 w.2.2.1 z.2.2.2 w.2.2.2
    ·have z0:=C1.loc (i:=0) (x:=x) (List.all_eq_true.mp Qh.2 0 (by simp));have w:=C1.loc (i:=1) (x:=y) (List.all_eq_true.mp Qh.2 1 (by simp));have u:=C1.loc (i:=2) (x:=z) (List.all_eq_true.mp Qh.2 2 (by simp));subst W3;exact Ef 0 1 2 C1.calm z0.1 z0.2.1 z0.2.2.1 w.2.1 w.2.2.1 u.2.1 u.2.2.1 z0.2.2.2 w.2.2.2 u.2.2.2
   ·unfold HY at Ua;split at Ua
    ·cases Ua;exact G7
    ·exact Hm (O1.t _ _ Ua)
    ·cases Ua
  ·cases h
 ·cases h
def nq.df(hc:X.calm=true)(h:nq X tg iter ifs elt scope f):DF X (.ListComp elt [⟨tg,iter,ifs,0⟩] scope pos) f:=by
 let⟨N',t,cs,fi,tgt,tt,te,rfl,S,hd,QO,hY⟩:=h.ex;exact HC hc S hd hY QO
def C5(C:Bk X N sc k)(B:Bn X)(Ti:∀q,lam=some q->Im X q/\j+3<=k)(O:bO X T)
  (OB:∀scope N' fp s H,Bk (aM X scope N' fp s H) N' scope k->bO (aM X scope N' fp s H) (blk scope N'))
  (OL:∀scope N' qual A f c s H,Bk (IR X A qual scope N' f c s H) N' scope (k - 3)->j<=k - 3->bO (IR X A qual scope N' f c s H) (lmb scope N')) {e:Expr}{f:Dl.Env->Option (List D)}(h:zi lam sc N T blk lmb e=some f):DF X e f:=by
 unfold zi at h;split at h
 ·let⟨x,hx,rfl⟩:=af h;exact JP (bW O hx)
 ·rename_i elt gens scope ps
  match gens,h with
  | [⟨tg,iter,ifs,as⟩],h =>
   let⟨rfl,q⟩:=qj C B O OB h;exact q.df C.calm
 ·split at h
  ·let⟨x,hx,h⟩:=bs h;let⟨y,hy,rfl⟩:=af h;exact Lw (O.f _ _ hx) (O.e _ _ hy)
  ·cases h
 ·let⟨x,hx,h⟩:=bs h;let⟨y,hy,rfl⟩:=af h;exact Je (O.e _ _ hx) (O.e _ _ hy)
 ·split at h
  ·rename_i hg;rw[zF,yN] at hg;split at h
   ·rename_i hx;subst hx;let⟨x,hx,rfl⟩:=af h;exact G9 (C.blt B hg.1 (by decide +kernel) Gf) (bW O hx) (aQ hg.2)
   ·split at h
    ·rename_i hx;subst hx;let⟨x,hx,rfl⟩:=af h;exact BD (C.blt B hg.1 (by decide +kernel) Bg) (bW O hx) (aQ hg.2)
    ·cases h
  ·cases h
 ·cases h
def Gx(C:Bk X N sc k)(B:Bn X)(O:bO X T)(OB:∀scope N' fp s H,Bk (aM X scope N' fp s H) N' scope k->bO (aM X scope N' fp s H) (blk scope N'))
  {elt:Expr}{gens:List Comprehension}{scope:Scope}{p:Pos}{f:Dl.Env->Option (List D)}(h:zi lam sc N T blk lmb (.ListComp elt gens scope p)=some f):∃tg iter ifs,gens=[⟨tg,iter,ifs,0⟩]/\nq X tg iter ifs elt scope f:=by
 have h:sF sc N T blk elt gens scope=some f:=h
 match gens,h with
 | [⟨tg,iter,ifs,as⟩],h =>
  let⟨rfl,q⟩:=qj C B O OB h;exact⟨tg,iter,ifs,rfl,q⟩
def K6:bootBuiltins "str"=some (.type "str"):=by decide +kernel
def BS(C:Bk X N sc k)(g:Lq G X j)(O:bO X T)(h:Cg G sc T x e=some f):DE X (.Call (.Name x p) [e] [] pos) f:=by
 unfold Cg at h;split at h
 ·rename_i hg;simp?[zF,yN] at hg;let⟨hg,hs,_⟩:=hg;split at h
  ·rename_i hc;rw[zF] at hc;obtain rfl:=eq_of_beq hc.1;let⟨fs,hf,rfl⟩:=af h;exact GN (C.blt g.bn hg (by decide +kernel) wV) (bW O hf) (aQ hs)
  ·split at h
   ·rename_i hc;obtain rfl:=eq_of_beq hc;let⟨fs,hf,rfl⟩:=af h;exact Ft (C.blt g.bn hg (by decide +kernel) K6) (bW O hf) (aQ hs)
   ·split at h
    ·rename_i hc;rw[zF] at hc;obtain rfl:=eq_of_beq hc.1;let⟨fs,hf,rfl⟩:=af h;exact HU (C.blt g.bn hg (by decide +kernel) J9) (bW O hf) (aQ hs)
    ·cases h
 ·cases h
def DN(O:bO X T)(h:Ee T o m apos e Qe=some f):DE X (.Call (.Attribute o m apos) [e] [] Qe) f:=by
 unfold Ee at h;split at h
 ·rename_i hg;simp?[zF,yN] at hg;let⟨hl,hc,hs⟩:=hg;split at h
  ·rename_i hm;obtain rfl:=eq_of_beq hm;let⟨x,hx,h⟩:=bs h;let⟨y,hy,rfl⟩:=af h;exact F3 (fE hc) (Hn hs) hl (aQ hs) (O.e _ _ hx) (O.e _ _ hy)
  ·split at h
   ·rename_i hm;obtain rfl:=eq_of_beq hm;let⟨x,hx,h⟩:=bs h;let⟨y,hy,rfl⟩:=af h;exact DF.de (D3 (fE hc) (Hn hs) hl (aQ hs) (O.e _ _ hx) (O.e _ _ hy))
   ·split at h
    ·rename_i hm;rw[zF] at hm;obtain rfl:=eq_of_beq hm.1;let⟨x,hx,h⟩:=bs h;let⟨y,hy,rfl⟩:=af h;exact AU (fE hc) (Hn hs) hl (aQ hs) (O.e _ _ hx) (O.e _ _ hy)
    ·cases h
 ·cases h
def EV(O:bO X T)(h:Fb T a b=some f):DE X (.Subscript a b pos) f:=by
 unfold Fb at h;split at h
 ·let⟨x,hx,h⟩:=bs h;let⟨l,hl,h⟩:=bs h;let⟨u,hu,rfl⟩:=af h;exact Gw (O.e _ _ hx) (sP O hl) (sP O hu)
 ·split at h
  ·rename_i hc;let⟨x,hx,h⟩:=bs h;let⟨y,hy,rfl⟩:=af h;exact J2 (O.e _ _ hx) (O.e _ _ hy) (jg hc)
  ·cases h
def Kx(hg:NN op=some g)(hm:behindInMarks op b=false)(ha:DE X a x)(hb:DE X b y):DE X (.Compare a [op] [b] pos) (f2 g x y)/\DT X (.Compare a [op] [b] pos) (fB (f2 g x y)):=by
 cases op<;>cases hg
 ·exact⟨d6 DJ d7 ha hb hm,dX DJ d7 ha hb hm⟩
 ·exact⟨d6 CU d7 ha hb hm,dX CU d7 ha hb hm⟩
def AO(h:JS e=some a):∃p,e=.FormattedValue a (-1) none p:=by
 unfold JS at h;split at h
 ·split at h
  ·rename_i hc;cases h;subst hc;exact⟨_,rfl⟩
  ·cases h
 ·cases h
def Bw(O:bO X T)(h:vg T e=some f):DE X e f:=by
 unfold vg at h;split at h
 ·rename_i a ha;let⟨p,rfl⟩:=AO ha;let⟨g,hg,rfl⟩:=af h;exact K9 (O.e _ _ hg)
 ·exact O.e _ _ h
def nY(O:bO X T):∀ {es:List Expr}{fs:List FE},mY T es=some fs->Paired (λe f=>DE X e f) es fs
 | [],fs,h=>by cases h;exact .nil
 | e::es,fs,h=>by
  unfold mY at h;let⟨f,hf,h⟩:=bs h;let⟨gs,hg,rfl⟩:=af h;exact .cons (Bw O hf) (nY O hg)
def F7(O:bO X T)(h:JV T es=some f):DE X (.JoinedStr es pos) f:=by
 unfold JV at h;split at h
 ·let⟨fs,hf,rfl⟩:=af h;exact Bx (nY O hf)
 ·cases h
def ue(O:bO X T){cs:List Expr}(h:yk T a ops cs=some f):DE X (.Compare a ops cs pos) f/\DT X (.Compare a ops cs pos) (fB f):=by
 unfold yk at h;split at h
 ·split at h
  ·rename_i hm;simp?[zF,yN] at hm;let⟨⟨_,ho⟩,hm⟩:=hm;obtain rfl:=eq_of_beq ho;let⟨x,hx,h⟩:=bs h;let⟨y,hy,rfl⟩:=af h;exact⟨d6 EU Ae (O.e _ _ hx) (O.e _ _ hy) hm,dX EU Ae (O.e _ _ hx) (O.e _ _ hy) hm⟩
  split at h
  ·rename_i hm;rw[zF,yN] at hm;let⟨g,hg,h⟩:=bs h;let⟨x,hx,h⟩:=bs h;let⟨y,hy,rfl⟩:=af h;exact Kx hg hm.2 (O.e _ _ hx) (O.e _ _ hy)
  ·cases h
 ·cases h
def D5(C:Bk X N sc k)(g:Lq G X j)(O:bO X T)(h:CP G sc T e=some f):DE X e f:=by
 unfold CP at h;split at h
 ·split at h
  ·let⟨x,hx,h⟩:=bs h;let⟨y,hy,rfl⟩:=af h;exact pZ vn Cc (O.e _ _ hx) (O.e _ _ hy)
  ·cases h
 ·split at h
  ·exact EV O h
  ·split at h
   ·rename_i hc;rw[zF,yN] at hc;let⟨x,hx,h⟩:=bs h;let⟨y,hy,rfl⟩:=af h;exact FU (O.e _ _ hx) (O.e _ _ hy) (jg hc.2)
   ·cases h
 ·exact F7 O h
 ·exact BS C g O h
 ·exact DN O h
 ·exact (ue O h).1
 ·cases h
def Et(O:bO X T)(h:Cu T e=some f):DT X e f:=by
 unfold Cu at h;split at h
 ·let⟨x,hx,rfl⟩:=af h;exact (ue O hx).2
 ·cases h
def CJ(C:Bk X N sc k)(g:Lq G X j)(O:bO X T)(hM:∀f,yy G sc N T e=some f->DE X e f)(h:B3 G sc N T e=some f):DE X e f:=by
 unfold B3 at h;split at h
 ·cases h;exact D5 C g O ‹_›
 ·exact hM _ h
def Cj(O:bO X T)(hM:∀f,stepT T e=some f->DT X e f)(h:E8 T e=some f):DT X e f:=by
 unfold E8 at h;split at h
 ·cases h;exact Et O ‹_›
 ·exact hM _ h
def tT(n:Nat):∀ {lam:Option Str}{X:Cx}{N:List Str}{sc:Scope}{k:Nat},Bk X N sc k->Lq G X j->j<=k->(∀q,lam=some q->Im X q/\j+3<=k)->bO X (tr G n lam sc N):=by
 induction n with
 | zero=>intro lam X N sc k C g SH Ti;exact⟨λ_ _ _ _ _ h=>(by cases h),λ_ _ h=>(by cases h),λ_ _ h=>(by cases h),λ_ _ h=>(by cases h)⟩
 | succ n ih =>
  intro lam X N sc k C g SH Ti;have O:=ih C g SH Ti;exact⟨λelt gens scope p f h=>Gx (lam:=lam) (lmb:=tr G n none) (p:=p) C g.bn O (λscope N' fp s H C'=>ih C' ⟨g.fn,g.int,g.bn⟩ SH λq z=>by cases z) h,λe f h=>CJ C g O (λf h=>CT C g SH O h) h,
   λe f h=>C5 (lam:=lam) (blk:=tr G n none) (lmb:=tr G n none) C g.bn Ti O (λscope N' fp s H C'=>ih C' ⟨g.fn,g.int,g.bn⟩ SH λq z=>by cases z) (λscope N' qual A f c s H C' hk=>ih C' ⟨g.fn,g.int,g.bn⟩ hk λq z=>by cases z) h,
   λe f h=>Cj O (λf h=>Ei C O h) h⟩
end
def ny:Nat->Expr->List Str
 | 0,_=>[]
 | n+1,e=>match e with
  | .Name x _=>[x]
  | .UnaryOp _ a _=>ny n a
  | .BinOp a _ b _=>ny n a++ny n b
  | .BoolOp _ es _=>es.flatMap (ny n)
  | .Compare a _ cs _=>ny n a++cs.flatMap (ny n)
  | .IfExp c a b _=>ny n c++(ny n a++ny n b)
  | .Tuple es _ _=>es.flatMap (ny n)
  | .List es _=>es.flatMap (ny n)
  | .Subscript a b _=>ny n a++ny n b
  | .Slice lo hi st _=>(lo.toList++(hi.toList++st.toList)).flatMap (ny n)
  | .Call f args ZI _=>ny n f++(args.flatMap (ny n)++ZI.flatMap λk=>ny n k.value)
  | .Attribute o _ _=>ny n o
  | .ListComp elt gens _ _=>ny n elt++gens.flatMap λg=>ny n g.iter++g.ifs.flatMap (ny n)
  | .Lambda _ b _ _=>ny n b
  | _=>[]
def nH(N:List Str)(e:Expr):List Nat:=let ns:=ny 60 e;(List.range N.length).filter λj=>match N[j]? with|some x=>ns.contains x|none=>false
abbrev GS:=aq->Option Out
def turns:Nat:=1000000
def wC:Expr->Bool
 | .ListComp ..=>true
 | .SetComp ..=>true
 | .DictComp ..=>true
 | _=>false
def DH(sc:Scope)(N:List Str)(T:Tr)(x:Str)(px:Pos)(e:Expr):Option GS :=
 (N.idxOf? x).bind λi=>if my N sc i x=true then
  (if yp e=true then (match e with
   | .ListComp _ _ scope lp =>
    if (decide (sc.names.lookup x=some .local)&&(px.line == lp.line&&!(scope.names.any λ(n,k)=>n == x&&(k == .local || k == .cell))))=true then (T.f e).map λf=>aS i (nH N e) f
    else if decide (sc.names.lookup x=some .cell)=true then (T.f e).map λf=>aS i (nH N e) f
    else if (px.line == lp.line)=false then (T.f e).map λf=>aS i (nH N e) f
    else none
   | _=>(T.f e).map λf=>aS i (nH N e) f)
  else if wC e=false then (T.e e).map λf=>aH i (nH N e) f else none) else none
def Dz(N:List Str)(sc:Scope)(T:Tr)(e:Expr):Option GS:=match e with
 | .Constant (.str _) _ _=>some eM
 | .Call (.Attribute (.Name x _) m apos) args [] Qe =>
  (N.idxOf? x).bind λi=>if (u0 N sc i x&&apos.endLine == Qe.line&&args.all λe=>!isStar e)=true then
   (if m="append" then (match args with
    | [a]=>(T.e a).map λf=>i4 i (nH N a) f
    | _=>none)
   else if m="extend" then (match args with
    | [a]=>(T.f a).map λf=>AB i (nH N a) f
    | _=>none)
   else if m="insert" then (match args with
    | [a,b]=>(T.e a).bind λfk=>(T.e b).map λf=>LW i (nH N b) fk f
    | _=>none)
   else none) else none
 | .Call (.Name _ _) _ _ _=>(T.e e).map nj
 | _=>none
def Nr(sc:Scope)(N:List Str)(tg:Expr):Option (aq->D->Option aq):=match tg with
 | .Name x _=>(N.idxOf? x).bind λi=>if my N sc i x=true then some (gn i) else none
 | .Tuple [.Name x _,.Name y _] _ _=>(N.idxOf? x).bind λi=>(N.idxOf? y).bind λj=>if (my N sc i x&&my N sc j y)=true then some (iQ i j) else none
 | .Tuple [.Name x _,.Name y _,.Name z _] _ _=>(N.idxOf? x).bind λi=>(N.idxOf? y).bind λj=>(N.idxOf? z).bind λk=>if ((my N sc i x&&my N sc j y)&&my N sc k z)=true then some (KI i j k) else none
 | _=>none
def Dd(sc:Scope)(N:List Str)(T:Tr)(x:Str)(kx e:Expr):Option GS :=
 (N.idxOf? x).bind λi=>if (u0 N sc i x&&!qk kx)=true then (T.e kx).bind λfk=>(T.e e).map λf=>oX i (nH N e) fk f else none
def Kr:Expr->Bool
 | .Dict [] [] _=>true
 | _=>false
def wt(sc:Scope)(N:List Str)(x:Str):Option GS:=(N.idxOf? x).bind λi=>if my N sc i x=true then some (qa i) else none
def vp(sc:Scope)(N:List Str)(T:Tr)(x:Str)(kx e:Expr):Option GS :=
 (N.idxOf? x).bind λi=>if (u0 N sc i x&&!qk kx)=true then (T.e kx).bind λfk=>(T.e e).map λf=>uC i fk f else none
def lH(f:Stmt->Option GS):List Stmt->Option GS
 | []=>some eM
 | [s]=>f s
 | s::r=>(f s).bind λg=>(lH f r).map λh=>av g h
def oS(sc:Scope)(N:List Str)(T:Tr):Nat->Stmt->Option GS
 | 0,_=>none
 | n+1,st=>match st with
  | .Return (some e) _=>(T.e e).map aO
  | .If c a b _=>(T.t c).bind λt=>(lH (oS sc N T n) a).bind λg=>(lH (oS sc N T n) b).map λh=>fu t g h
  | .Assign [.Name x px] e _=>if Kr e=true then wt sc N x else DH sc N T x px e
  | .Assign [.Subscript (.Name x _) kx _] e _=>if x="known" then vp sc N T x kx e else Dd sc N T x kx e
  | .For tg iter body [] _=>(Mr sc T tg iter).bind λfi=>(Nr sc N tg).bind λt=>(lH (oS sc N T n) body).map λg=>dh (nH N iter) fi t g
  | .While c body [] _=>(T.t c).bind λt=>(lH (oS sc N T n) body).map λg=>LM t g turns
  | .Expr e _=>Dz N sc T e
  | .Raise ..=>some BJ
  | .Pass _=>some eM
  | _=>none
section
variable {X:Cx}{N:List Str}{sc:Scope}{k:Nat}{T:Tr}{Qa Qc:Hp}{pos:Pos}
def ee(H:∀s g,f s=some g->DS X Qa Qc s g):∀ {l:List Stmt}{g:GS},lH f l=some g->u5 X Qa Qc l g
 | [],g,h=>by cases h;exact F8
 | [s],g,h=>GA (H _ _ h)
 | s::t::r,g,h=>by
  unfold lH at h;let⟨x,hx,h⟩:=bs h;let⟨y,hy,rfl⟩:=af h;exact uF (H _ _ hx) (ee H hy)
def lU(h:wC e=false):swapsWith e (some (.Name x px)) line env=pure false:=by
 cases e<;>first|rfl|cases h
def Dp(C:Bk X N sc k)(O:bO X T)(h:DH sc N T x px e=some g):DS X Qa Qc (.Assign [.Name x px] e pos) g:=by
 unfold DH at h;let⟨i,hi,h⟩:=bs h;split at h
 ·rename_i RB;let⟨z1,z2,z3,z4⟩:=C.loc RB;split at h
  ·split at h
   ·rename_i elt gens scope lp hl;split at h
    ·rename_i hc;rw[zF] at hc;let⟨f,hf,rfl⟩:=af h;let⟨tg,iter,ifs,rfl,q⟩:=O.c _ _ _ _ _ hf;let⟨N',t,cs,fi,tgt,tt,te,rfl,S,hd,QO,hY⟩:=q.ex;exact Fq i _ C.calm S hd hY z1 z2 (C.Vc hc.1) (C.swap hc.1 hc.2) QO
    ·split at h
     ·rename_i hc;let⟨f,hf,rfl⟩:=af h;exact sH i _ z1 z2 z3 (O.f _ _ hf) (C.Ui hc) z4
     ·split at h
      ·rename_i hc;let⟨f,hf,rfl⟩:=af h;refine sH i _ z1 z2 z3 (O.f _ _ hf) ?_ z4;rw[oG,hc];simp
      ·cases h
   ·rename_i hl hn;let⟨f,hf,rfl⟩:=af h;refine sH i _ z1 z2 z3 (O.f _ _ hf) (lU ?_) z4;cases e<;>first|rfl|exact absurd rfl (hn _ _ _ _)|(rename_i hl _;cases hl;done)
  ·split at h
   ·rename_i hc;let⟨f,hf,rfl⟩:=af h;exact JB i _ z1 z2 z3 (O.e _ _ hf) (lU hc) z4
   ·cases h
 ·cases h
def wc(h:(es.all λe=>!isStar e)=true)(hl:es.length < 20):((backTo Qe (starEach es env)).all (λx=>!x.1)&&(backToKw Qe (keywordEach [] env)).all (λx=>x.1.isSome)&&decide (es.length+([]:List Keyword).length+(if ([]:List Keyword).isEmpty then 0 else 1) < 30))=true:=by
 have h1:(backTo Qe (starEach es env)).all (λx=>!x.1)=true:=by
  have:=eU (pos:=Qe) (env:=env) h;rw[List.all_eq_not_any_not];simpa using this
 rw[h1];simp[backToKw,keywordEach];lia
def EM(C:Bk X N sc k)(O:bO X T)(h:Dz N sc T e=some g):DS X Qa Qc (.Expr e pos) g:=by
 unfold Dz at h;split at h
 ·cases h;exact Jm
 ·rename_i x px m apos args Qe;replace h:=bs h;let⟨i,hi,h⟩:=h;split at h
  ·rename_i hv;simp?[zF] at hv;let⟨⟨hv,Qm⟩,hs⟩:=hv;let⟨z1,z2,z3,z4⟩:=C.VJ hv;split at h
   ·rename_i hm;subst hm;split at h
    ·let⟨f,hf,rfl⟩:=af h;exact A7 i _ z1 z2 (O.e _ _ hf) z3 z4 (wc hs (by simp)) Qm (aQ (by simpa using hs))
    ·cases h
   ·split at h
    ·rename_i hm;subst hm;split at h
     ·let⟨f,hf,rfl⟩:=af h;exact AV i _ z1 z2 (O.f _ _ hf) z3 z4 (wc hs (by simp)) Qm (aQ (by simpa using hs))
     ·cases h
    ·split at h
     ·rename_i hm;subst hm;split at h
      ·let⟨fk,Vm,h⟩:=bs h;let⟨f,hf,rfl⟩:=af h;have Rt:=hs;simp?[xQ,List.all_nil,Bool.and_true,zF,yN] at Rt;exact Bi i _ z1 z2 (O.e _ _ Vm) (O.e _ _ hf) z3 z4 (wc hs (by simp)) Qm (aQ Rt.1) (aQ Rt.2)
      ·cases h
     ·cases h
  ·cases h
 ·let⟨f,hf,rfl⟩:=af h;exact Fz rfl (O.e _ _ hf)
 ·cases h
def DV(C:Bk X N sc k)(h:Nr sc N tg=some t):LP X Qa Qc tg t:=by
 unfold Nr at h;split at h
 ·let⟨i,hi,h⟩:=bs h;split at h
  ·rename_i hl;cases h;have z:=C.loc hl;exact B0 i z.1 z.2.1 z.2.2.1 z.2.2.2
  ·cases h
 ·let⟨i,hi,h⟩:=bs h;let⟨j,hj,h⟩:=bs h;split at h
  ·rename_i hl;rw[zF] at hl;cases h;have z:=C.loc hl.1;have w:=C.loc hl.2;exact Hf i j C.calm z.1 z.2.1 z.2.2.1 w.2.1 w.2.2.1 z.2.2.2 w.2.2.2
  ·cases h
 ·let⟨i,hi,h⟩:=bs h;let⟨j,hj,h⟩:=bs h;let⟨m,hm,h⟩:=bs h;split at h
  ·rename_i hl;rw[zF,zF] at hl;cases h;have z:=C.loc hl.1.1;have w:=C.loc hl.1.2;have y:=C.loc hl.2;exact AS i j m C.calm z.1 z.2.1 z.2.2.1 w.2.1 w.2.2.1 y.2.1 y.2.2.1 z.2.2.2 w.2.2.2 y.2.2.2
  ·cases h
 ·cases h
def BV(C:Bk X N sc k)(O:bO X T)(h:Dd sc N T x kx e=some g):DS X Qa Qc (.Assign [.Subscript (.Name x px) kx Qx] e pos) g:=by
 unfold Dd at h;let⟨i,hi,h⟩:=bs h;split at h
 ·rename_i hv;simp?[zF,yN] at hv;let⟨hv,hc⟩:=hv;let⟨z1,z2,z3,z4⟩:=C.VJ hv;let⟨fk,Vm,h⟩:=bs h;let⟨f,hf,rfl⟩:=af h;refine E7 i _ z1 z2 (O.e _ _ Vm) (O.e _ _ hf) z3 z4 (λv=>?_) ?_ ?_ rfl
  ·cases kx<;>first|rfl|cases hc
  ·cases e<;>rfl
  ·rfl
 ·cases h
def AA(C:Bk X N sc k)(hd:Kr e=true)(h:wt sc N x=some g):DS X Qa Qc (.Assign [.Name x px] e pos) g:=by
 unfold wt at h;let⟨i,hi,h⟩:=bs h;split at h
 ·rename_i RB;let⟨z1,z2,z3,z4⟩:=C.loc RB;cases h;unfold Kr at hd;split at hd
  ·exact Hg i z1 z2 z3 rfl z4
  ·cases hd
 ·cases h
def AH(C:Bk X N sc k)(O:bO X T)(h:vp sc N T x kx e=some g):DS X Qa Qc (.Assign [.Subscript (.Name x px) kx Qx] e pos) g:=by
 unfold vp at h;let⟨i,hi,h⟩:=bs h;split at h
 ·rename_i hv;simp?[zF,yN] at hv;let⟨hv,hc⟩:=hv;let⟨z1,z2,z3,z4⟩:=C.VJ hv;let⟨fk,Vm,h⟩:=bs h;let⟨f,hf,rfl⟩:=af h;refine Hi i z1 z2 (O.e _ _ Vm) (O.e _ _ hf) z3 z4 (λv=>?_) ?_ ?_ rfl
  ·cases kx<;>first|rfl|cases hc
  ·cases e<;>rfl
  ·rfl
 ·cases h
def lu(C:Bk X N sc k)(B:Bn X)(O:bO X T):∀ (n:Nat) {st:Stmt}{g:GS},oS sc N T n st=some g->DS X Qa Qc st g
 | 0,st,g,h=>by cases h
 | n+1,st,g,h=>by
  have ih:=λs g h=>lu C B O n (st:=s) (g:=g) h;unfold oS at h;split at h
  ·let⟨f,hf,rfl⟩:=af h;exact K3 (O.e _ _ hf)
  ·let⟨t,ht,h⟩:=bs h;let⟨a,ha,h⟩:=bs h;let⟨b,hb,rfl⟩:=af h;exact MM (O.t _ _ ht) (ee ih ha) (ee ih hb)
  ·split at h
   ·exact AA C ‹_› h
   ·exact Dp C O h
  ·split at h
   ·exact AH C O h
   ·exact BV C O h
  ·let⟨fi,RA,h⟩:=bs h;let⟨t,ht,h⟩:=bs h;let⟨b,hb,rfl⟩:=af h;let⟨hd,QO⟩:=v9 C B O RA;exact J7 _ C.pass C.calm hd (DV C ht) (ee ih hb) QO
  ·let⟨t,ht,h⟩:=bs h;let⟨b,hb,rfl⟩:=af h;exact Dv _ C.pass (O.t _ _ ht) (ee ih hb)
  ·exact EM C O h
  ·cases h;exact L5
  ·cases h;exact Gj
  ·cases h
end
section
variable {K:W.Frag}
def jx(P:Program)(w:World)(K:W.Frag)(mg:Str->Option Value)(base:Heap)(j:Nat)(l:List (Str×Nat×(List D->Option D))):Prop:=∀x n m,l.lookup x=some (n,m)->EY P w K mg base j x n m
def eV(mg:Str->Option Value)(l:List (Str×D)):Prop:=∀x i,l.lookup x=some i->Oz mg x i
def NY:jx P w K mg base j []:=λ_ _ _ h=>by cases h
def MR(F:EY P w K mg base j x n m)(h:jx P w K mg base j l):jx P w K mg base j ((x,n,m)::l):=λy n' m' e=>by
 rw[yA] at e;cases q:y == x with
 | true=>rw[q] at e;cases e;rw[eq_of_beq q];exact F
 | false=>rw[q] at e;exact h y n' m' e
def On:eV mg []:=λ_ _ h=>by cases h
def Kp{d:D}(F:Oz mg x d)(h:eV mg l):eV mg ((x,d)::l):=λy i' e=>by
 rw[yA] at e;cases q:y == x with
 | true=>rw[q] at e;cases e;rw[eq_of_beq q];exact F
 | false=>rw[q] at e;exact h y i' e
def Ik(F:∃t,mg x=some (.int i t))(h:eV mg l):eV mg ((x,.int i)::l):=Kp (d:=.int i) F h
def Ii{st:Stmt}(C:Bk X N (ah st) j)(B:Bn X)(hf:jx X.prog X.w X.K X.mg X.base j fs)(hi:eV X.mg is)
  (t:lH (oS (ah st) N (tr ⟨fs,is⟩ 40 none (ah st) N) 40) (bh st)=some g):u5 X Qa Qc (bh st) g :=
 ee (λs g h=>lu C B (tT (G:=⟨fs,is⟩) 40 C ⟨hf,hi,B⟩ (yK j) λq z=>by cases z) 40 h) t
def PN{st:Stmt}(D:AC K mg x st ps)(S:cD N ps (ah st))(B:∀x∈cK,mg x=none)(hf:jx P w K mg base j fs)(hi:eV mg is)
  (t:lH (oS (ah st) N (tr ⟨fs,is⟩ 40 none (ah st) N) 40) (bh st)=some g):EY P w K mg base (j+1) x ps.length (bo g N.length):=by
 let⟨f,fd,hm,F,hb⟩:=D.ex;exact PP F S hb hm λX hP hw hK R0 RS C _ _ HF H=>by subst hP;subst hw;subst hK;subst R0;subst RS;exact Ii C B hf hi t
end
abbrev tW(s:Stmt)(N:List Str)(S:Sg)(l:Option Str):Option GS:=lH (oS (ah s) N (tr S 40 l (ah s) N) 40) (bh s)
def ON(a:sc.kind=.function:=by rfl)(b:sc.isCoroutine=false:=by rfl)(c:sc.isGenerator=false:=by rfl)(d:N.Nodup:=by decide +kernel)(e:N.take P.length=P:=by rfl)(f:∀x∈P,sc.names.lookup x=some .local \/ sc.names.lookup x=some .cell:=by decide +kernel)(g:∀y∈sc.names,y.2≠.free:=by decide +kernel):cD N P sc:=⟨a,b,c,d,e,f,g⟩
section
variable {K:W.Frag}
end
end Rf
namespace Ex
open PySem L2 PySem.Spec PyProof.Rows
variable {rest:List Stmt}
def pG(x:cU P w H h a o):∃ob,h.get? a=some ob:=by
 cases o with
 | lst xs=>let⟨_,_,_,_,e⟩:=x;exact⟨_,e⟩
 | tup xs=>let⟨_,_,_,⟨_,e,_⟩,_⟩:=x;exact⟨_,e⟩
 | dK QF=>let⟨_,_,_,_,o,_,_,e,_⟩:=x;exact⟨_,e⟩
 | dT QF=>let⟨_,_,_,_,o,_,_,e,_⟩:=x;exact⟨_,e⟩
 | set S n=>let⟨o,_,_,_,e,_⟩:=x;exact⟨_,e⟩
 | ins C dx fs=>let⟨_,_,_,e,_⟩:=x;exact⟨_,e⟩
 | own y=>let⟨_,e⟩:=x;exact⟨_,e⟩
 | xd fs=>let⟨_,⟨_,_,_,e,_⟩,_⟩:=x;exact⟨_,e⟩
 | VA lo hi=>let⟨_,_,_,e⟩:=x;exact⟨_,e⟩
 | QK ob u=>let⟨e,_⟩:=x;exact⟨_,e⟩
 | tab q=>let⟨_,e,_⟩:=x;exact⟨_,e⟩
 | TU q=>let⟨_,_,_,_,e0,e,_⟩:=x;cases e0;exact⟨_,e⟩
 | met f y=>exact⟨_,(show h.get? a=some _ from x)⟩
 | ext φ=>let⟨_,⟨_,e⟩,_⟩:=x;exact⟨_,e⟩
structure A5(P:Program)(w:World)(l:List Env)(H:Hp)(s:Shared)(cls:Value)(ea:Addr)(H':Hp)(s':Shared):Prop where
 os:s'.os=s.os
 bare:AllBare s'.gens
 un:Un (dY l) [] H H' s.heap s'.heap
 Qh:ku P w H' s'.heap
 Vn:∃B a0,Heap.FlyingW B l ea cls a0 s'.heap/\∀b,b∉dY l->(H' b≠none\/∃o,s.heap.get? b=some o)->∃o,B.get? b=some o
def Ez(P:Program)(w:World):Fw:=λl H s E e s'=>∃ea cls H',e=.ref ea/\A5 P w l H s cls ea H' s'/\E cls none H'
section
variable {X:Cx}{pins:List (Addr×Obj)}{σ:L2.St}{H H':Hp}{s s':Shared}{cls:Value}{ea:Addr}
def FD(I:Inv X pins σ H s)(hs:X.stack=X.env::X.outer)(hf:X.env.frame=some X.env.locals)(hex:X.ex=[])(RV:s'.os=s.os)(ZJ:AllBare s'.gens)(RC:Un (dY X.stack) [] H H' s.heap s'.heap)(Qh:ku X.prog X.w H' s'.heap)
  (RG:B.StaysIn s'.heap) (W4:s'.heap.FunFrames B X.stack) (hB:∀b,b∉dY X.stack->(H' b≠none\/∃o,X.Qo.heap.get? b=some o)->∃o,B.get? b=some o) (x1:Heap.FlyingW B X.outer ea cls a0 h')
  (x2:∀b∈dY X.outer,∀o,s'.heap.get? b=some o->(∀vs,o.data≠.fields vs)->∃sl,h'.get? b=some { o with slots:=sl }) :
  A5 X.prog X.w X.outer X.Qc X.Qo cls ea H' { s' with heap:=h' }:=by
 have nx:∀b:Addr,b∉X.ex:=λb=>by rw[hex];simp
 have fs:dY X.stack=X.env.locals::dY X.outer:=by rw[hs];unfold dY;rw[jC,hf]
 have SX:∀b o,X.Qo.heap.get? b=some o->b≠X.env.locals:=λb o e=>yP (zP (zX e) I.ok.above);have out:∀b o,X.Qo.heap.get? b=some o->b∉dY X.outer->b∉dY X.stack:=λb o e hb z=>by
  rw[fs] at z;rcases List.mem_cons.mp z with z|z
  ·exact SX b o e z
  ·exact hb z
 have RT:∀b∈dY X.stack,H' b=none:=λb hb=>by
  let⟨_,o,ho,_⟩:=I.stack.mem hb;exact RC.free b o ho (I.Q1 b hb) (by simp)
 have Fi:∀b u,H' b≠none->s'.heap.get? b=some u->h'.get? b=some u:=λb u hn e=>by
  let⟨o,eo⟩:=hB b (λz=>hn (RT b z)) (.inl hn);have:=RG b o eo;rw[e] at this;cases this;exact x1.1 b u eo
 have old:∀b o o2,b∉dY X.stack->X.Qo.heap.get? b=some o->s'.heap.get? b=some o2->h'.get? b=some o2:=λb o o2 hb e e2=>by
  let⟨o3,eo⟩:=hB b hb (.inr ⟨o,e⟩);have:=RG b o3 eo;rw[e2] at this;cases this;exact x1.1 b o2 eo
 have Yg:∀b,b∈dY X.outer->b∈dY X.stack:=λb hb=>by rw[fs];exact zC _ hb
 have RD:∀b∈dY X.outer,∀o,s'.heap.get? b=some o->∃sl,h'.get? b=some { o with slots:=sl }:=λb hb o e=>by
  let⟨_,o2,e2,d2⟩:=W4.mem (Yg b hb);rw[e] at e2;cases e2;exact x2 b hb o e d2
 refine⟨RV.trans I.os,ZJ,⟨λb o e n hb _=>?_,λb o e n hb _=>?_,λb o e n _=>?_,λb o e _=>?_,λb xs e=>RC.QY b xs (I.base.QY b xs e),λb o u e=>RC.QP b o u (I.base.QP b o u e),?_⟩,λa o e=>?_,B,a0,x1,λb hb hh=>?_⟩
 ·have e1:=I.base.keep b o e n hb (nx b);have n1:=I.base.free b o e n (nx b);have RS:=out b o e hb;exact old b o o RS e (RC.keep b o e1 n1 RS (by simp))
 ·let⟨sl,e1⟩:=I.base.slot b o e n hb (nx b);have n1:=I.base.free b o e n (nx b);let⟨Si,e2⟩:=RC.slot b _ e1 n1 (Yg b hb) (by simp);let⟨W5,e3⟩:=RD b hb _ e2;exact⟨W5,e3⟩
 ·let⟨o1,e1⟩:=I.base.there b o e (nx b);exact RC.free b o1 e1 (I.base.free b o e n (nx b)) (by simp)
 ·let⟨o1,e1⟩:=I.base.there b o e (nx b);let⟨o2,e2⟩:=RC.there b o1 e1 (by simp);by_cases hb:b∈dY X.outer
  ·let⟨sl,e3⟩:=RD b hb o2 e2;exact⟨_,e3⟩
  ·exact⟨o2,old b o o2 (out b o e hb) e e2⟩
 ·exact I.base.QQ.trans (RC.QQ.trans (.kept (λb u ⟨q,z⟩ e=>Fi b u (by rw[z];simp) e) λ_ _ e _=>e))
 ·refine (Qh a o e).QG (λb u hb q=>Fi b u ?_ q) (λ_ q=>q) λ_ _ q _=>q;rcases hb with rfl|z
  ·rw[e];simp
  ·rw[z];simp
 ·refine hB b (λz=>?_) hh;rw[fs] at z;rcases List.mem_cons.mp z with z|z
  ·subst z;rcases hh with hn|⟨o,e⟩
   ·exact hn (RT _ (by rw[fs];exact zE))
   ·exact SX _ o e rfl
  ·exact hb z
end
abbrev Fn:List Value:=[.type "ValueError",.type "Exception",.type "BaseException",.type "object"]
def Hq{K:W.Frag}(X:K.In h)(q:W.excIn K C Fn "ValueError.__new__"=true) :
  ∃bm N nm qn bs hd sn sub ab col dd k0 k1 k2 k3 k5 mN,h.get? C=some (excClassObj nm qn C N bs bm hd sn sub ab col dd k0 k1 k2 k3 k5 "ValueError.__new__")/\h.Ns N mN/\mN "__init__"=none/\OwnTail h Fn bm:=by
 unfold W.excIn at q;split at q
 ·rename_i dd cd sl ho;split at q
  ·rename_i C' bm k0 k1 k2 k3 n k5 hm SS;simp?[zF,kX,yN] at q;obtain⟨⟨⟨⟨⟨rfl,rfl⟩,Vo⟩,ht⟩,Qh⟩,VS⟩:=q;cases cd with
   | mk nm bs mro ns qn hd sn sub ab col del =>
    simp only at hm Vo Qh VS;subst hm Vo;cases sl with
    | mk l =>
     simp only at SS;subst SS;exact⟨bm,ns,nm,qn,bs,hd,sn,sub,ab,col,dd,k0,k1,k2,k3,k5,_,X _ _ ho,.of_isNs (W.isNs_of_in X Qh),W.nsMap_none_of_in X Qh VS,W.tail_of_in X ht⟩
  ·cases q
 ·cases q
open PySem L2 Dl PySem.Spec PyProof.Rows
def Pk(K:W.Frag)(mg:Str->Option Value)(n:Nat)(xm:List D->Option Str):Sp:=λvs H _ E=>∃HF ds c C,aK HF H/\dv K HF/\au K HF ds vs/\ds.length=n/\xm ds=some c/\mg c=some (.ref C)/\∀H' Qd,bQ HF H Qd H'->E (.ref C) none H'
structure GY(P:Program)(w:World)(K:W.Frag)(mg:Str->Option Value)(base:Heap)(k:Nat)(x:Str)(n:Nat)(xm:List D->Option Str):Prop where
 ex:∃ (f:Addr) (fd:FuncData) (ps:List Str),mF P w K mg base (Ez P w) k f fd ps (Pk K mg n xm)/\mg x=some (.ref f)/\W.keepIn K (.ref f)=true/\Binds K fd ps []
def GY.mono{K:W.Frag}{xm:List D->Option Str}(F:GY P w K mg base k x n xm)(h:k<=j):GY P w K mg base j x n xm:=by
 let⟨f,fd,ps,a,b,c,d⟩:=F.ex;exact⟨f,fd,ps,a.mono h,b,c,d⟩
structure Xk(X:Cx)(E:XK):Prop where
 hs:X.stack=X.env::X.outer
 hf:X.env.frame=some X.env.locals
 hex:X.ex=[]
 Vp:∀e s',wpAny (model X.prog X.w) X.A (leaving X.env e) (λ_ T2=>Ez X.prog X.w X.outer X.Qc X.Qo E e T2) (λ_ _=>False) s'->X.xe e s'
def Pd(K:W.Frag)(mg:Str->Option Value)(E:XK)(xf:Dl.Env->Option Str):TE:=λσ H _=>∃HF ρ c C,aK HF H/\cy K HF ρ σ/\xf ρ=some c/\mg c=some (.ref C)/\∀H' Qd,bQ HF H Qd H'->E (.ref C) none H'
def CC(X:Cx)(E:XK)(e:Expr)(xf:Dl.Env->Option Str):Prop:=PE X e (Pd X.K X.mg E xf)
def tX(K:W.Frag)(mg:Str->Option Value)(Qa Qc:Hp)(E:XK)(xg:aq->Option Str):TS:=λ_ σ H=>∃HF ρ c C,d0 K Qa Qc HF H ρ σ/\xg ρ=some c/\mg c=some (.ref C)/\∀H' Qd,bQ Qa Qc Qd H'->E (.ref C) none H'
def DX(X:Cx)(E:XK)(Qa Qc:Hp)(st:Stmt)(xg:aq->Option Str):Prop:=PS X st (tX X.K X.mg Qa Qc E xg)
def Aj(X:Cx)(E:XK)(Qa Qc:Hp)(st:List Stmt)(xg:aq->Option Str):Prop:=ou X st (tX X.K X.mg Qa Qc E xg)
def Jk(h:PA X.Qu es t):PA X es t:=λpos pins s σ H Q I hw =>
 yY (h pos pins s σ H Q (I.Qw _) hw) (λ_ _ ⟨v,H',I',r,q⟩=>⟨v,H',I'.Ql,r,q⟩) λ_ _ z=>False.elim z
def Lk{st:Stmt}(h:PS X.Qu st t):PS X st t:=λpins s σ H D I hw =>
 yY (h pins s σ H D (I.Qw _) hw) (λ_ _ q=>q.Ql) λ_ _ z=>False.elim z
def zv(n:Nat)(xm:List D->Option Str)(fs:Dl.Env->Option (List D)):Dl.Env->Option Str:=λρ=>(fs ρ).bind λds=>if ds.length=n then xm ds else none
def FI{xm:List D->Option Str}{p pos:Pos}(F:GY X.prog X.w X.K X.mg X.base k x n xm)(hr:gF k X.A)(hx:eQ (Ez X.prog X.w) X E)(hg:Gl X x)(ha:DA X.Qu (e::es) fs)(QD:(x == ("__debug__":Str))=false:=by decide)
  (he:starEach (e::es) X.env=(false,eval e X.env)::starEach es X.env:=by rfl) (QZ:(backTo pos (starEach es X.env)).any (·.1)=false:=by rfl):CC X E (.Call (.Name x p) (e::es) [] pos) (zv n xm fs):=by
 let⟨f,fd,ps,ok,hm,hk,hb⟩:=F.ex;refine aD (yl (E:=E) ok hr hg hm hk hb .nil hx (Jk ha) QD he QZ) λσ H Q ⟨HF,ρ,c,C,sm,eo,hf,hc,q⟩=>?_;let⟨ds,So,hf⟩:=bs hf;split at hf
 ·rename_i hl;exact⟨HF,ρ,ds,sm,eo,So,λvs H1 Qf g1 r1=>⟨Qf,ds,c,C,g1.fh,eo.tb.mono g1.ff,by rw[qD];exact r1,hl,hf,hc,λH' Qd g=>q H' Qd (g1.trans g)⟩⟩
 ·cases hf
def M5(t:Dl.Env->Option Bool)(xa xb:Dl.Env->Option Str):Dl.Env->Option Str:=λρ=>(t ρ).bind λb=>if b=true then xa ρ else xb ρ
def Mc(hc:DT X.Qu c t)(ha:CC X E a xa)(hb:CC X E b xb):CC X E (.IfExp c a b pos) (M5 t xa xb) :=
 aD (ug (PT.Qu hc) ha hb) λσ H Q ⟨HF,ρ,c,C,sm,eo,hf,hc,q⟩=>by
  let⟨b,h,hf⟩:=bs hf;refine⟨HF,ρ,b,sm,eo,h,λH' Qd G=>?_⟩;cases b with
  | true=>exact mI ⟨Qd,ρ,c,C,G.fh,eo.mono G.ff,hf,hc,λH2 Qp G2=>q H2 Qp (G.trans G2)⟩
  | false=>exact oQ ⟨Qd,ρ,c,C,G.fh,eo.mono G.ff,hf,hc,λH2 Qp G2=>q H2 Qp (G.trans G2)⟩
def zy{K:W.Frag}{D:Ends}(h:tX K mg Qa Qc E (λρ=>xf (aG ρ)) D σ H):Pd K mg E xf σ H Q:=by
 let⟨HF,ρ,c,C,S,hx,hc,q⟩:=h;exact⟨H,aG ρ,c,C,.refl _,S.all,hx,hc,λH' Qd G=>q H' HF (S.step G.hh).gr⟩
def JO(h:CC X E e xf)(hs:swapsWith e none pos.line X.env=pure false:=by rfl):DX X E Qa Qc (.Expr e pos) (λρ=>xf (aG ρ)):=bM (kg h hs) λD σ H q=>zy q
def JH(h:CC X E e xf):DX X E Qa Qc (.Return (some e) pos) (λρ=>xf (aG ρ)):=bM (vh h) λD σ H q=>zy q
def nF{st:Stmt}(h:DX X E Qa Qc st xg):Aj X E Qa Qc (st::rest) xg:=λpins s σ H D I q=>by
 refine wpAny_execs_cons (bC (h pins s σ H ⟨λ_ _=>False,λ_ _=>False,λ_ _=>False,λ_ _=>False⟩ I q) λf s1 z=>?_);cases f with
 | next=>let⟨_,_,_,z⟩:=z;exact z.elim
 | brk=>let⟨_,_,_,z⟩:=z;exact z.elim
 | cont=>let⟨_,_,_,z⟩:=z;exact z.elim
 | ret u=>let⟨_,_,_,_,_,z⟩:=z;exact z.elim
def rV(g:aq->Option Out)(xg:aq->Option Str):aq->Option Str:=λρ=>(g ρ).bind λo=>match o with|.nx ρ'=>xg ρ'|.rt _=>none
def uj{st:Stmt}(h:DS X.Qu Qa Qc st g)(hr:Aj X E Qa Qc rest xg):Aj X E Qa Qc (st::rest) (rV g xg) :=
 sv (gV (Lk h) hr) λD σ H ⟨HF,ρ,c,C,S,hx,hc,q⟩=>by
  let⟨o,ho,hx⟩:=bs hx;cases o with
  | rt d=>cases hx
  | nx ρ'=>exact⟨HF,ρ,.nx ρ',S,ho,λσ' H' Qd S' _=>⟨Qd,ρ',c,C,S',hx,hc,q⟩⟩
def BL(t:Dl.Env->Option Bool)(xa xb:aq->Option Str):aq->Option Str:=λρ=>(t (aG ρ)).bind λb=>if b=true then xa ρ else xb ρ
def My(hc:DT X.Qu c t)(ha:Aj X E Qa Qc a xa)(hb:Aj X E Qa Qc b xb):DX X E Qa Qc (.If c a b pos) (BL t xa xb) :=
 bM (ER (PT.Qu hc) ha hb) λD σ H ⟨HF,ρ,c,C,S,hx,hc,q⟩=>by
  let⟨b,h,hx⟩:=bs hx;refine⟨H,aG ρ,b,.refl _,S.all,h,λH' Qd G=>?_⟩;cases b with
  | true=>exact mI ⟨HF,ρ,c,C,S.step G.hh,hx,hc,q⟩
  | false=>exact oQ ⟨HF,ρ,c,C,S.step G.hh,hx,hc,q⟩
def sC(xg:aq->Option Str)(n:Nat)(args:List D):Option Str:=xg (args.map Slot.val++List.replicate (n - args.length) .Qb)
def t9{K:W.Frag}(sm:aK HF H)(tb:dv K HF)(rr:au K HF ds vs):d0 K HF H HF H (ds.map Slot.val++List.replicate (N.length - ds.length) .Qb) (L2.start N vs):=by
 refine⟨.refl sm,λi e h=>?_,λi es h=>?_,λi j es fs a h=>?_,?_,tb,λi ks h=>absurd h qw,λi j ks ls h=>absurd h qw⟩
 ·have hi:i < ds.length:=by
   by_cases hi:i < ds.length
   ·exact hi
   ·rw[yR (by simpa using hi),yV] at h;split at h<;>cases h
  rw[yQ (by simpa using hi),zO] at h;let⟨d',Sf,h⟩:=af h;cases h;let⟨v,hv,rv⟩:=rr.getD Sf;refine⟨v,?_,rv⟩;unfold L2.start;rw[yQ (by simpa [rr.length] using hi),zO,hv];rfl
 ·exfalso;by_cases hi:i < ds.length
  ·rw[yQ (by simpa using hi),zO] at h;let⟨d',Sf,h⟩:=af h;cases h
  ·rw[yR (by simpa using hi),yV] at h;split at h<;>cases h
 ·exfalso;by_cases hi:i < ds.length
  ·rw[yQ (by simpa using hi),zO] at h;let⟨d',Sf,h⟩:=af h;cases h
  ·rw[yR (by simpa using hi),yV] at h;split at h<;>cases h
 ·unfold L2.start;rw[zN,zN,zD,zD,xJ,xJ,rr.length];exact yK _
def fnX{K:W.Frag}{st:Stmt}(F:Fg K x qual st f fd)(S:cD N ps (ah st))(hb:Binds K fd ps [])(hm:mg x=some (.ref f))
  (body:∀ (X:Cx) (E:XK),X.prog=P->X.w=w->X.K=K->X.mg=mg->X.base=base->Bk X.Qu N (ah st) k->X.calm=true->Xk X E->∀Qa Qc,Aj X E Qa Qc (bh st) xg):GY P w K mg base (k+1) x ps.length (sC xg N.length):=by
 refine⟨f,fd,ps,?_,hm,F.kp,hb⟩;let⟨oc,od,kV,doc,pm,an,QI,ct,Sn,rfl,lk,QW⟩:=F.ex;refine BY lk QW S (λvs H Q E ⟨HF,ds,c,C,h1,_,h2,h3,_⟩=>by rw[h2.length,h3]) λA outer s H vs Q E hr ⟨HF,ds,c,C,sm,tb,rr,hl,hd,hc,q⟩=>?_;refine⟨_,body (rX (Ez P w) P w K mg base N qual (ah st) f QI A outer s H E) E rfl rfl rfl rfl rfl ⟨rfl,S.nd,λy kd hy=>.inl hy,rfl,λ_ _=>rfl,hr,rfl,S.kind⟩ rfl ⟨rfl,rfl,rfl,λe s' z=>yY z (λ_ _ h=>h) λ_ _ h=>h.elim⟩ HF H,?_⟩;exact⟨HF,_,c,C,t9 sm tb rr,hd,hc,q⟩
section
variable {X:Cx}{pins:List (Addr×Obj)}{σ:L2.St}{H H':Hp}{s s':Shared}{cls:Value}{ea:Addr}
def EB(I:Inv X pins σ H s)(RC:Un (dY X.stack) [] H H' s.heap s'.heap)(Qh:ku X.prog X.w H' s'.heap)
  (RG:B.StaysIn s'.heap) (W4:s'.heap.FunFrames B X.stack) (hB:∀b,b∉dY X.stack->(H' b≠none\/∃o,s.heap.get? b=some o)->∃o,B.get? b=some o) (x1:B.StaysIn h') (x2:s'.heap.UpToSlots h') :
  Un (dY X.stack) [] H H' s.heap h'/\ku X.prog X.w H' h':=by
 have RT:∀b∈dY X.stack,H' b=none:=λb hb=>by
  let⟨_,o,ho,_⟩:=I.stack.mem hb;exact RC.free b o ho (I.Q1 b hb) (by simp)
 have Fi:∀b u,H' b≠none->s'.heap.get? b=some u->h'.get? b=some u:=λb u hn e=>by
  let⟨o,eo⟩:=hB b (λz=>hn (RT b z)) (.inl hn);have:=RG b o eo;rw[e] at this;cases this;exact x1 b u eo
 have old:∀b o o2,b∉dY X.stack->s.heap.get? b=some o->s'.heap.get? b=some o2->h'.get? b=some o2:=λb o o2 hb e e2=>by
  let⟨o3,eo⟩:=hB b hb (.inr ⟨o,e⟩);have:=RG b o3 eo;rw[e2] at this;cases this;exact x1 b o2 eo
 have RD:∀b∈dY X.stack,∀o,s'.heap.get? b=some o->∃sl,h'.get? b=some { o with slots:=sl }:=λb hb o e=>by
  let⟨_,o2,e2,d2⟩:=W4.mem hb;rw[e] at e2;cases e2;exact x2 b o e d2
 refine⟨⟨λb o e n hb _=>?_,λb o e n hb _=>?_,λb o e n _=>RC.free b o e n (by simp),λb o e _=>?_,RC.QY,RC.QP,?_⟩,λa o e=>?_⟩
 ·exact old b o o hb e (RC.keep b o e n hb (by simp))
 ·let⟨Si,e2⟩:=RC.slot b o e n hb (by simp);let⟨W5,e3⟩:=RD b hb _ e2;exact⟨W5,e3⟩
 ·let⟨o2,e2⟩:=RC.there b o e (by simp);by_cases hb:b∈dY X.stack
  ·let⟨sl,e3⟩:=RD b hb o2 e2;exact⟨_,e3⟩
  ·exact⟨o2,old b o o2 hb e e2⟩
 ·exact RC.QQ.trans (.kept (λb u ⟨q,z⟩ e=>Fi b u (by rw[z];simp) e) λ_ _ e _=>e)
 ·refine (Qh a o e).QG (λb u hb q=>Fi b u ?_ q) (λ_ q=>q) λ_ _ q _=>q;rcases hb with rfl|z
  ·rw[e];simp
  ·rw[z];simp
def A5.inv(I:Inv X pins σ H s)(F:A5 X.prog X.w X.stack H s cls ea H' s'):Inv X pins σ H' s':=I.Tq F.os F.un F.Qh F.bare (λb hb=>absurd hb (by simp))
def A5.QG(I:Inv X pins σ H s)(F:A5 X.prog X.w X.stack H s cls ea H' s')(QA:Heap.FlyingW B X.stack ea cls a0 s'.heap)(hB:∀b,b∉dY X.stack->(H' b≠none\/∃o,s.heap.get? b=some o)->∃o,B.get? b=some o)
  (x1:Heap.FlyingW B X.stack ea cls a0 h') (x2:s'.heap.UpToSlots h'):A5 X.prog X.w X.stack H s cls ea H' { s' with heap:=h' }:=by
 let⟨u,k⟩:=EB I F.un F.Qh QA.1 QA.2.2.1 hB x1.1 x2;exact⟨F.os,F.bare,u,k,B,a0,x1,hB⟩
def land{M:Model}{E:Value->Shared->Prop}{Q:Unit->Shared->Prop}(I:Inv X pins σ H s)(hs:X.stack=X.env::X.outer)(hf:X.env.frame=some X.env.locals)(F:A5 X.prog X.w X.stack H s cls ea H' s')
  (k:∀h',A5 X.prog X.w X.stack H s cls ea H' { s' with heap:=h' }->Q () { s' with heap:=h' }) :
  wpAny M X.A (noteFrame (.ref ea) X.env) (λ_ s2=>wpAny M X.A (setFlight (.ref ea) none) Q E s2) E s':=by
 let⟨B,a0,QA,hB⟩:=F.Vn;refine wpAny_looks_onW (base:=B) (a0:=a0) (cls:=cls) (by rw[I.ok.frames,hs]) hf (by rw[<- hs];exact QA) λh4 hh x2=>?_;refine wpAny_landsW (s:={ s' with heap:=h4 }) hh λh5 y1 y2=>k h5 ?_;exact F.QG I QA hB (by rw[hs];exact y1) (x2.trans y2)
def again{M:Model}{A:Around}{E:Value->Shared->Prop}{Q:Unit->Shared->Prop}(I:Inv X pins σ H s)(F:A5 X.prog X.w X.stack H s cls ea H' s')
  (k:∀h',A5 X.prog X.w X.stack H s cls ea H' { s' with heap:=h' }->Q () { s' with heap:=h' }):wpAny M A (setFlight (.ref ea) none) Q E s':=by
 let⟨B,a0,QA,hB⟩:=F.Vn;exact lands_againW QA λh5 y1 y2=>k h5 (F.QG I QA hB y1 y2)
end
abbrev gx(X:Cx)(A':Around):Cx:={ X with A:=A',calm:=false }
def sZ(I:Inv X pins σ H s)(Tv:A'.frames=X.A.frames):Inv (gx X A') pins σ H s :=
 let ok:=I.ok
 ⟨⟨ok.mod,ok.kind,ok.glob,ok.blt,ok.above,ok.inj,ok.has,ok.TY,λz=>(by cases z),Tv.trans ok.frames,ok.RT,ok.Ut,ok.bs,ok.SW,ok.Ru,ok.RJ,ok.QR,ok.To⟩,I.os,I.bare,I.base,I.loc,I.cell,I.free,I.Qr,I.pin,I.Qh,I.len⟩
def wx(ok:X.Ok)(I:Inv (gx X A') pins σ H s):Inv X pins σ H s:=⟨ok,I.os,I.bare,I.base,I.loc,I.cell,I.free,I.Qr,I.pin,I.Qh,I.len⟩
def vj{t':Nat}(I:Inv X pins σ H s)(hn:h'.Ns X.env.locals m')(hs:Heap.SameBut X.env.locals s.heap h'):Inv X pins (List.replicate X.N.length none) H { s with heap:=h',toks:=t' }:=by
 have SX:∀b o,X.Qo.heap.get? b=some o->b≠X.env.locals:=λb o e=>yP (zP (zX e) I.ok.above);have kp:∀b o,b≠X.env.locals->s.heap.get? b=some o->h'.get? b=some o:=λb o ne e=>(hs.2 b ne).trans e;have tr:∀b u,H b=some u->b≠X.env.locals:=λb u e z=>by rw[z,I.free] at e;cases e
 refine⟨I.ok,I.os,I.bare,⟨λb o e n hb hx=>kp b o (SX b o e) (I.base.keep b o e n hb hx),λb o e n hb hx=>?_,I.base.free,λb o e hx=>?_,I.base.QY,I.base.QP,?_⟩,⟨m',hn,λi x v _ h2 _=>?_⟩,λx c e=>?_,I.free,I.Qr,λp hp=>?_,λa o e=>?_,?_⟩
 ·let⟨sl,e1⟩:=I.base.slot b o e n hb hx;exact⟨sl,kp b _ (SX b o e) e1⟩
 ·let⟨o',e1⟩:=I.base.there b o e hx;exact⟨o',kp b _ (SX b o e) e1⟩
 ·exact I.base.QQ.trans (.kept (λb u ⟨q,z⟩ e=>kp b u (tr b _ z) e) λ_ _ e _=>e)
 ·rw[yV] at h2;split at h2<;>cases h2
 ·let⟨v,o,ho,hd⟩:=I.cell x c e;exact⟨v,o,kp c o (I.Tp x c e) ho,hd⟩
 ·let⟨e,n,ne,r⟩:=I.pin p hp;exact⟨kp _ _ ne e,n,ne,r⟩
 ·refine (I.Qh a o e).QG (λb u hb q=>kp b u ?_ q) (λ_ q=>q) λ_ _ q _=>q;rcases hb with rfl|z
  ·exact tr b _ e
  ·exact tr b _ z
 ·simp
def ExcAt(l:List PySem.Env)(H:Hp)(h:Heap)(ea:Addr)(cls:Value):Prop:=(∃ob vs,h.get? ea=some ob/\ob.cls=cls/\ob.data=.fields vs)/\H ea=none/\ea∉dY l
def KC{rest:List ExceptHandler}{D:Ends}(I:Inv X pins σ H s)(F:A5 X.prog X.w X.stack H s cls ea H' s')(hg:Gl X x)(hm:X.mg x=some (.ref C))(QD:(x == ("__debug__":Str))=false)
  (hx:W.exmOne X.K cls (.ref C)=some true) (hN:X.N.Nodup) (hi:X.N[i]?=some n) (hl:X.env.kindOf n=some .local) (Se:X.env.scope.names.lookup n=some .local) (QX:X.env.cells.lookup n=none)
  (k:∀s2,Inv (gx X (X.A.mark (some (.ref ea)))) pins (σ.set i (some (.ref ea))) H' s2->ExcAt X.stack H' s2.heap ea cls ->
   wpAny (model X.prog X.w) (X.A.mark (some (.ref ea))) (execs (Ul::SI) X.env) (λf s3=>∃u v σ' H3,f=.ret u/\Inv (gx X (X.A.mark (some (.ref ea)))) pins σ' H3 s3/\RelV v u/\D.rt v H3) (λ_ _=>False) s2) :
  wpAny (model X.prog X.w) X.A (handleBy (.ref ea) X.env (.ExceptHandler (some (.Name x np)) (some n) (Ul::SI) pos::rest)) (SP X pins D) X.xe s':=by
 have Tv:(X.A.mark (some (.ref ea))).frames=X.A.frames:=rfl;have I1:=F.inv I;let⟨B,a0,QA,hB⟩:=F.Vn;let⟨ob,Vq,W6⟩:=QA.there;refine wpAny_handleBy_cons (codeAny_handlers_test ?_) (by intro q;cases q);refine kq (X:=gx X (X.A.mark (some (.ref ea)))) (sZ I1 Tv) hg hm ?_ QD;have LT:W.Looks (model X.prog X.w) s'.heap (typeOf (.ref ea)) cls:=λA Q E s2 k2 q=>wpAny_typeOf_ref (k2 _ _ Vq) (by rw[W6];exact q);refine (W.exm_one I1.RF LT hx).here ?_;refine codeAny_handlers_suite_as ?_;refine again I F λh2 F2=>?_;let⟨B2,a2,Um,ZK⟩:=F2.Vn;let⟨oe,vs,T,oT,ts,he,⟨ZL,_⟩,W7,_⟩:=Um.2.2.2;refine lR (X:=X) (i:=i) (v:=.ref ea) (F2.inv I) hN hi (.inl Se) rfl (λs2 I2 W8=>?_) (.inr Se);let⟨a,W8,ha⟩:=W8;have ZM:a=X.env.locals:=by
  rcases ha with h|h
  ·exact h
  ·rw[QX] at h;cases h
 subst ZM;have QT:ea≠X.env.locals:=λz=>by
  let⟨m,⟨o,es,ep,ho,hd,_⟩,_⟩:=(F2.inv I).loc;rw[<- z] at ho;have:oe=o:=by rw[he] at ho;exact xB ho
  rw[<- this,W7] at hd;cases hd
 have TM:ea∉dY X.stack:=λz=>by
  let⟨_,o2,e2,d2⟩:=Um.2.2.1.mem z;have:oe=o2:=by rw[he] at e2;exact xB e2
  exact d2 vs (this ▸ W7)
 have S5:H' ea=none:=by
  cases q:H' ea with
  | none=>rfl
  | some u =>
   let⟨o,eo⟩:=ZK ea TM (.inl (by rw[q];simp));rw[Um.2.1] at eo;cases eo
 refine yY (k s2 (sZ I2 Tv) ⟨⟨oe,vs,(W8.2 ea QT).trans he,ZL,W7⟩,S5,TM⟩) (λf s3 hz=>?_) λ_ _ z=>z.elim;let⟨u,v,σ',H3,rfl,I3,r,d⟩:=hz;have I4:=wx I1.ok I3;let⟨m3,ZN,_⟩:=id I4.loc;exact wpAny_nameGoes hl ZN (by rw[I4.ok.kind];rfl) λh' m' Sj W9=>⟨v,_,H3,vj I4 Sj W9,r,d⟩
abbrev dO(X:Cx)(pn:List (Addr×Obj))(xe:Value->Shared->Prop):Cx:={ X with pn:=pn,xe:=xe }
def Dj(ok:X.Ok):(dO X pn xe).Ok :=
 ⟨ok.mod,ok.kind,ok.glob,ok.blt,ok.above,ok.inj,ok.has,ok.TY,ok.hd,ok.frames,ok.RT,ok.Ut,ok.bs,ok.SW,ok.Ru,ok.RJ,ok.QR,ok.To⟩
def xo(I:Inv X pins σ H s)(h:∀p∈pn++pins',p∈X.pn++pins):Inv (dO X pn xe) pins' σ H s :=
 ⟨Dj I.ok,I.os,I.bare,I.base,I.loc,I.cell,I.free,I.Qr,λp hp=>I.pin p (h p hp),I.Qh,I.len⟩
def pF(ok:X.Ok)(I:Inv (dO X pn xe) pins' σ H s)(h:∀p∈X.pn++pins,p∈pn++pins'):Inv X pins σ H s :=
 ⟨ok,I.os,I.bare,I.base,I.loc,I.cell,I.free,I.Qr,λp hp=>I.pin p (h p hp),I.Qh,I.len⟩
def xj(X:Cx)(i:Nat)(ss:List Stmt)(c:Str)(d:D):Prop:=∀ (pn pins:List (Addr×Obj)) (xe:Value->Shared->Prop) (σ:L2.St) (H:Hp) (s:Shared) (ea C:Addr),X.mg c=some (.ref C)->Inv (gx (dO X pn xe) (X.A.mark (some (.ref ea)))) pins σ H s->σ[i]?=some (some (.ref ea)) ->
 ExcAt X.stack H s.heap ea (.ref C)->wpAny (model X.prog X.w) (X.A.mark (some (.ref ea))) (execs ss X.env) (λf s3=>∃u v σ' H3,f=.ret u/\Inv (gx (dO X pn xe) (X.A.mark (some (.ref ea)))) pins σ' H3 s3/\RelV v u/\∀HF,aK HF H->∃QC,bQ HF H QC H3/\Rep X.K QC d v) (λ_ _=>False) s
def sU(gb:aq->Option Out)(xg:aq->Option Str)(fin:Str->Option D):aq->Option Out:=λρ=>match gb ρ with
 | some (.rt d)=>some (.rt d)
 | some (.nx _)=>none
 | none=>(xg ρ).bind λc=>(fin c).map Out.rt
def Lj{fin:Str->Option D}(hs:X.stack=X.env::X.outer)(hf:X.env.frame=some X.env.locals)
  (hg:Gl X x) (hm:X.mg x=some (.ref CF)) (QD:(x == ("__debug__":Str))=false) (hN:X.N.Nodup) (hi:X.N[i]?=some n) (hl:X.env.kindOf n=some .local) (Se:X.env.scope.names.lookup n=some .local) (QX:X.env.cells.lookup n=none)
  (Qh:u5 X.Qu Qa Qc body gb) (hx:∀pn xe E,eQ (Ez X.prog X.w) (dO X pn xe) E->Aj (dO X pn xe) E Qa Qc body xg)
  (Xa:∀c d,fin c=some d->(∀C,X.mg c=some (.ref C)->W.exmOne X.K (.ref C) (.ref CF)=some true)/\(∃C,X.mg c=some (.ref C))/\xj X i (Ul::SI) c d) :
  DS X Qa Qc (.Try body [.ExceptHandler (some (.Name x np)) (some n) (Ul::SI) SJ] [] [] pos) (sU gb xg fin):=by
 intro pins s σ H D I ⟨HF,ρ,o,S,Uo,q⟩;refine wpAny_Try_except ?_;unfold sU at Uo;split at Uo
 ·rename_i d VT;cases Uo;refine yY (ou.Qu Qh pins s σ H { D with nx:=λ_ _=>False,bk:=λ_ _=>False,ct:=λ_ _=>False } I ⟨HF,ρ,.rt d,S,VT,q⟩ |> λ_=>Qh pins s σ H { D with nx:=λ_ _=>False,bk:=λ_ _=>False,ct:=λ_ _=>False } (I.Qw _) ⟨HF,ρ,.rt d,S,VT,q⟩) (λf s1 z=>?_) λ_ _ z=>z.elim;cases f with
  | next=>let⟨_,_,_,z⟩:=z;exact z.elim
  | brk=>let⟨_,_,_,z⟩:=z;exact z.elim
  | cont=>let⟨_,_,_,z⟩:=z;exact z.elim
  | ret u=>exact SP.Ql (D:=D) z
 ·cases Uo
 ·let⟨c,hc,Uo⟩:=bs Uo;let⟨d,hd,rfl⟩:=af Uo;let⟨hex,⟨C,hC⟩,ZO⟩:=Xa c d hd;have ZP:=hex C hC;let E1:XK:=λcls _ H'=>cls=.ref C/\∃Qd,bQ Qa Qc Qd H';let Yh:Value->Shared->Prop:=λe s1=>∃pins' σ' Hc s0 ea H',e=.ref ea/\Inv (dO X (X.pn++pins) X.xe) pins' σ' Hc s0/\A5 X.prog X.w X.stack Hc s0 (.ref C) ea H' s1/\∃Qd,bQ Qa Qc Qd H';have hp:eQ (Ez X.prog X.w) (dO X (X.pn++pins) Yh) E1:=λpins' σ' Hc s0 e s1 Ic ZQ=>by
   let⟨ea,cls,H',rfl,F,rfl,Qd,G⟩:=ZQ;exact⟨pins',σ',Hc,s0,ea,H',rfl,⟨Dj I.ok,Ic.os,Ic.bare,Ic.base,Ic.loc,Ic.cell,Ic.free,Ic.Qr,Ic.pin,Ic.Qh,Ic.len⟩,F,Qd,G⟩
  have hI:Inv (dO X (X.pn++pins) Yh) [] σ H s:=xo I λp hp=>by rw[qD] at hp;exact hp
  refine yY (hx _ _ E1 hp [] s σ H ⟨λ_ _=>False,λ_ _=>False,λ_ _=>False,λ_ _=>False⟩ hI ⟨HF,ρ,c,C,S,hc,hC,λH' Qd G=>⟨rfl,Qd,G⟩⟩) (λf s1 z=>?_) λe s1 z=>?_
  ·exfalso;cases f with
   | next=>let⟨_,_,_,z⟩:=z;exact z
   | brk=>let⟨_,_,_,z⟩:=z;exact z
   | cont=>let⟨_,_,_,z⟩:=z;exact z
   | ret u=>let⟨_,_,_,_,_,z⟩:=z;exact z
  ·let⟨pins',σ',Hc,s0,ea,H',rfl,Ic,F,Qd,G⟩:=z;refine land (X:=dO X (X.pn++pins) X.xe) Ic hs hf F λh' F'=>?_;refine bC (KC (X:=dO X (X.pn++pins) X.xe) (D:=⟨λ_ _=>False,λv H3=>D.rt v H3,λ_ _=>False,λ_ _=>False⟩) Ic F' hg hm QD ZP hN hi hl Se QX λs2 I2 Vq=>?_) λf s3 z=>?_
   ·have hlen:i < σ'.length:=by rw[Ic.len];exact (List.getElem?_eq_some_iff.mp hi).1
    refine yY (ZO _ _ _ _ _ _ _ C hC I2 (by simp[hlen]) Vq) (λf s3 z=>?_) λ_ _ z=>z;let⟨u,v,Q8,H3,rfl,I3,r,z⟩:=z;let⟨QC,g3,rp⟩:=z Qd G.fh;exact⟨u,v,Q8,H3,rfl,I3,r,q v H3 QC (G.trans g3) rp⟩
   ·cases f with
    | next=>let⟨_,_,_,z⟩:=z;exact z.elim
    | brk=>let⟨_,_,_,z⟩:=z;exact z.elim
    | cont=>let⟨_,_,_,z⟩:=z;exact z.elim
    | ret u =>
     let⟨v,Q8,H3,I3,r,z⟩:=z;exact⟨v,Q8,H3,pF I.ok I3 λp hp=>qG _ hp,r,z⟩
open PySem PySem.W PySem.Spec PySem.Calls PyProof.Rows
section
variable {K:Frag}{x D:Addr}
def Ba(X:K.In h)(ha:findIn K (.ref D) name=some (some a))(hg:specialIn K a "__get__"=some (some g))(ht:takesIn K a=some true):Looks M h (Builtin.ObjectAttr.find self (.ref D) name) (.bind g a):=by
 refine (looks_findIn X ha).andThen ?_;refine (show Looks M h (Builtin.ObjectAttr.getOf (some a)) (some g) from looks_specialIn X hg).andThen ?_;refine (show Looks M h (Builtin.ObjectAttr.dataDescriptor? (some a) (some g)) (some (g,a)) from (looks_takesIn X ht).andThen .now).andThen ?_;exact Looks.tag .now
def Cz(X:K.In s.heap)(L0:Looks (model prog w) s.heap (typeOf (.ref x)) (.ref D))(hm:mroIn K D (.type "object")=some true)
  (h:R (.ok (.ret (.ref D))) s):codeAny (model prog w) A (.call (.builtin "getset_descriptor.__get__") ⟨[.builtin "object.__class__",.ref x,tp],[]⟩) R s:=by
 have LI:Looks (model prog w) s.heap (isInstance (.ref x) (.type "object")) true:=L0.andThen (looks_mroIn X hm);let⟨hh,g,dr,t,os⟩:=s;refine vK KF.slot_gs.plain KF.entry_gs (KF.slot_gs.check _ _ _ _ _ _ _ _ KF.type_class (KF.args_gs _ _ _) ?_);unfold Builtin.«getset_descriptor.__get__» Builtin.Getset_descriptor.descrGet;rw[dga_obj];refine zU (zV ?_);unfold Builtin.Getset_descriptor.descrGetter Builtin.Getset_descriptor.descrCheckInstance Builtin.Getset_descriptor.descrNameAndClass;simp?[KF.owner_class]
 repeat lk
 refine⟨vQ _ (by decide +kernel),jW KF.entry_class ?_⟩;unfold Builtin.«object.__class__» shownTypeOf
 repeat lk
 exact h
def Bs(X:K.In s.heap)(ho:s.heap.get? x=some ox)(QX:ox.cls=.ref D)(ZR:findIn K (.ref D) "__getattribute__"=some (some (.builtin "BaseException.__getattribute__")))(S5:findIn K (.ref D) "__getattr__"=some none)
  (ha:findIn K (.ref D) "__class__"=some (some (.builtin "object.__class__"))) (hn:specialIn K (.builtin "object.__class__") "__get__"=some (some (.builtin "getset_descriptor.__get__"))) (ZT:takesIn K (.builtin "object.__class__")=some true) (hm:mroIn K D (.type "object")=some true) (hb:subIn K (.ref D) (.type "BaseException")=some true)
  (h:Q (some (.ref D)) { s with toks:=s.toks+1 }):wpAny (model prog w) A (getAttr? (.ref x) "__class__") Q E s:=by
 let⟨hh,g,d,t,os⟩:=s;have L0:Looks (model prog w) hh (typeOf (.ref x)) (.ref D):=QX ▸ (Looks.ld ho).andThen .now;have L1:=looks_findIn (M:=model prog w) X ZR;have L2:=looks_findIn (M:=model prog w) X S5;have LF:=Ba (M:=model prog w) (self:=.ref x) X ha hn ZT;have LI:Looks (model prog w) hh (isInstance (.ref x) (.type "BaseException")) true:=L0.andThen (looks_subIn X hb);unfold getAttr? getAttrBy? getAttrBy;refine zU (wpAny_mkText (zU (kG (xV (zU (L0.at (zU (L1.at ?_))))))));have ZU:(Value.builtin "BaseException.__getattribute__" == Value.builtin "object.__getattribute__")=false:=by decide +kernel
 simp?[ZU,kK,yM,qM];unfold getAttrByItsOwn hookBefore;refine zU ?_;show wpAny _ _ (typeLookup (.ref D) "__getattr__") _ _ _;refine L2.at ?_;refine zU (kG (xV ?_));show wpAny _ _ (boundAndCalled (.builtin "BaseException.__getattribute__") (.ref x) (.str "__class__" t)) _ _ _;unfold boundAndCalled;refine zU (wpAny_of_eq (F.attr_ValueError.ga.bind (.ref x)) ?_);refine wpAny_call (vK F.attr_ValueError.ga.plain F.entry_bexc_ga ?_);have hk:builtinKind "BaseException.__getattribute__"=some .slot:=by decide +kernel
 have Uq:splitId "BaseException.__getattribute__"=some ("BaseException","__getattribute__"):=by decide +kernel
 simp?[checkBuiltinCall,hk,Uq];refine zU (LI.at ?_);simp?[xW,yM,qM];have Vr:argsOk "BaseException.__getattribute__" ⟨[.ref x]++[.str (Str.ofString "__class__") t],[]⟩:=F.args_bexc_ga _ _;have body:∀ {P:Fin->Shared->Prop}{E':Value->Shared->Prop},P (.done (.ret (.ref D))) ⟨hh,g,d,t+1,os⟩->wpAny (model prog w) A.in1 (Builtin.«object.__getattribute__» ⟨[.ref x]++[.str (Str.ofString "__class__") t],[]⟩) P E' ⟨hh,g,d,t+1,os⟩:=λ{P E'} q=>by
  unfold Builtin.«object.__getattribute__»;refine zU (zV ?_);refine zU (zV ?_);refine zU (L0.at ?_);refine zU (LF.at ?_);show wpAny _ _ (holding [.builtin "object.__class__"] (call (.builtin "getset_descriptor.__get__") [.builtin "object.__class__",.ref x,.ref D]) >>= ret) _ _ _;exact zU (xV (wpAny_call (Cz (s:=⟨hh,g,d,t+1,os⟩) X L0 hm (zV q))))
 cases Xb:Manifest.signature? "BaseException.__getattribute__" with
 | none=>exact zV (body (handed_on rfl (zV h)))
 | some sig =>
  have ZV:Bind.checkArgs "BaseException.__getattribute__" sig ⟨[.ref x]++[.str (Str.ofString "__class__") t],[]⟩=pure ():=by simpa only[argsOk,Xb] using Vr
  simp?[ZV];exact zV (body (handed_on rfl (zV h)))
structure GQ(K:Frag)(C:Addr):Prop where
 ga:findIn K (.ref C) "__getattribute__"=some (some (.builtin "BaseException.__getattribute__"))
 no:findIn K (.ref C) "__getattr__"=some none
 cl:findIn K (.ref C) "__class__"=some (some (.builtin "object.__class__"))
 hn:specialIn K (.builtin "object.__class__") "__get__"=some (some (.builtin "getset_descriptor.__get__"))
 tk:takesIn K (.builtin "object.__class__")=some true
 ob:mroIn K C (.type "object")=some true
 be:subIn K (.ref C) (.type "BaseException")=some true
 ci:(clsIn K C).isSome=true
def CL(k:GQ K D):KitX K (.ref x) (.ref D) (λh=>h.get? x=some ox/\ox.cls=.ref D) where
 ty:=λ_ _ _ p=>p.2 ▸ (Looks.ld p.1).andThen .now
 it:=λ_ _ X _=>by
  have hc:=k.ci;unfold clsIn at hc;split at hc
  ·rename_i ho;intro A' Q' E' s' kp q;unfold isType loadHead;exact zU (wpAny_loadPart (kp _ _ (X _ _ ho)) (zV q))
  ·cases hc
 ne:=λh tp dd its n sl X ZW=>by
  have hc:=k.ci;refine Bool.eq_false_iff.mpr λq=>?_;have e:D=tp:=Value.ref.inj (beq_iff_eq.mp q);subst e;unfold clsIn at hc;split at hc
  ·rename_i ho;have z:=(X _ _ ho).symm.trans ZW;cases z
  ·cases hc
 ca:=λX p q=>Bs X p.1 p.2 k.ga k.no k.cl k.hn k.tk k.ob k.be q
def wJ(k:GQ K D)(X:K.In s.heap)(ho:s.heap.get? x=some ox)(hc:ox.cls=.ref D)(e:kitOne K (.ref D) c=some b)(h:∀tk,Q (.bool b) { s with toks:=tk }) :
  wpAny (model prog w) A (call (.builtin "isinstance") [.ref x,c]) Q E s:=kia_one (CL k) X ⟨ho,hc⟩ e (λz=>nomatch z) h
end
section
variable {K:W.Frag}
end
def KH{i:Nat}{n y:Str}{ea C:Addr}{ob:Obj}{c:Value}{b:Bool}{p p1 p2 pos:Pos}(k:GQ X.K C)(Tj:(ea,ob)∈X.pn)(Q7:ob.cls=.ref C)(ZX:Gl X "isinstance")(Sk:X.mg "isinstance"=none)(hi:X.N[i]?=some n)(hl:X.env.kindOf n=some .local)(Se:X.env.scope.names.lookup n=some .local)(Ro:(n == ("__debug__":Str))=false)
  (hy:∀ {pins:List (Addr×Obj)}{σ:L2.St}{H:Hp}{s:Shared}{Q:Value->Shared->Prop},Inv X pins σ H s->Q c s->wpAny (model X.prog X.w) X.A (eval (.Name y p2) X.env) Q X.xe s) (e:W.kitOne X.K (.ref C) c=some b) :
  PE X (.Call (.Name "isinstance" p) [.Name n p1,.Name y p2] [] pos) (λσ H Q=>σ[i]?=some (some (.ref ea))/\Q (.bl b) H):=by
 intro pins s σ H Q I ⟨VU,q⟩;have ev:∀ {Q:Value->Shared->Prop},Q (.ref ea) s->wpAny (model X.prog X.w) X.A (eval (.Name n p1) X.env) Q X.xe s:=λ{Q} q=>by
  let⟨m,hn,Xz⟩:=I.loc;let⟨u,r,l⟩:=Xz i n (.ref ea) hi VU (.inl Se);have r:u=.ref ea:=r;subst r;rcases l with ⟨hk,hm⟩|⟨hk,_⟩
  ·exact wpAny_Name (wpAny_loadName_local I.ok.kind hk hn hm q) Ro
  ·have hk:X.env.kindOf n=some .cell\/X.env.kindOf n=some .free:=hk;rw[hl] at hk;rcases hk with hk|hk<;>cases hk
 have ho:=(I.pin (ea,ob) (qG _ Tj)).1;refine qU (gL I ZX Sk (u:=.builtin "isinstance") (by decide +kernel) ?_);refine PyProof.Rows.callWith_builtin1 (jF (ev (jF (hy I (jY ?_))))) rfl rfl;exact wJ k I.RF ho Q7 e λtk=>⟨.bl b,H,I.tok tk,rfl,q⟩
def cR{K:W.Frag}:∀bs:List Bool,au K H (bs.map PyData.bool) (bs.map V.bl)
 | []=>rfl
 | b::bs=>⟨_,_,rfl,rfl,cR bs⟩
def jq(bs:List Bool):SeqAt.shaped (.list (bs.map PyData.bool))=true:=by
 have h:∀bs:List Bool,PyData.canLayAll0 (bs.map PyData.bool)=true/\PyData.depthAll (bs.map PyData.bool)<=1:=λbs=>by
  induction bs with
  | nil=>exact⟨by simp[PyData.canLayAll0],by simp[PyData.depthAll]⟩
  | cons b bs ih=>exact⟨by simp[PyData.canLayAll0,PyData.canLay0,ih.1],by simp[PyData.depthAll,PyData.depth];lia⟩
 have:=h bs;unfold SeqAt.shaped;rw[zF];exact⟨by simp[PyData.canLay0,this.1],by simp[PyData.depth];lia⟩
def At(X:Cx)(E:XK)(e:Value)(s1:Shared):Prop :=
 ∃ (ea:Addr) (cls a0:Value) (H':Hp) (pins:List (Addr×Obj)) (σ:L2.St) (H:Hp) (s s':Shared) (B h1:Heap),e=.ref ea/\s1={ s' with heap:=h1 }/\Inv X pins σ H s/\s'.os=s.os/\AllBare s'.gens /\
  Un (dY X.stack) [] H H' s.heap s'.heap/\ku X.prog X.w H' s'.heap/\B.StaysIn s'.heap/\s'.heap.FunFrames B X.stack /\
  (∀b,b∉dY X.stack->(H' b≠none\/∃o,X.Qo.heap.get? b=some o)->∃o,B.get? b=some o)/\Heap.HeldW B X.stack ea cls a0 X.env.locals h1 /\
  (∀b∈dY X.outer,∀o,s'.heap.get? b=some o->(∀vs,o.data≠.fields vs)->∃sl,h1.get? b=some { o with slots:=sl })/\E cls none H'
structure BI(X:Cx)(E:XK):Prop where
 hs:X.stack=X.env::X.outer
 hf:X.env.frame=some X.env.locals
 hex:X.ex=[]
 Vp:∀e s',wpAny (model X.prog X.w) X.A (noteFrame e X.env) (λ_ s1=>At X E e s1) (λ_ _=>False) s'->X.xe e s'
section
variable {M:Model}{A:Around}{E0:Value->Shared->Prop}{s:Shared}
def vx{base:Heap}{l:List PySem.Env}{e L:Addr}{cls a0:Value}{Q:Unit->Shared->Prop}(R:Heap.HeldW base l e cls a0 L s.heap)
  (h:∀h',Heap.HeldW base l e cls a0 L h'->s.heap.UpToSlots h'->Q () { s with heap:=h' }):wpAny M A (do
   if (<- field (.ref e) 1) == .none then unsupported "frame.own-activation:exception-without-traceback"
   setFlight (.ref e) (some L)) Q E0 s:=by
 let⟨ZY,ZZ,hl,oe,vs,T,oT,ts,he,Q7,hd,h1,Yi,Yj,hT,VV,h3⟩:=R;have Vs:3 < ts.size:=(Array.getElem?_eq_some_iff.mp h3).1;have other:∀b,b≠T->(s.heap.update T (Obj.mapFields (·.setIfInBounds 3 ((some L).elim Value.none λf=>rawInt f)))).get? b=s.heap.get? b :=
  λb hb=>xK _ _ (jJ hb)
 have RE:∀b o,s.heap.get? b=some o->(∀vs,o.data≠.fields vs)->b≠T:=λb o hb TM q=>by
  rw[q,hT] at hb;injection hb with hb;subst hb;exact TM ts VV
 refine zU (qQ he hd h1 ?_);have n0:(Value.ref T == Value.none)=false:=rfl;rw[n0];simp?[yM,qM];unfold setFlight;refine zU (qQ he hd h1 ?_);rw[yJ (show (Value.ref T != Value.none)=true from by simp)];refine wpAny_setField hT VV Vs (h _ ⟨λb o Xc=>(other b λq=>by rw[q,Yi] at Xc;cases Xc).trans (ZY b o Xc),ZZ,
  hl.of_keeps λb o hb TM=>⟨o,(other b (RE b o hb TM)).trans hb,rfl⟩,?_⟩ λb o hb TM=>⟨o.slots,(other b (RE b o hb TM)).trans hb⟩)
 exact⟨oe,vs,T,_,_,(other e (jJ Yj)).trans he,Q7,hd,h1,Yi,Yj,Heap.get?_update_self _ hT (Obj.isFreed_of_fields (Obj.data_mapFields VV _)),Obj.data_mapFields VV _,by simp[Vs]⟩
end
section
variable {X:Cx}{pins:List (Addr×Obj)}{σ:L2.St}{H:Hp}{s s':Shared}{E:XK}
def Xk.n(hk:Xk X E):BI X E:=by
 refine⟨hk.hs,hk.hf,hk.hex,λe s' h=>hk.Vp e s' ?_⟩;unfold leaving;refine zU (yY h (λ_ s1 q=>?_) λ_ _ z=>z);let⟨ea,cls,a0,H',pins,σ,H,s,s2,B,h1,rfl,rfl,I,o1,o2,o3,o4,o5,o6,o7,o8,o9,hc⟩:=q;refine wpAny_landsW (s:={ s2 with heap:=h1 }) o8 λh3 fl up=>⟨ea,cls,H',rfl,FD (s':=s2) (h':=h3) (a0:=a0) I hk.hs hk.hf hk.hex o1 o2 o3 o4 o5 o6 o7 ?_ (λb hb o e d=>?_),hc⟩
 ·rw[hk.hs] at fl;exact⟨fl.1,fl.2.1,fl.2.2.1.2.2,fl.2.2.2⟩
 ·let⟨sl,e2⟩:=o9 b hb o e d;let⟨Si,e3⟩:=up b _ e2 d;exact⟨Si,e3⟩
def Cx.inl(X:Cx):Cx:=X.Qw (notedBy (model X.prog X.w) X.A X.env (cameBackBy (model X.prog X.w) X.A X.env X.xe))
def At.back(hk:BI X E)(h:At X E e s1):cameBackBy (model X.prog X.w) X.A X.env X.xe e s1:=by
 let⟨ea,cls,a0,H',pins,σ,H,s,s2,B,h1,rfl,rfl,I,o1,o2,o3,o4,o5,o6,o7,o8,o9,hc⟩:=h;unfold cameBackBy;rw[hk.hf];refine vx (s:={ s2 with heap:=h1 }) o8 λh3 hh up=>hk.Vp _ _ (wpAny_noteFrame_againW hk.hf hh.2.2.2 ?_);refine⟨ea,cls,a0,H',pins,σ,H,s,s2,B,h3,rfl,rfl,I,o1,o2,o3,o4,o5,o6,o7,hh,λb hb o e d=>?_,hc⟩;let⟨sl,e2⟩:=o9 b hb o e d;let⟨Si,e3⟩:=up b _ e2 d;exact⟨Si,e3⟩
def BI.inl(hk:BI X E):BI (Cx.inl X) E:=by
 refine⟨hk.hs,hk.hf,hk.hex,λe s' h=>?_⟩;show wpAny (model X.prog X.w) X.A (noteFrame e X.env) (λ_ T2=>cameBackBy (model X.prog X.w) X.A X.env X.xe e T2) _ s';refine yY h (λ_ s1 q=>?_) λ_ _ z=>z.elim;let⟨ea,cls,a0,H',pins,σ,H,s,s2,B,h1,r1,r2,I,r⟩:=q;exact At.back hk ⟨ea,cls,a0,H',pins,σ,H,s,s2,B,h1,r1,r2,I.Ql,r⟩
end
section
variable {X:Cx}{pins:List (Addr×Obj)}{σ:L2.St}{H:Hp}{s s':Shared}{E:XK}
def BI.pass(hk:BI X E):eQ (Ez X.prog X.w) X E:=by
 intro pins σ H s e s' I h;let⟨ea,cls,H',rfl,F,hc⟩:=h;let⟨B,a0,QA,hB⟩:=F.Vn;refine hk.Vp _ _ ?_;refine wpAny_looks_onW (base:=B) (a0:=a0) (cls:=cls) (by rw[I.ok.frames,hk.hs]) hk.hf (by rw[<- hk.hs];exact QA) λh' hd up=>?_;exact⟨ea,cls,a0,H',pins,σ,H,s,s',B,h',rfl,rfl,I,F.os,F.bare,F.un,F.Qh,QA.1,QA.2.2.1,λb hb hh=>hB b hb (hh.imp id λ⟨o,e⟩=>I.base.there b o e (by rw[hk.hex];simp)),by rw[hk.hs];exact hd,λb _ o e d=>up b o e d,hc⟩
def tV(hk:BI X E)(I:Inv X pins σ H s)(hm:Heap.MadeExcOf s.heap s'.heap ea cls args)(ho:s'.os=s.os)(hg:AllBare s'.gens)(hE:E cls none H):X.xe (.ref ea) s':=by
 have fs:dY X.stack=X.env.locals::dY X.outer:=by rw[hk.hs];unfold dY;rw[jC,hk.hf]
 have Xd:=I.stack;have SF:∀env∈X.stack,∀b,env.frame=some b->b∈dY X.stack:=λenv he b hb=>List.mem_filterMap.mpr ⟨env,he,hb⟩;have ff:=W.funFrames_hide Xd SF;refine hk.Vp _ _ ?_;let⟨t,he,htn,ht⟩:=hm.there;have fresh:∀b,s.heap.get? b=none->(W.hideAll s.heap (dY X.stack)).get? b=none:=λb hb=>by
  cases hq:(W.hideAll s.heap (dY X.stack)).get? b with
  | none=>rfl
  | some o'=>have:=W.of_hideAll _ hq;rw[hb] at this;cases this
 have st:(W.hideAll s.heap (dY X.stack)).StaysIn s'.heap:=λb o q=>hm.keeps b o (W.of_hideAll _ q);have Yk:s'.heap.FunFrames (W.hideAll s.heap (dY X.stack)) X.stack:=ff.of_keeps λb o q _=>⟨o,hm.keeps b o q,rfl⟩
 have main:wpAny (model X.prog X.w) X.A (noteFrame (.ref ea) X.env) (λ_ s1=>∃h1,s1={ s' with heap:=h1 }/\Heap.NotedW (W.hideAll s.heap (dY X.stack)) (X.env::X.outer) ea cls (.ref t) (rawInt X.env.locals) s'.heap h1) (λ_ _=>False) s':=by
  unfold noteFrame;simp?[hk.hf];refine zU (qQ (x:=Value.none) he rfl rfl ?_);rw[yL (by decide)];exact wpAny_entryW (a0:=.ref t) (by rw[I.ok.frames,hk.hs]) (by rw[<- hk.hs];exact Yk) hk.hf he st (fresh _ hm.new) rfl (by simp) rfl λh1 hN=>⟨h1,rfl,hN⟩
 refine yY main (λ_ s1 ⟨h1,e1,hN⟩=>?_) λ_ _ z=>z;let⟨k1,k2,k3,k4⟩:=hN;refine⟨ea,cls,.ref t,H,pins,σ,H,s,s',_,h1,rfl,e1,I,ho,hg,Un.kept hm.keeps,I.Qh.kept hm.keeps,st,Yk,λb hb hh=>?_,⟨k1,fresh _ hm.new,hk.hs ▸ k2,k3⟩,λb _ o e d=>k4 b o e d,hE⟩;have ⟨o,e⟩:∃o,s.heap.get? b=some o:=by
  rcases hh with hn|h
  ·let⟨u,hu⟩:=Option.ne_none_iff_exists'.mp hn;exact pG (I.Qh b u hu)
  ·let⟨o,e⟩:=h;exact I.base.there b o e (by rw[hk.hex];simp)
 exact⟨o,W.hideAll_get _ e hb⟩
end
section
variable {X:Cx}
def F4{pos:Pos}(hc:X.calm=true)(hi:PI X tg iter wi)(hg:PG (Cx.inl X) tg g)(hb:ou (Cx.inl X) body tb)
  (hs:∀x,foldedSetIterable iter X.env x=pure x:=by intro _;rfl):PS X (.For tg iter body [] pos) (M1 wi g tb):=by
 intro pins s σ H D I h;refine wpAny_For (bC (hi pins s σ H _ I h) λv s1 h1=>bC h1 λUH s2 h2=>?_) hs;let⟨it,fp,tn,J,H2,e,I2,T,Sh,f2,W,⟨m0,w0⟩,turn⟩:=h2;subst e;have RL:∀ {H':Hp},(∀b∈fp,H' b=none)->∀b∈fp,fP X pins H' b:=λhn b hb=>⟨hn b hb,(f2 b hb).2⟩
 refine codeAny_forLoop_any (λn s'=>∃i σ' H',Inv X pins σ' H' s'/\tn i s'.heap/\(∀b∈fp,H' b=none)/\W i n σ' H') ?_ m0 ⟨0,σ,H2,I2,Sh,λb hb=>(f2 b hb).1,w0⟩;rintro n s3 ⟨i,Q8,H3,I3,SM,UI,w3⟩;rcases turn i n Q8 H3 w3 with ⟨stop,qn⟩|⟨go,N,hN,step⟩
 ·refine bC (T.done X rfl rfl rfl hc i pins s3 Q8 H3 _ I3 (RL UI) SM stop) λr s4 ⟨hr,I4⟩=>?_;subst hr;exact vB ⟨Q8,H3,I4,qn⟩
 ·refine bC (T.item X rfl rfl rfl hc i pins s3 Q8 H3 _ I3 (RL UI) SM go) λr s4 ⟨u,hr,h4⟩=>?_;subst hr;refine bC h4 λ_ s5 ⟨x,H5,I5,r5,y5,SN,Uw⟩=>?_;have V8:=(I5.pinned (RL Uw) (T.obj _ _ SN)).Qw (notedBy (model X.prog X.w) X.A X.env (cameBackBy (model X.prog X.w) X.A X.env X.xe));refine bC (hg _ s5 Q8 H5 x u _ V8 r5 (step x H5 y5)) λ_ s6 ⟨V9,H6,I6,q6⟩=>?_;refine bC (hb _ s6 V9 H6 _ I6 q6) λf s7 q7=>?_;have q7:=SP.Ql q7;have again:∀ {Q5:L2.St}{H7:Hp},Inv X (pins++lT fp s5.heap) Q5 H7 s7->N Q5 H7->∃m,m < n/\∃i σ' H',Inv X pins σ' H' s7/\tn i s7.heap/\(∀b∈fp,H' b=none)/\W i m σ' H':=λ{Q5 H7} I7 n7=>by
   let⟨m',hm,w7⟩:=hN Q5 H7 n7;refine⟨m',hm,i+1,Q5,H7,I7.Qt,T.keep _ _ _ SN λb hb o e=>(I7.pin (b,o) (yD _ (yD _ (dA hb e)))).1,λb hb=>?_,w7⟩;let⟨o,e,d⟩:=T.obj _ _ SN b hb;exact (I7.pin (b,o) (yD _ (yD _ (dA hb e)))).2.1
  cases f with
  | next=>let⟨Q5,H7,I7,n7⟩:=q7;exact again I7 n7
  | cont=>let⟨Q5,H7,I7,n7⟩:=q7;exact again I7 n7
  | brk=>let⟨Q5,H7,I7,q7⟩:=q7;exact⟨Q5,H7,I7.Qt,q7⟩
  | ret v=>let⟨x7,Q5,H7,I7,r7,q7⟩:=q7;exact⟨x7,Q5,H7,I7.Qt,r7,q7⟩
end
open PySem L2 PySem.Spec PyProof.Rows Dl
section
variable {X:Cx}{E:XK}{Qa Qc:Hp}
def Hv(h:PI X.Qu tg l t):PI X tg l t:=λpins s σ H R I hw =>
 yY (h pins s σ H R (I.Qw _) hw) (λ_ _ q=>yY q (λ_ _ ⟨it,fp,tn,J,H',e,I',T,st,f,r⟩=>⟨it,fp,tn,J,H',e,I'.Ql,T,st,f,r⟩) λ_ _ z=>False.elim z) λ_ _ z=>False.elim z
def HW(h:PG X.Qu tg t):PG X tg t:=λpins s σ H v u Q I r hw =>
 yY (h pins s σ H v u Q (I.Qw _) r hw) (λ_ _ ⟨σ',H',I',q⟩=>⟨σ',H',I'.Ql,q⟩) λ_ _ z=>False.elim z
def EO{st:List Stmt}(h:ou X.Qu st t):ou X st t:=λpins s σ H D I hw =>
 yY (h pins s σ H D (I.Qw _) hw) (λ_ _ q=>q.Ql) λ_ _ z=>False.elim z
def KJ{st:List Stmt}(h:ou X st t)(h':ou X st t'):ou X st (λD σ H=>t D σ H\/t' D σ H):=λpins s σ H D I hw=>hw.elim (h pins s σ H D I) (h' pins s σ H D I)
def nL(tgt:aq->D->Option aq)(gb:aq->Option Out)(xb:aq->Option Str):List D->aq->Option Str
 | [],_=>none
 | d::ds,ρ=>(tgt ρ d).bind λρ1=>match xb ρ1 with
  | some c=>some c
  | none=>(gb ρ1).bind fun|.nx QU=>nL tgt gb xb ds QU|.rt _=>none
def tP(fz:List Nat)(fi:Dl.Env->Option (List D))(tgt:aq->D->Option aq)(gb:aq->Option Out)(xb:aq->Option Str):aq->Option Str:=λρ=>(fi (aY (hand fz 0 ρ))).bind λds=>nL tgt gb xb ds (hand fz 0 ρ)
def K1(fz:List Nat)(hc:X.calm=true)(hi:DI X.Qu tg iter fi)(hg:LP X.Qu Qa Qc tg tgt)(hb:u5 X.Qu Qa Qc body gb)(hx:Aj (Cx.inl X) E Qa Qc body xb)
  (hs:∀x,foldedSetIterable iter X.env x=pure x:=by intro _;rfl):DX X E Qa Qc (.For tg iter body [] pos) (tP fz fi tgt gb xb) :=
 bM (F4 hc (Hv hi) (HW (X:=Cx.inl X) hg) (KJ (EO (X:=Cx.inl X) hb) hx) hs) λD σ H ⟨HF,ρ,c,C,S,hg,hC,q⟩=>by
 let⟨ds,h,hg⟩:=bs hg;let⟨Qf,s1,S1⟩:=S.hand fz;refine⟨Qf,_,ds,S1.gr.fh,S1.QK,h,λJ H2 Qp G it=>?_⟩;refine⟨λi m σ' H'=>m+i=ds.length/\∃Qd ρ',d0 X.K Qa Qc Qd H' ρ' σ'/\aK Qp Qd/\nL tgt gb xb (ds.drop i) ρ'=some c,⟨ds.length,rfl,Qp,_,S1.grow G,.refl _,hg⟩,?_⟩;rintro i m σ' H' ⟨hm,Qd,ρ',S',s',hf⟩;by_cases hi:i < ds.length
 ·refine .inr ?_;have hd:ds.drop i=ds[i]::ds.drop (i+1):=kN hi;have he:ds[i]?=some ds[i]:=List.getElem?_eq_some_iff.mpr ⟨hi,rfl⟩;generalize ds[i]=d at hd he;rw[hd] at hf;unfold nL at hf;let⟨ρ1,h1,hf⟩:=bs hf;let⟨go,SK⟩:=it.go i d H' Qd he s' S'.gr.fh;refine⟨go,λRq H3=>∃QC Rr,d0 X.K Qa Qc QC H3 Rr Rq/\aK Qp QC/\nL tgt gb xb (ds.drop (i+1)) Rr=some c,λRq H3 ⟨QC,Rr,a1,a2,a3⟩=>⟨m - 1,by lia,by lia,QC,Rr,a1,a2,a3⟩,λx H3 y=>?_⟩;let⟨QC,G3,rx⟩:=SK x H3 y;refine⟨QC,ρ',d,ρ1,S'.grow G3,rx,h1,λRq S2=>?_⟩;split at hf
  ·rename_i c' U3;cases hf;exact .inr ⟨QC,ρ1,c,C,S2,U3,hC,q⟩
  ·let⟨o1,h2,hf⟩:=bs hf;refine .inl ⟨QC,ρ1,o1,S2,h2,?_⟩;cases o1 with
   | nx QU=>exactλXG H4 RZ S4 s4=>⟨RZ,QU,S4,(s'.trans G3.ff).trans s4,hf⟩
   | rt d=>cases hf
 ·have R6:i=ds.length:=by lia
  subst R6;rw[List.drop_length] at hf;cases hf
end
section
variable {X:Cx}{E:XK}{Qa Qc:Hp}
def By{E:XK}(I:Inv X pins σ H s)(hc:X.calm=true)(hg:Gl X x)(hm:X.mg x=some (.ref C))(q:W.excIn X.K C Fn "ValueError.__new__"=true)
  (hk:BI X E) (hE:E (.ref C) none H) (QD:(x == ("__debug__":Str))=false) :
  wpAny (model X.prog X.w) X.A (exec (.Raise (some (.Call (.Name x np) [.Constant (.str t) i p] [] Qe)) none pos) X.env) Q X.xe s:=by
 let⟨bm,N,nm,qn,bs,hd,sn,sub,ab,col,dd,k0,k1,k2,k3,k5,mN,hC,hN,VS,T⟩:=Hq I.RF q;refine wpAny_Raise_call_subT (C:=C) (nm:=nm) (q:=qn) (N:=N) (bs:=bs) (bm:=bm) (hdct:=hd) (sn:=sn) (sub:=sub) (ab:=ab) (col:=col) (dd:=dd) (k0:=k0) (k1:=k1) (k2:=k2) (k3:=k3) (k5:=k5)
  F.excBase_ValueError (mN:=mN) (T.hasType F.excBase_ValueError.hasBase) (I.ok.hd hc) rfl VS (kq I hg hm ⟨rfl,?_⟩ QD)
 refine Calls.evalArgs_plain (jF (vR (k:=i) (pos:=p) (jY ⟨rfl,?_,hC,hN,T,λh' e Z0=>?_⟩)))
 ·exact yC (show 1<=4000 by lia) (by decide)
 ·exact tV (s:={ s with toks:=s.toks+1 }) hk (I.tok _) Z0 rfl I.bare hE
def AM(hk:BI X E)(hc:X.calm=true)(hg:Gl X x)(hm:X.mg x=some (.ref C))(q:W.excIn X.K C Fn "ValueError.__new__"=true)(QD:(x == ("__debug__":Str))=false:=by decide) :
  DX X E Qa Qc (.Raise (some (.Call (.Name x np) [.Constant (.str t) i p] [] Qe)) none pos) (λ_=>some x):=λpins s σ H D I ⟨HF,ρ,c,C',S,hx,Q2,z⟩=>by
 cases hx;rw[hm] at Q2;cases Q2;exact By I hc hg hm q hk (z H HF S.gr) QD
def Fk(h:CC X E iter xf)(hs:∀x,foldedSetIterable iter X.env x=pure x:=by intro _;rfl):DX X E Qa Qc (.For tg iter body [] pos) (λρ=>xf (aG ρ)):=λpins s σ H D I q=>by
 refine wpAny_For (bC (h pins s σ H (λ_ _=>False) I (zy q)) λv s1 h1=>?_) hs;let⟨_,_,_,_,z⟩:=h1;exact z.elim
end
open PySem L2 Dl PySem.Spec PyProof.Rows Rf
abbrev XE:=Dl.Env->Option Str
abbrev XS:=aq->Option Str
abbrev XT:=List (Str×Nat×(List D->Option Str))
def HP:XE:=λ_=>none
def n9:XS:=λ_=>none
def mL(x:XE):XS:=λρ=>x (aG ρ)
def II(c:Str):XS:=λ_=>some c
def ke(xh:XS)(g:GS)(xr:XS):XS:=λρ=>match xh ρ with
 | some c=>some c
 | none=>rV g xr ρ
def nA(P:Program)(w:World)(K:W.Frag)(mg:Str->Option Value)(base:Heap)(j:Nat)(l:XT):Prop:=∀x n m,l.lookup x=some (n,m)->GY P w K mg base j x n m
def NV(fx:XT)(sc:Scope)(T:Tr)(x:Str)(a:Expr)(as:List Expr):Option XE:=match fx.lookup x with
 | some (m,xm)=>if (sR sc x&&((a::as).all λe=>!isStar e)&&!(x == ("__debug__":Str)))=true then (oN T (a::as)).map λfs=>zv m xm fs else none
 | none=>none
def Gh(fx:XT)(sc:Scope)(N:List Str)(T:Tr):Nat->Expr->Option XE
 | 0,_=>none
 | n+1,e=>match e with
  | .Call (.Name x _) (a::as) [] _=>NV fx sc T x a as
  | .IfExp c a b _=>(T.t c).bind λt=>match Gh fx sc N T n a,Gh fx sc N T n b with
   | none,none=>none
   | xa,xb=>some (M5 t (xa.getD HP) (xb.getD HP))
  | _=>none
def nB(f:Stmt->Option XS)(tS:Stmt->Option GS):List Stmt->Option XS
 | []=>none
 | s::r=>match f s,nB f tS r with
  | none,none=>none
  | some xh,none=>some xh
  | none,some xr=>(tS s).map λg=>rV g xr
  | some xh,some xr=>match tS s with
   | some g=>some (ke xh g xr)
   | none=>some xh
def Ff(cl:List Str)(fx:XT)(sc:Scope)(N:List Str)(T:Tr)(tS:Stmt->Option GS)(fl:Stmt->Option XS):Nat->Stmt->Option XS
 | 0,_=>none
 | n+1,st=>match st with
  | .Return (some e) _=>(Gh fx sc N T 4 e).map mL
  | .Expr e _=>if m5 e=true then (Gh fx sc N T 4 e).map mL else none
  | .Assign [.Name x _] e _=>(N.idxOf? x).bind λi=>if (my N sc i x&&!wC e)=true then (Gh fx sc N T 4 e).map mL else none
  | .If c a b _=>(T.t c).bind λt=>match nB (Ff cl fx sc N T tS fl n) tS a,nB (Ff cl fx sc N T tS fl n) tS b with
   | none,none=>none
   | xa,xb=>some (BL t (xa.getD n9) (xb.getD n9))
  | .Raise (some (.Call (.Name x _) [.Constant (.str _) _ _] [] _)) none _=>if (cl.contains x&&sR sc x&&!(x == ("__debug__":Str)))=true then some (II x) else none
  | st=>fl st
abbrev JN:Stmt->Option XS:=λ_=>none
def Jp(a b:XS):XS:=λρ=>match a ρ with
 | some c=>some c
 | none=>b ρ
def Jr:Option XS->Option XS->Option XS
 | none,b=>b
 | some a,none=>some a
 | some a,some b=>some (Jp a b)
def NU(cl:List Str)(fx:XT)(sc:Scope)(N:List Str)(T:Tr)(tS:Stmt->Option GS):Stmt->Option XS
 | .For tg iter body [] _=>Jr (if vt iter=true then (Gh fx sc N T 4 iter).map mL else none)
   ((Mr sc T tg iter).bind λfi=>(Nr sc N tg).bind λt=>(lH tS body).bind λg=>(nB (Ff cl fx sc N T tS JN 6) tS body).map λx=>tP (nH N iter) fi t g x)
 | _=>none
section
variable {tS:Stmt->Option GS}{fl:Stmt->Option XS}
def MO:CC X E e HP:=λpins s σ H Q I ⟨HF,ρ,c,C,_,_,h,_⟩=>by cases h
def Ib{st:List Stmt}:Aj X E Qa Qc st n9:=λpins s σ H Q I ⟨HF,ρ,c,C,_,h,_⟩=>by cases h
def Jx(C:Bk X.Qu N sc k)(O:bO X.Qu T)(hx:nA X.prog X.w X.K X.mg X.base k fx)(hp:eQ (Ez X.prog X.w) X E)(h:NV fx sc T x a as=some xf):CC X E (.Call (.Name x p) (a::as) [] pos) xf:=by
 unfold NV at h;split at h
 ·rename_i m xm hl;split at h
  ·rename_i hc;simp?[zF] at hc;let⟨fs,Rz,rfl⟩:=af h;have RG:isStar a=false/\(as.all λe=>!isStar e)=true:=by
    have:=hc.1.2;rw[xQ,zF] at this;exact⟨by simpa using this.1,this.2⟩
   exact FI (hx x m xm hl) C.room hp (C.gl hc.1.1) (bW O Rz) (by simpa using hc.2) (aQ (by simpa using RG.1)) (eU RG.2)
  ·cases h
 ·cases h
def nQ(C:Bk X.Qu N sc k)(B:Bn X)(O:bO X.Qu T)(hx:nA X.prog X.w X.K X.mg X.base k fx)(hp:eQ (Ez X.prog X.w) X E):∀ (n:Nat) {e:Expr}{xf:XE},Gh fx sc N T n e=some xf->CC X E e xf
 | 0,e,xf,h=>by cases h
 | n+1,e,xf,h=>by
  have ih:∀ {e:Expr}{o:Option XE},Gh fx sc N T n e=o->CC X E e (o.getD HP):=λ{e o} h=>by
   cases o with
   | none=>exact MO
   | some x=>exact nQ C B O hx hp n h
  unfold Gh at h;split at h
  ·exact Jx C O hx hp h
  ·let⟨t,ht,h⟩:=bs h;split at h
   ·cases h
   ·cases h;exact Mc (O.t _ _ ht) (ih rfl) (ih rfl)
  ·cases h
def G0{st:Stmt}(h1:DX X E Qa Qc st xh)(h2:DS X.Qu Qa Qc st g)(h3:Aj X E Qa Qc rest xr):Aj X E Qa Qc (st::rest) (ke xh g xr):=λpins s σ H D I ⟨HF,ρ,c,C,S,hx,hc,q⟩=>by
 unfold ke at hx;split at hx
 ·rename_i c' hh;cases hx;exact nF h1 pins s σ H D I ⟨HF,ρ,c,C,S,hh,hc,q⟩
 ·exact uj h2 h3 pins s σ H D I ⟨HF,ρ,c,C,S,hx,hc,q⟩
def m7(hf:∀s x,f s=some x->DX X E Qa Qc s x)(ht:∀s g,tS s=some g->DS X.Qu Qa Qc s g):∀ {l:List Stmt}{x:XS},nB f tS l=some x->Aj X E Qa Qc l x
 | [],x,h=>by cases h
 | s::r,x,h=>by
  have ih:=λx=>m7 hf ht (l:=r) (x:=x);unfold nB at h;split at h
  ·cases h
  ·rename_i h1 h2;cases h;exact nF (hf _ _ h1)
  ·rename_i h1 h2;let⟨g,hg,rfl⟩:=af h;exact uj (ht _ _ hg) (ih _ h2)
  ·rename_i h1 h2;split at h
   ·rename_i g hg;cases h;exact G0 (hf _ _ h1) (ht _ _ hg) (ih _ h2)
   ·cases h;exact nF (hf _ _ h1)
def N2(X:Cx)(E:XK)(Qa Qc:Hp)(cl:List Str):Prop:=∀x∈cl,Gl X x->(x == ("__debug__":Str))=false->∀ (np Qe pos p:Pos) (t:Str) (i:Nat),DX X E Qa Qc (.Raise (some (.Call (.Name x np) [.Constant (.str t) i p] [] Qe)) none pos) (II x)
def u4(C:Bk X.Qu N sc k)(B:Bn X)(O:bO X.Qu T)(hx:nA X.prog X.w X.K X.mg X.base k fx)(hp:eQ (Ez X.prog X.w) X E)(hr:N2 X E Qa Qc cl)(ht:∀s g,tS s=some g->DS X.Qu Qa Qc s g)(QA:∀s x,fl s=some x->DX X E Qa Qc s x):∀ (n:Nat) {st:Stmt}{x:XS},Ff cl fx sc N T tS fl n st=some x->DX X E Qa Qc st x
 | 0,st,x,h=>by cases h
 | n+1,st,x,h=>by
  have ih:∀ {l:List Stmt}{o:Option XS},nB (Ff cl fx sc N T tS fl n) tS l=o->Aj X E Qa Qc l (o.getD n9):=λ{l o} h=>by
   cases o with
   | none=>exact Ib
   | some x=>exact m7 (λs x h=>u4 C B O hx hp hr ht QA n h) ht h
  unfold Ff at h;split at h
  ·let⟨xf,hf,rfl⟩:=af h;exact JH (nQ C B O hx hp 4 hf)
  ·split at h
   ·rename_i hc;let⟨xf,hf,rfl⟩:=af h;refine JO (nQ C B O hx hp 4 hf) ?_;rename_i e pos;cases e<;>first|rfl|cases hc
   ·cases h
  ·let⟨i,hi,h⟩:=bs h;split at h
   ·rename_i hl;simp?[zF,yN] at hl;let⟨xf,hf,rfl⟩:=af h;let⟨z1,z2,z3,z4⟩:=C.loc hl.1;exact bM (oD z1 z2 z3 (nQ C B O hx hp 4 hf) (lU hl.2) z4) λD σ H q=>zy q
   ·cases h
  ·let⟨t,Ug,h⟩:=bs h;split at h
   ·cases h
   ·cases h;exact My (O.t _ _ Ug) (ih rfl) (ih rfl)
  ·split at h
   ·rename_i hc;simp?[zF,yN] at hc;cases h;exact hr _ (List.contains_iff_mem.mp hc.1.1) (C.gl hc.1.2) hc.2 _ _ _ _ _ _
   ·cases h
  ·exact QA _ _ h
def MV{st:Stmt}(h:DX X E Qa Qc st a)(h':DX X E Qa Qc st b):DX X E Qa Qc st (Jp a b):=λpins s σ H D I ⟨HF,ρ,c,C,S,hx,hc,q⟩=>by
 unfold Jp at hx;split at hx
 ·rename_i ha;cases hx;exact h pins s σ H D I ⟨HF,ρ,c,C,S,ha,hc,q⟩
 ·exact h' pins s σ H D I ⟨HF,ρ,c,C,S,hx,hc,q⟩
def JM{st:Stmt}{a b:Option XS}{x:XS}(h:∀x,a=some x->DX X E Qa Qc st x)(h':∀x,b=some x->DX X E Qa Qc st x)(e:Jr a b=some x):DX X E Qa Qc st x:=by
 unfold Jr at e;split at e
 ·exact h' _ e
 ·cases e;exact h _ rfl
 ·cases e;exact MV (h _ rfl) (h' _ rfl)
def CQ(hk:BI X E)(Q6:X.calm=true)(hc:∀c∈cl,∃C:Addr,X.mg c=some (.ref C)/\W.excIn X.K C Fn "ValueError.__new__"=true):N2 X E Qa Qc cl:=λc QX hg hd np Qe pos p t i=>by
 let⟨Ca,h1,h2⟩:=hc c QX;exact AM hk Q6 hg h1 h2 hd
def Kq(C:Bk X.Qu N sc k)(B:Bn X)(O:bO X.Qu T)(hx:nA X.prog X.w X.K X.mg X.base k fx)(hk:BI X E)(Q6:X.calm=true)(hc:∀c∈cl,∃C:Addr,X.mg c=some (.ref C)/\W.excIn X.K C Fn "ValueError.__new__"=true)
  (ht:∀s g,tS s=some g->DS X.Qu Qa Qc s g) {st:Stmt}{x:XS}(h:NU cl fx sc N T tS st=some x):DX X E Qa Qc st x:=by
 unfold NU at h;split at h
 ·refine JM (λx h=>?_) (λx h=>?_) h
  ·split at h
   ·rename_i hn;let⟨xf,hf,rfl⟩:=af h;exact Fk (nQ C B O hx hk.pass 4 hf) (w8 hn)
   ·cases h
  ·let⟨fi,hi,h⟩:=bs h;let⟨t,W3,h⟩:=bs h;let⟨g,hg,h⟩:=bs h;let⟨xb,hb,rfl⟩:=af h;let⟨hd,QO⟩:=v9 C B O hi;refine K1 _ Q6 hd (DV C W3) (ee ht hg) ?_ QO;exact m7 (X:=Cx.inl X) (λs x h=>u4 (X:=Cx.inl X) C B O hx hk.inl.pass (CQ hk.inl Q6 hc) ht (λ_ _ z=>by cases z) 6 h) ht hb
 ·cases h
end
abbrev O5(st:Stmt)(N:List Str)(S:Sg)(fx:XT)(cl:List Str):Option XS:=nB (Ff cl fx (ah st) N (tr S 40 none (ah st) N) (oS (ah st) N (tr S 40 none (ah st) N) 40) (NU cl fx (ah st) N (tr S 40 none (ah st) N) (oS (ah st) N (tr S 40 none (ah st) N) 40)) 10) (oS (ah st) N (tr S 40 none (ah st) N) 40) (bh st)
def Eu(K:W.Frag)(mg:Str->Option Value)(cl:List Str):Prop:=∀c∈cl,∃C:Addr,mg c=some (.ref C)/\W.excIn K C Fn "ValueError.__new__"=true
section
variable {K:W.Frag}
def IJ(C:Bk X.Qu N sc j)(B:Bn X)(hf:jx X.prog X.w X.K X.mg X.base j fs)(hi:eV X.mg is)(hx:nA X.prog X.w X.K X.mg X.base j fx)(hp:eQ (Ez X.prog X.w) X E)(hr:N2 X E Qa Qc cl)(QA:∀s x,fl s=some x->DX X E Qa Qc s x)
  (t:nB (Ff cl fx sc N (tr ⟨fs,is⟩ 40 none sc N) (oS sc N (tr ⟨fs,is⟩ 40 none sc N) 40) fl 10) (oS sc N (tr ⟨fs,is⟩ 40 none sc N) 40) l=some xg):Aj X E Qa Qc l xg:=by
 have O:bO X.Qu (tr ⟨fs,is⟩ 40 none sc N):=tT (G:=⟨fs,is⟩) 40 C ⟨hf,hi,B⟩ (yK j) λq z=>by cases z
 have ht:∀s g,oS sc N (tr ⟨fs,is⟩ 40 none sc N) 40 s=some g->DS X.Qu Qa Qc s g:=λs g h=>lu C B O 40 h;exact m7 (λs x h=>u4 C B O hx hp hr ht QA 10 h) ht t
def NQ{st:Stmt}(D:AC K mg x st ps)(B:∀x∈cK,mg x=none)(hf:jx P w K mg base j S.fn)(hi:eV mg S.int)(hx:nA P w K mg base j fx)(hc:Eu K mg cl)(t:O5 st N S fx cl=some xg)(F:cD N ps (ah st):=by exact Rf.ON):GY P w K mg base (j+1) x ps.length (sC xg N.length):=by
 let⟨f,fd,hm,Fu,hb⟩:=D.ex;refine fnX Fu F hb hm λX E hP hw hK R0 RS C Q6 hk HF H=>?_;subst hP;subst hw;subst hK;subst R0;subst RS;have O:bO X.Qu (tr S 40 none (ah st) N):=tT (G:=S) 40 C ⟨hf,hi,B⟩ (yK j) λq z=>by cases z
 exact IJ C B hf hi hx hk.n.pass (CQ hk.n Q6 hc) (λs x h=>Kq C B O hx hk.n Q6 hc (λs g h=>lu C B O 40 h) h) t
def N9:nA P w K mg base j []:=λ_ _ _ h=>by cases h
def xm(F:GY P w K mg base i x n m)(h:nA P w K mg base j l)(e:i<=j:=by decide):nA P w K mg base j ((x,n,m)::l):=λy n' m' e'=>by
 rw[yA] at e';cases q:y == x with
 | true=>rw[q] at e';cases e';rw[eq_of_beq q];exact F.mono e
 | false=>rw[q] at e';exact h y n' m' e'
end
def Ma(K:W.Frag)(C:Addr):Bool:=W.findIn K (.ref C) "__getattribute__" == some (some (.builtin "BaseException.__getattribute__"))&&(W.findIn K (.ref C) "__getattr__" == some none)&&(W.findIn K (.ref C) "__class__" == some (some (.builtin "object.__class__")))&&(W.specialIn K (.builtin "object.__class__") "__get__" == some (some (.builtin "getset_descriptor.__get__")))&&(W.takesIn K (.builtin "object.__class__") == some true)&&(W.mroIn K C (.type "object") == some true)&&(W.subIn K (.ref C) (.type "BaseException") == some true)&&(W.clsIn K C).isSome
def M0(K:W.Frag)(F:Addr)(cs:List (Str×Addr)):Bool:=(W.nsIn K mainGlobals "FlowError" == some (some (.ref F)))&&(W.nsIn K mainGlobals "ValueError" == some none)&&cs.all λc=>(W.nsIn K mainGlobals c.1 == some (some (.ref c.2)))&&W.excIn K c.2 Fn "ValueError.__new__"&&Ma K c.2&&(W.exmOne K (.ref c.2) (.ref F) == some true)&&(W.kitOne K (.ref c.2) (.type "ValueError") == some true)&&cs.all λd=>W.kitOne K (.ref c.2) (.ref d.2) == some (c.1 == d.1)
structure rE(K:W.Frag)(mg:Str->Option Value)(F:Addr)(cs:List (Str×Addr)):Prop where
 fe:mg "FlowError"=some (.ref F)
 ve:mg "ValueError"=none
 at_:∀c∈cs,mg c.1=some (.ref c.2)
 ex:∀c∈cs,W.excIn K c.2 Fn "ValueError.__new__"=true
 ek:∀c∈cs,GQ K c.2
 xm:∀c∈cs,W.exmOne K (.ref c.2) (.ref F)=some true
 kv:∀c∈cs,W.kitOne K (.ref c.2) (.type "ValueError")=some true
 kt:∀c∈cs,∀d∈cs,W.kitOne K (.ref c.2) (.ref d.2)=some (c.1 == d.1)
def F1{K:W.Frag}{cs:List (Str×Addr)}(X:K.In h)(G:h.Ns mainGlobals mg)(e:M0 K F cs=true):rE K mg F cs:=by
 unfold M0 at e;simp?[zF,xE,kX] at e;let⟨⟨e1,e2⟩,e3⟩:=e;refine⟨W.mg_of X G e1,W.mg_none_of X G e2,λc hc=>W.mg_of X G (e3 c hc).1.1.1.1.1,λc hc=>(e3 c hc).1.1.1.1.2,λc hc=>?_,λc hc=>(e3 c hc).1.1.2,λc hc=>(e3 c hc).1.2,λc hc d hd=>(e3 c hc).2 d hd⟩;have q:=(e3 c hc).1.1.1.2;unfold Ma at q;simp?[zF,kX] at q;exact⟨q.1.1.1.1.1.1.1,q.1.1.1.1.1.1.2,q.1.1.1.1.1.2,q.1.1.1.1.2,q.1.1.1.2,q.1.1.2,q.1.2,q.2⟩
def rE.ok{K:W.Frag}{cs:List (Str×Addr)}(M:rE K mg F cs)(h:(cl.all λc=>(cs.map Prod.fst).contains c)=true):Eu K mg cl:=λc hc=>by
 have:=List.contains_iff_mem.mp (List.all_eq_true.mp h c hc);let⟨q,hq,rfl⟩:=List.mem_map.mp this;exact⟨q.2,M.at_ q hq,M.ex q hq⟩
section
variable {K:W.Frag}{cs:List (Str×Addr)}
def qg:∀ (names:List (Str×NameKind)) (n:Nat),(names.all λy=>!(y.2 == NameKind.cell))=true->cellsFrom n names []=[]
 | [],_,_=>rfl
 | (x,k)::r,n,h=>by
  rw[xQ,zF] at h;unfold cellsFrom;rw[yL (by simpa using h.1)];exact qg r n h.2
end
end Ex
namespace Hd
open PySem L2 Dl PySem.Spec PyProof.Rows
section
variable {K:W.Frag}
def Nx{st:Stmt}(hb:lO st ps)(a:W.nsIn K mainGlobals x=some (some (.ref f)))(l:K.lookup f=some (fo x st pm c))(d:W.codeIn K (.ref c) x=true)(k:W.keepIn K (.ref f)=true):fX K x st ps:=MQ hb a l d k
end
section
variable {α:Type}{R:List α->Prop}
def vY(h:∀a,R [a])(us:List α)(e:us.length=1):R us:=by
 let⟨a,rfl⟩:=List.length_eq_one_iff.mp e;exact h a
def Ly(us:List α)(e:us.length=n+1):∃a r,us=a::r/\r.length=n:=by
 cases us with
 | nil=>cases e
 | cons a r=>exact⟨a,r,rfl,by simpa using e⟩
def MZ(h:∀a b,R [a,b])(us:List α)(e:us.length=2):R us:=by
 let⟨a,r,rfl,e'⟩:=Ly us e;exact vY (R:=λr=>R (a::r)) (h a) r e'
def Ng(h:∀a b c,R [a,b,c])(us:List α)(e:us.length=3):R us:=by
 let⟨a,r,rfl,e'⟩:=Ly us e;exact MZ (R:=λr=>R (a::r)) (h a) r e'
def Ov(h:∀a b c d,R [a,b,c,d])(us:List α)(e:us.length=4):R us:=by
 let⟨a,r,rfl,e'⟩:=Ly us e;exact Ng (R:=λr=>R (a::r)) (h a) r e'
end
section
variable {K:W.Frag}
def f1(f c:Addr)(pm:Value){st:Stmt}(hb:lO st ps:=by exactλ_ _ _ _ _ _ _ _ us hl=>vY (R:=λus=>bindArgs _ ⟨us,[]⟩=pure (List.zip _ us)) (λ_=>rfl) us hl)(a:W.nsIn K mainGlobals x=some (some (.ref f)):=by kernel_rfl)(l:K.lookup f=some (fo x st pm c):=by kernel_rfl)(d:W.codeIn K (.ref c) x=true:=by kernel_rfl)(k:W.keepIn K (.ref f)=true:=by kernel_rfl):fX K x st ps:=Nx hb a l d k
def f2(f c:Addr)(pm:Value){st:Stmt}(hb:lO st ps:=by exactλ_ _ _ _ _ _ _ _ us hl=>MZ (R:=λus=>bindArgs _ ⟨us,[]⟩=pure (List.zip _ us)) (λ_ _=>rfl) us hl)(a:W.nsIn K mainGlobals x=some (some (.ref f)):=by kernel_rfl)(l:K.lookup f=some (fo x st pm c):=by kernel_rfl)(d:W.codeIn K (.ref c) x=true:=by kernel_rfl)(k:W.keepIn K (.ref f)=true:=by kernel_rfl):fX K x st ps:=Nx hb a l d k
def f3(f c:Addr)(pm:Value){st:Stmt}(hb:lO st ps:=by exactλ_ _ _ _ _ _ _ _ us hl=>Ng (R:=λus=>bindArgs _ ⟨us,[]⟩=pure (List.zip _ us)) (λ_ _ _=>rfl) us hl)(a:W.nsIn K mainGlobals x=some (some (.ref f)):=by kernel_rfl)(l:K.lookup f=some (fo x st pm c):=by kernel_rfl)(d:W.codeIn K (.ref c) x=true:=by kernel_rfl)(k:W.keepIn K (.ref f)=true:=by kernel_rfl):fX K x st ps:=Nx hb a l d k
def f4(f c:Addr)(pm:Value){st:Stmt}(hb:lO st ps:=by exactλ_ _ _ _ _ _ _ _ us hl=>Ov (R:=λus=>bindArgs _ ⟨us,[]⟩=pure (List.zip _ us)) (λ_ _ _ _=>rfl) us hl)(a:W.nsIn K mainGlobals x=some (some (.ref f)):=by kernel_rfl)(l:K.lookup f=some (fo x st pm c):=by kernel_rfl)(d:W.codeIn K (.ref c) x=true:=by kernel_rfl)(k:W.keepIn K (.ref f)=true:=by kernel_rfl):fX K x st ps:=Nx hb a l d k
end
end Hd
namespace Rg
open PySem L2 Dl Rf Ex PySem.Spec PyProof.Rows
abbrev FT:=List (Str×Nat×(List D->Option D))
def D4(st:Stmt):List Str:=((ah st).names.filter λy=>y.2 == .local || y.2 == .cell).map (·.1)
structure Ok(P:Program)(w:World)(K:W.Frag)(mg:Str->Option Value)(base:Heap)(is:List (Str×D))(cl:List Str)(j:Nat)(l:FT)(fx:XT):Prop where
 of:jx P w K mg base j l
 ox:nA P w K mg base j fx
 oi:eV mg is
 ob:∀x∈cK,mg x=none
 oc:Eu K mg cl
 os:∃h:Heap,K.In h/\h.Ns mainGlobals mg
section
variable {K:W.Frag}{st:Stmt}{l:FT}
def up(h:Ok P w K mg base is cl j l fx)(e:j<=k):Ok P w K mg base is cl k l fx:=⟨λx n m z=>(h.of x n m z).mono e,λx n m z=>(h.ox x n m z).mono e,h.oi,h.ob,h.oc,h.os⟩
def ML(h:Ok P w K mg base is cl j l fx)(F:EY P w K mg base j x n m):Ok P w K mg base is cl j ((x,n,m)::l) fx:=⟨MR F h.of,h.ox,h.oi,h.ob,h.oc,h.os⟩
def Oe(h:Ok P w K mg base is cl j l fx)(F:GY P w K mg base j x n m):Ok P w K mg base is cl j l ((x,n,m)::fx):=⟨h.of,xm F h.ox (yK j),h.oi,h.ob,h.oc,h.os⟩
def NX(h:Ok P w K mg base is cl j l fx)(D:fX K x st ps):AC K mg x st ps:=let ⟨_,a,b⟩:=h.os;D.mg a b
def fst(a:sc.kind=.function:=by kernel_rfl)(b:sc.isCoroutine=false:=by kernel_rfl)(c:sc.isGenerator=false:=by kernel_rfl)(d:N.Nodup:=by decide +kernel)(e:N.take P.length=P:=by kernel_rfl)(f:∀x∈P,sc.names.lookup x=some .local \/ sc.names.lookup x=some .cell:=by decide +kernel)(g:∀y∈sc.names,y.2≠.free:=by decide +kernel):cD N P sc:=⟨a,b,c,d,e,f,g⟩
abbrev Hx(st:Stmt)(n:Nat):List Str:=(D4 st).take n
def on(st:Stmt)(D:fX K x st (Hx st n))(h:Ok P w K mg base is cl j l fx)(t:tW st (D4 st) ⟨l,is⟩ none=some g:=by kernel_rfl)(F:cD (D4 st) (Hx st n) (ah st):=by exact fst)(e:(Hx st n).length=n:=by kernel_rfl)(e':(D4 st).length=k:=by kernel_rfl):Ok P w K mg base is cl (j+1) ((x,n,bo g k)::l) fx:=by
 have:=ML (up h (Nat.le_succ j)) (PN (NX h D) F h.ob h.of h.oi t);rw[e,e'] at this;exact this
def ox(st:Stmt)(D:fX K x st (Hx st n))(h:Ok P w K mg base is cl j l fx)(t:tW st (D4 st) ⟨l,is⟩ none=some g:=by kernel_rfl)(tx:O5 st (D4 st) ⟨l,is⟩ fx cl=some xg:=by kernel_rfl)(F:cD (D4 st) (Hx st n) (ah st):=by exact fst)(e:(Hx st n).length=n:=by kernel_rfl)(e':(D4 st).length=k:=by kernel_rfl):Ok P w K mg base is cl (j+1) ((x,n,bo g k)::l) ((x,n,sC xg k)::fx):=by
 have:=NQ (NX h D) h.ob h.of h.oi h.ox h.oc tx F;rw[e,e'] at this;exact Oe (on st D h t F e e') this
end
end Rg
namespace Ex
open PySem L2 Dl PySem.Spec PyProof.Rows Rf
section
variable {cs:List (Str×Addr)}
def mR(X:Cx)(i:Nat)(ea:Addr)(es:List Expr)(bs:List Bool):Prop:=PA X es (λσ H Q=>σ[i]?=some (some (.ref ea))/\Q (bs.map V.bl) H)
def Kt:mR X i ea [] []:=λpos pins s σ H Q I ⟨_,q⟩=>dc pos pins s σ H Q I q
def FF{bs:List Bool}(h:PE X e (λσ H Q=>σ[i]?=some (some (.ref ea))/\Q (.bl b) H))(hr:mR X i ea es bs)(hs:starEach (e::es) X.env=(false,eval e X.env)::starEach es X.env:=by rfl):mR X i ea (e::es) (b::bs) :=
 rH (bS h hr hs) λσ H Q ⟨h0,q⟩=>⟨h0,h0,q⟩
def DL(sc:Scope)(n:Str):Expr->Option Str
 | .Call (.Name f _) [.Name m _,.Name y _] [] _=>if (f == ("isinstance":Str)&&m == n&&sR sc "isinstance"&&sR sc y)=true then some y else none
 | _=>none
def uf(sc:Scope)(n:Str):List Expr->Option (List Str)
 | []=>some []
 | e::r=>(DL sc n e).bind λy=>(uf sc n r).map λys=>y::ys
def Mm:Expr->Option Bool
 | .Constant (.bool b) _ _=>some b
 | _=>none
def Me:List Expr->Option (List Bool)
 | []=>some []
 | e::r=>(Mm e).bind λb=>(Me r).map λbs=>b::bs
def Cw:∀ {es:List Expr}{bs:List Bool},Me es=some bs->PA X es (λσ H Q=>Q (bs.map V.bl) H)
 | [],bs,h=>by cases h;exact dc
 | e::r,bs,h=>by
  unfold Me at h;let⟨b,hb,h⟩:=Dl.bs h;let⟨XY,Ur,rfl⟩:=af h;unfold Mm at hb;split at hb
  ·cases hb;exact rH (bS IA (Cw Ur)) λσ H Q q=>q
  ·cases hb
def yb{i:Nat}{n y:Str}{e:Expr}{ea:Addr}{ob:Obj}{b:Bool}{v:Value}{c:Str×Addr}(M:rE X.K X.mg F cs)(hc:c∈cs)(Tj:(ea,ob)∈X.pn)(Q7:ob.cls=.ref c.2)(Se:DM X sc)(Sk:X.mg "isinstance"=none)(hN:X.N[i]?=some n)(hl:X.env.kindOf n=some .local)(hs:X.env.scope.names.lookup n=some .local)(Ro:(n == ("__debug__":Str))=false)
  (hr:DL sc n e=some y) (hy:∀ {p2:Pos}{pins:List (Addr×Obj)}{σ:L2.St}{H:Hp}{s:Shared}{Q:Value->Shared->Prop},Gl X y->Inv X pins σ H s->Q v s->wpAny (model X.prog X.w) X.A (eval (.Name y p2) X.env) Q X.xe s) (hk:W.kitOne X.K (.ref c.2) v=some b) :
  PE X e (λσ H Q=>σ[i]?=some (some (.ref ea))/\Q (.bl b) H)/\(∀env whole,isTrue e env whole=(do let v <- whole;standAt e.pos;holding [v] (truthy v)))/\∀es:List Expr,starEach (e::es) X.env=(false,eval e X.env)::starEach es X.env:=by
 unfold DL at hr;split at hr
 ·rename_i f pf m pm y' py pos;split at hr
  ·rename_i hh;cases hr;simp?[zF,kX] at hh;let⟨⟨⟨rfl,rfl⟩,hg⟩,W2⟩:=hh;have gl:∀ {x:Str},sR sc x=true->Gl X x:=λh=>by
    rcases Se _ _ (yO h) with q|⟨q,_⟩
    ·exact q
    ·cases q
   exact⟨KH (M.ek c hc) Tj Q7 (gl hg) Sk hN hl hs Ro (λ{pins σ H s Q} I q=>hy (gl W2) I q) hk,λenv whole=>rfl,λes=>rfl⟩
  ·cases hr
 ·cases hr
def uS{i:Nat}{n:Str}{ea:Addr}{ob:Obj}{c:Str×Addr}(M:rE X.K X.mg F cs)(hc:c∈cs)(Tj:(ea,ob)∈X.pn)(Q7:ob.cls=.ref c.2)(Se:DM X sc)(Sk:X.mg "isinstance"=none)(hN:X.N[i]?=some n)(hl:X.env.kindOf n=some .local)(hs:X.env.scope.names.lookup n=some .local)(Ro:(n == ("__debug__":Str))=false)(hd:(cs.all λd=>!(d.1 == ("__debug__":Str)))=true) :
  ∀ {es:List Expr}{ns:List Str},uf sc n es=some ns->(ns.all λc=>(cs.map Prod.fst).contains c)=true->mR X i ea es (ns.map λn=>c.1 == n)
 | [],ns,h,_=>by cases h;exact Kt
 | e::es,ns,h,ha=>by
  unfold uf at h;let⟨y,hy,h⟩:=bs h;let⟨ys,Z6,rfl⟩:=af h;rw[xQ,zF] at ha;let⟨d,Xe,rfl⟩:=List.mem_map.mp (List.contains_iff_mem.mp ha.1);have QD:(d.1 == ("__debug__":Str))=false:=by simpa using List.all_eq_true.mp hd d Xe
  let⟨h1,_,h3⟩:=yb (v:=.ref d.2) M hc Tj Q7 Se Sk hN hl hs Ro hy (λ{p2 pins σ H s Q} hg I q=>kq I hg (M.at_ d Xe) q QD) (M.kt c hc d Xe);exact FF h1 (uS M hc Tj Q7 Se Sk hN hl hs Ro hd Z6 ha.2) (h3 es)
def wX{i j:Nat}{n fl:Str}{c:Str×Addr}{e6:Expr}{cst es:List Expr}{ns:List Str}{pn':List (Addr×Obj)}{a1 a2 a3 c1 c5 c6 c8 c9 d1 d2:Pos}{bs:List Bool}(M:rE X.K X.mg F cs)(hc:c∈cs)(Se:∀pn xe A',DM (dO (gx (dO X pn xe) A') pn' λ_ _=>False) sc)(Sk:X.mg "isinstance"=none)(hu:X.A.units+64 < cLine)(hN:X.N.Nodup)(hi:X.N[i]?=some n)(hl:X.env.kindOf n=some .local)(hs:X.env.scope.names.lookup n=some .local)(Ro:(n == ("__debug__":Str))=false)
  (hj:X.N[j]?=some fl) (QA:X.env.scope.names.lookup fl=some .local) (Xf:(fl == ("__debug__":Str))=false) (Z7:(fl == ("__classdict__":Str))=false) (Qj:i≠j) (QD:(cs.all λd=>!(d.1 == ("__debug__":Str)))=true)
  (r1:uf sc n es=some ns) (r6:DL sc n e6=some "ValueError") (rb:Me cst=some bs) (Sj:(ns.all λc=>(cs.map Prod.fst).contains c)=true) (Ur:(ns.map λm=>c.1 == m)=bs) (hz:ns.length<=sizeLine) :
  xj X i [.Assign [.Name fl a1] (.List es a2) a3,.If (.BoolOp .And [e6,.Compare (.Name fl c1) [.Eq] [.List cst c5] c6] c8) [.Return (some (.Constant .none k d1)) d2] [] c9] c.1 .none:=by
 intro pn pins xe σ H s ea C hC I VU Vq;let⟨⟨ob,vs,ho,QX,hd⟩,hn,hf⟩:=Vq;have Z8:C=c.2:=by
  have:=M.at_ c hc;rw[hC] at this;cases this;rfl
 subst Z8;have QT:ea≠X.env.locals:=λz=>by
  let⟨m,⟨o,es,ep,QV,Sf,_⟩,_⟩:=I.loc;have QV:s.heap.get? X.env.locals=some o:=QV;rw[<- z,ho] at QV;cases QV;rw[hd] at Sf;cases Sf
 have Rz:ea∉dY X.outer:=λz=>by
  have RT:X.stack=X.outer\/(X.stack=X.env::X.outer/\X.env.frame=some X.env.locals):=I.ok.RT;rcases RT with q|⟨q,q2⟩
  ·rw[q] at hf;exact hf z
  ·rw[q] at hf;refine hf ?_;unfold dY at z ⊢;rw[jC,q2];exact zC _ z
 have I1:=I.Ri (pins':=pins++[(ea,ob)]) λp hp=>by
  rcases List.mem_append.mp hp with hp|hp
  ·exact I.pin p (yD _ hp)
  ·cases List.mem_singleton.mp hp;exact⟨ho,hn,QT,Rz,λv z=>by rw[hd] at z;cases z⟩
 let X2:Cx:=dO (gx (dO X pn xe) (X.A.mark (some (.ref ea)))) (pn++(pins++[(ea,ob)])) λ_ _=>False;have I2:Inv X2 [] σ H s:=xo I1 λp hp=>by rw[qD] at hp;exact hp
 have Tj:(ea,ob)∈X2.pn:=yD _ (yD _ (List.mem_singleton.mpr rfl));have Yl:DM X2 sc:=Se _ _ _;have f1:=uS (X:=X2) M hc Tj QX Yl Sk hi hl hs Ro QD r1 Sj;let⟨f6,w6,_⟩:=yb (X:=X2) (v:=.type "ValueError") M hc Tj QX Yl Sk hi hl hs Ro r6 (λ{p2 pins σ H s Q} hg I q=>gL I hg M.ve (by decide +kernel) q) (M.kv c hc);have p1:=oD (X:=X2) (pos':=a1) (pos:=a3) hN hj (.inl QA) (wL (pos:=a2) f1) rfl (.inr QA);have p2:=ER (X:=X2) (pos:=c9) (PW.pt (Dh (pos:=c8) (Es f6 (λwhole=>w6 _ whole)) (zm (pos:=c8) (yr (pos:=c6) (wD hu) (ja (pos:=c1) hj (.inl QA) Xf Z7) (wL (pos:=c5) (Cw rb)) (EZ _ (by decide) (by decide)))))) (gV (vh (pos:=d2) (D0 (j:=k) (pos:=d1))) mQ) mQ;have key:=gV p1 (gV p2 mQ) [] s σ H ⟨λ_ _=>False,λv H'=>v=.Qb/\aK H H',λ_ _=>False,λ_ _=>False⟩ I2 (by
  have Z9:j < σ.length:=by have:=I.len;rw[this];exact (List.getElem?_eq_some_iff.mp hj).1
  refine⟨VU,by rw[zD,zD];exact hz,λp hp=>?_⟩;have s1:(σ.set j (some (.ref p)))[j]?=some (some (.ref p)):=by simp[Z9]
  have s0:(σ.set j (some (.ref p)))[i]?=some (some (.ref ea)):=by
   rw[kH (jJ Qj)];exact VU
  refine⟨s0,true,rfl,mI ?_⟩;refine⟨.ref p,s1,by rw[<- Ur,zD,zD];exact hz,λp2 VW=>?_⟩;have hlp:bs.length<=sizeLine:=by rw[<- Ur,zD];exact hz
  have np:p2≠p:=λz=>by rw[z] at VW;rw[aF] at VW;cases VW
  have r1:eH X.K (upd (upd H p (.lst ((ns.map λm=>c.1 == m).map V.bl))) p2 (.lst (bs.map V.bl))) p (bs.map V.bl):=.inl (.inl (by rw[aE (jJ np),aF,Ur]));have r2:eH X.K (upd (upd H p (.lst ((ns.map λm=>c.1 == m).map V.bl))) p2 (.lst (bs.map V.bl))) p2 (bs.map V.bl):=.inl (.inl aF);have eqv:PyData.eqv (.list (bs.map PyData.bool)) (.list (bs.map PyData.bool))=true:=by
   have hh:∀bs:List Bool,PyData.eqvAll (bs.map PyData.bool) (bs.map PyData.bool)=true:=λbs=>by
    induction bs with
    | nil=>simp[PyData.eqvAll]
    | cons b bs ih=>simp[PyData.eqvAll,PyData.eqv,ih]
   simp[PyData.eqv,hh]
  refine⟨_,.list (bs.map PyData.bool),.list (bs.map PyData.bool),true,.refl _,⟨p,_,rfl,r1,cR _⟩,⟨p2,_,rfl,r2,cR _⟩,by unfold Fh;rw[yJ ⟨jq _,jq _⟩,eqv],true,rfl,mI ?_⟩;refine⟨rfl,λb o e=>?_⟩;have n1:b≠p:=λz=>by rw[z,hp] at e;cases e
  have e1:upd H p (.lst ((ns.map λm=>c.1 == m).map V.bl)) b=some o:=by rw[aE n1];exact e
  have n2:b≠p2:=λz=>by rw[z,VW] at e1;cases e1
  rw[aE n2];exact e1)
 refine yY key (λf s3 z=>?_) λ_ _ z=>z.elim;cases f with
 | next=>let⟨_,_,_,z⟩:=z;exact z.elim
 | brk=>let⟨_,_,_,z⟩:=z;exact z.elim
 | cont=>let⟨_,_,_,z⟩:=z;exact z.elim
 | ret u =>
  let⟨v,σ',H3,I3,r,rfl,sm⟩:=z;refine⟨u,.Qb,σ',H3,rfl,pF I.ok I3 λp hp=>?_,r,λHF s4=>⟨HF,⟨sm,.refl _,s4.trans sm,λb o e=>.inl e⟩,by simp[Rep]⟩⟩;rw[qD];rcases List.mem_append.mp hp with hp|hp
  ·exact qG _ hp
  ·exact yD _ (qG _ hp)
end
def FJ(ns:List Str)(bs:List Bool)(c:Str):Option D:=if (ns.contains c&&((ns.map λm=>c == m) == bs))=true then some .none else none
def NP:Stmt->Option (Str×List Expr)
 | .Assign [.Name fl _] (.List es _) _=>some (fl,es)
 | _=>none
def Jj(h:NP s=some q):∃a1 a2 a3,s=.Assign [.Name q.1 a1] (.List q.2 a2) a3:=by
 unfold NP at h;split at h
 ·cases h;exact⟨_,_,_,rfl⟩
 ·cases h
def NO:Expr->Option (Str×List Expr)
 | .Compare (.Name fl _) [.Eq] [.List cst _] _=>some (fl,cst)
 | _=>none
def Ke(h:NO s=some q):∃a1 a2 a3,s=.Compare (.Name q.1 a1) [.Eq] [.List q.2 a2] a3:=by
 unfold NO at h;split at h
 ·cases h;exact⟨_,_,_,rfl⟩
 ·cases h
def N4:List Stmt->Bool
 | [.Return (some (.Constant .none _ _)) _]=>true
 | _=>false
def Ji(h:N4 s=true):∃k d1 d2,s=[.Return (some (.Constant .none k d1)) d2]:=by
 unfold N4 at h;split at h
 ·exact⟨_,_,_,rfl⟩
 ·cases h
def NL:Stmt->Option (Expr×Expr)
 | .If (.BoolOp .And [a,b] _) r [] _=>if N4 r=true then some (a,b) else none
 | _=>none
def K7(h:NL s=some q):∃c8 c9 k d1 d2,s=.If (.BoolOp .And [q.1,q.2] c8) [.Return (some (.Constant .none k d1)) d2] [] c9:=by
 unfold NL at h;split at h
 ·split at h
  ·rename_i hr;cases h;let⟨k,d1,d2,rfl⟩:=Ji hr;exact⟨_,_,_,_,_,rfl⟩
  ·cases h
 ·cases h
def sM(sc:Scope)(N:List Str)(n:Str):Bool:=!(n == ("__debug__":Str))&&decide (sc.names.lookup n=some .local)&&N.contains n
def OI(st:Stmt)(N:List Str)(S:Sg)(fx:XT)(cl:List Str):List Stmt->Option GS
 | .Try body [.ExceptHandler (some (.Name e _)) (some n) [s1,s2] _] [] [] _::rest =>
  (NP s1).bind λq1=>(NL s2).bind λq2=>(NO q2.2).bind λq3=>(uf (ah st) n q1.2).bind λns=>(Me q3.2).bind λbs =>
  if ((e == ("FlowError":Str)&&q3.1 == q1.1&&sR (ah st) "FlowError"&&DL (ah st) n q2.1 == some ("ValueError":Str))&&(ns.all cl.contains&&decide (ns.length<=sizeLine)&&sM (ah st) N n&&sM (ah st) N q1.1)&&(!(n == q1.1)&&!(q1.1 == ("__classdict__":Str))&&(ah st).names.all λy=>!(y.2 == NameKind.cell)))=true then
   (lH (oS (ah st) N (tr S 40 none (ah st) N) 40) body).bind λgb=>(lH (oS (ah st) N (tr S 40 none (ah st) N) 40) rest).map λgr=>av (sU gb ((nB (Ff [] fx (ah st) N (tr S 40 none (ah st) N) (oS (ah st) N (tr S 40 none (ah st) N) 40) JN 10) (oS (ah st) N (tr S 40 none (ah st) N) 40) body).getD n9) (FJ ns bs)) gr
  else none
 | _=>none
def yg{N:List Str}{n:Str}(h:sM sc N n=true):(n == ("__debug__":Str))=false/\sc.names.lookup n=some .local /\ ∃i:Nat,N[i]?=some n:=by
 unfold sM at h;simp?[zF,yN,zJ] at h;let⟨⟨h1,h2⟩,h3⟩:=h;let⟨i,hi,e⟩:=qN (List.contains_iff_mem.mp h3);exact⟨h1,h2,i,by rw[zK hi,e]⟩
def Ki{K:W.Frag}{cs:List (Str×Addr)}{st:Stmt}(D:AC K mg x st ps)(B:∀x∈cK,mg x=none)(M:rE K mg F cs)(hf:jx P w K mg base j S.fn)(hi:eV mg S.int)(hx:nA P w K mg base j fx)(QX:(cl.all λc=>(cs.map Prod.fst).contains c)=true)(QD:(cs.all λd=>!(d.1 == ("__debug__":Str)))=true)(t:OI st N S fx cl (bh st)=some g)(FS:cD N ps (ah st):=by exact Rf.ON):EY P w K mg base (j+1) x ps.length (bo g N.length):=by
 let⟨f,fd,hm,Fu,hb⟩:=D.ex;refine⟨f,fd,ps,?_,hm,Fu.kp,hb⟩;let⟨oc,od,kV,doc,pm,an,QI,ct,Sn,rfl,lk,QW⟩:=Fu.ex;refine BY lk QW FS (λvs H Q E ⟨HF,ds,d,h1,_,h2,h3,_⟩=>by rw[h2.length,h3]) λA outer s H vs Q E hr ⟨HF,ds,d,sm,tb,rr,hl,hd,q⟩=>?_;have key:∀X:Cx,X=(rX Io P w K mg base N x (ah st) f QI A outer s H E).Qu->Bk X N (ah st) j->∀Qf H1,u5 X Qf H1 (bh st) g:=λX hX C Qf H1=>by
  generalize bh st=bd at t;unfold OI at t;split at t
  ·rename_i body e pe n s1 s2 ph pt rest;let⟨q1,RH,t1⟩:=bs t;let⟨q2,RI,t2⟩:=bs t1;let⟨q3,hq3,t3⟩:=bs t2;let⟨ns,Sj,t4⟩:=bs t3;let⟨XY,Ur,t5⟩:=bs t4;split at t5
   ·rename_i hh;simp?[zF,yN,zJ] at hh;obtain⟨⟨⟨⟨⟨h1,h2⟩,hgF⟩,h6⟩,⟨⟨h7,h8⟩,h9⟩,h10⟩,⟨Ym,h12⟩,hnc⟩:=hh;obtain rfl:=eq_of_beq h1;let⟨gb,VT,t6⟩:=bs t5;let⟨gr,hgr,rfl⟩:=af t6;let⟨Ro,RB,i,Xg⟩:=yg h9;let⟨Xf,QA,j',Xh⟩:=yg h10;let⟨a1,a2,a3,rfl⟩:=Jj RH;let⟨c8,c9,k,d1,d2,rfl⟩:=K7 RI;let⟨c1,c5,c6,e3⟩:=Ke hq3;rw[eq_of_beq h2] at e3;rw[e3];have Xi:(A.deeper (envOfC x (ah st) s.heap.objs.size f QI)).units+64 < cLine:=by
     have:=hr.un;lia
    subst hX;refine uF (Lj (i:=i) rfl rfl (C.gl hgF) M.fe (by decide) C.nd Xg RB RB ?_ ?_ ?_ ?_) (Rf.ee (λs g h=>lu C B (tT (G:=S) 40 C ⟨hf,hi,B⟩ (yK j) λq z=>by cases z) 40 h) hgr)
    ·show List.lookup n (cellsFrom _ _ [])=none;rw[qg _ _ hnc];rfl
    ·exact Rf.ee (λs g h=>lu C B (tT (G:=S) 40 C ⟨hf,hi,B⟩ (yK j) λq z=>by cases z) 40 h) VT
    ·intro pn xe E' hp;have C':Bk (dO (rX Io P w K mg base N x (ah st) f QI A outer s H E).Qu pn xe).Qu N (ah st) j:=⟨rfl,FS.nd,λy kd hy=>.inl hy,rfl,λ_ _=>rfl,hr,rfl,FS.kind⟩
     cases hq:nB (Ff [] fx (ah st) N (tr S 40 none (ah st) N) (oS (ah st) N (tr S 40 none (ah st) N) 40) JN 10) (oS (ah st) N (tr S 40 none (ah st) N) 40) body with
     | none=>exact Ib
     | some xg=>exact IJ C' B hf hi hx hp (λc QX=>by cases QX) (λ_ _ z=>by cases z) hq
    ·intro c d Tn;unfold FJ at Tn;split at Tn
     ·rename_i hc;rw[zF] at hc;cases Tn;have Rj:(ns.all λc=>(cs.map Prod.fst).contains c)=true:=by
       rw[xE] at h7 QX ⊢;exactλm hm=>QX m (List.contains_iff_mem.mp (h7 m hm))
      let⟨z,hz,rfl⟩:=List.mem_map.mp (List.contains_iff_mem.mp (List.all_eq_true.mp Rj c (List.contains_iff_mem.mp hc.1)));refine⟨λC hC=>?_,⟨z.2,M.at_ z hz⟩,wX (sc:=ah st) (pn':=[]) M hz (λ_ _ _ y kd hy=>.inl hy) (B _ (by decide)) Xi C.nd Xg RB RB Ro Xh QA Xf h12 (λz=>?_) QD Sj (eq_of_beq h6) Ur Rj (eq_of_beq hc.2) h8⟩
      ·have:=M.at_ z hz;rw[show mg z.1=some (.ref C) from hC] at this;cases this;exact M.xm z hz
      ·subst z;rw[Xg] at Xh;cases Xh;rw[beq_self_eq_true] at Ym;cases Ym
     ·cases Tn
   ·cases t5
  ·cases t
 unfold bo at hd;let⟨o,ho,hd⟩:=af hd;refine⟨_,(key _ rfl ⟨rfl,FS.nd,λy kd hy=>.inl hy,rfl,λ_ _=>rfl,hr,rfl,FS.kind⟩ HF H).Qu,HF,_,o,t9 sm tb rr,ho,?_⟩;cases o with
 | rt d'=>cases hd;exactλv H' Qd G r=>q v H' Qd G r
 | nx ρ'=>cases hd;exactλσ' H' Qd S' _=>q .Qb H' Qd S'.gr (by simp[Rep])
end Ex
namespace Rg
open PySem L2 Dl Rf Ex PySem.Spec PyProof.Rows
def P1{K:W.Frag}{l:FT}(st:Stmt)(D:fX K x st (Hx st n))(M:rE K mg Fa cs)(h:Ok P w K mg base is cl j l fx)(t:OI st (D4 st) ⟨l,is⟩ fx (cs.map Prod.fst) (bh st)=some g:=by kernel_rfl)(QD:(cs.all λd=>!(d.1 == ("__debug__":Str)))=true:=by decide +kernel)(F:cD (D4 st) (Hx st n) (ah st):=by exact fst)(e:(Hx st n).length=n:=by kernel_rfl)(e':(D4 st).length=k:=by kernel_rfl):Ok P w K mg base is cl (j+1) ((x,n,bo g k)::l) fx:=by
 have:=ML (up h (Nat.le_succ j)) (Ki (NX h D) h.ob M h.of h.oi h.ox (by rw[xE];exactλc hc=>List.contains_iff_mem.mpr hc) QD t F);rw[e,e'] at this;exact this
end Rg
namespace Pg
open PySem L2 Dl PySem.Spec PyProof.Rows
def nR:aq->Option Out:=(av (fu (dk (bK (fB (IB "int" (aa 0)))) (fB (IB "bool" (aa 0)))) (aO (fC (.bool false))) eM) (aO (il sQ sQ (aa 1) (aa 0) (aa 2))))
def aU:List D->Option D:=bo nR 3
def mr:aq->Option Out:=(aO (ai 3 aU (ae (aa 0) (ae (fC (.int 0)) (ae (f2 Dl.ir (aa 1) (fC (.int 1))) ag)))))
def cq:List D->Option D:=bo mr 2
def pV:aq->Option Out:=(aO (iP (IB "tuple" (aa 0)) (il sQ sQ (aa 1) (aW bD (ae (aa 0) ag)) (aa 2))))
def bE:List D->Option D:=bo pV 3
def lZ:aq->Option Out:=(av (fu (bK (fB (IB "tuple" (aa 0)))) (aO (fC (.bool false))) eM) (av (fu (bK (fB (aW j4 (ae (cm (ay 1 [1] (aZ (aa 0)) (fG 0) (λ_=>some true) (ai 2 cq (ae (aa 0) (ae (aa 1) ag))))) ag)))) (aO (fC (.bool false))) eM) (aO (f2 aX (f1 iI (aa 0)) (aW bD (ae (aa 0) ag))))))
def fF:List D->Option D:=bo lZ 2
def uc:aq->Option Out:=(aO (iP (ai 3 bE (ae (aa 0) (ae (fC (.int 2)) (ae (fC (.int 2)) ag)))) (iP (ai 3 aU (ae (f2 aC (aa 0) (fC (.int 0))) (ae (fC (.int 0)) (ae (fC (.int 9)) ag)))) (ai 2 fF (ae (f2 aC (aa 0) (fC (.int 1))) (ae (aa 1) ag))))))
def eF:List D->Option D:=bo uc 2
def uv:aq->Option Out:=(av (fu (bK (fB (ai 3 bE (ae (aa 0) (ae (fC (.int 3)) (ae (fC (.int 3)) ag)))))) (aO (fC (.bool false))) eM) (aO (iP (ai 2 cq (ae (f2 aC (aa 0) (fC (.int 0))) (ae (aa 1) ag))) (iP (ai 2 cq (ae (f2 aC (aa 0) (fC (.int 1))) (ae (aa 2) ag))) (ai 3 aU (ae (f2 aC (aa 0) (fC (.int 2))) (ae (fC (.int 1)) (ae (fC (.int 9)) ag))))))))
def ix:List D->Option D:=bo uv 3
def mf:aq->Option Out:=(av (fu (dk (bK (fB (ai 3 bE (ae (aa 0) (ae (fC (.int 1)) (ae (fC (.int 4)) ag)))))) (bK (fB (ai 3 bE (ae (aa 1) (ae (fC (.int 1)) (ae (fC (.int 4)) ag))))))) (aO (fC (.bool false))) eM) (av (fu (bK (fB (aW j4 (ae (cm (ay 1 [1] (aZ (aa 0)) (fG 0) (λ_=>some true) (ai 2 eF (ae (aa 0) (ae (aW bD (ae (aa 1) ag)) ag))))) ag)))) (aO (fC (.bool false))) eM) (av (fu (bK (fB (aW j4 (ae (cm (ay 1 [0] (aZ (aa 1)) (fG 0) (λ_=>some true) (ai 2 eF (ae (aa 0) (ae (aW bD (ae (aa 1) ag)) ag))))) ag)))) (aO (fC (.bool false))) eM) (aO (iP (IB "tuple" (aa 2)) (aW j4 (ae (cm (ay 1 [0,1] (aZ (aa 2)) (fG 0) (λ_=>some true) (ai 3 ix (ae (aa 0) (ae (aW bD (ae (aa 1) ag)) (ae (aW bD (ae (aa 2) ag)) ag)))))) ag)))))))
def fI:List D->Option D:=bo mf 3
def iZ:aq->Option Out:=(av (aS 1 [] (cP ag)) (av (dh [0] (cE (ae (aa 0) ag)) (iQ 2 3) (AB 1 [2,3] (ay 1 [2] (aZ (f2 aC (aa 3) (fC (.int 1)))) (fG 0) (λ_=>some true) (bc (ae (aa 1) (ae (aa 0) ag)))))) (aO (aa 1))))
def bq:List D->Option D:=bo iZ 4
def gK:aq->Option Out:=(av (fu (dk (bK (fB (ai 3 bE (ae (aa 0) (ae (fC (.int 3)) (ae (fC (.int 3)) ag)))))) (bK (fB (ai 3 fI (ae (f2 aC (aa 0) (fC (.int 0))) (ae (f2 aC (aa 0) (fC (.int 1))) (ae (f2 aC (aa 0) (fC (.int 2))) ag))))))) (aO (fC (.bool false))) eM) (av (aS 1 [0] (ay 1 [] (aZ (f2 aC (aa 0) (fC (.int 2)))) (fG 0) (λ_=>some true) (bc (ae (f2 aC (aa 0) (fC (.int 0))) (ae (f2 aC (aa 0) (fC (.int 1))) ag))))) (av (aS 2 [0] (lG fy (ae (ai 1 bq (ae (f2 aC (aa 0) (fC (.int 0))) ag)) ag))) (av (aS 3 [0] (lG fy (ae (cm (ay 2 [] (aZ (ai 1 bq (ae (f2 aC (aa 0) (fC (.int 1))) ag))) (k6 0 1) (λ_=>some true) (bc (ae (aa 1) (ae (aa 0) ag))))) ag))) (aO (iP (f2 aX (aa 1) (aa 2)) (f2 aX (aa 1) (aa 3))))))))
def bP:List D->Option D:=bo gK 4
def dH:aq->Option Out:=(fu (bK (fB (ai 1 bP (ae (aa 0) ag)))) BJ eM)
def cf:List D->Option D:=bo dH 1
def b0:aq->Option Out:=(fu (bK (fB (ai 3 aU (ae (aa 0) (ae (aa 1) (ae (aa 2) ag)))))) BJ eM)
def fO:List D->Option D:=bo b0 3
def bV:aq->Option Out:=(nj (ai 3 fO (ae (aa 0) (ae (fC (.int 0)) (ae (f2 Dl.ir (aa 1) (fC (.int 1))) ag)))))
def eI:List D->Option D:=bo bV 2
def eh:aq->Option Out:=(nj (ai 2 eI (ae (aa 0) (ae (fC (.int 2)) ag))))
def kb:List D->Option D:=bo eh 1
def g8:aq->Option Out:=(av (fu (fB (f2 aX (aa 0) (cm (cP ag)))) (aO (f2 ft (fC (.int 7)) (aa 1))) eM) (aO (f2 aw (f2 aC (aa 0) (f2 jd (aa 1) (aW bD (ae (aa 0) ag)))) (f2 ft (fC (.int 6553)) (f2 la (aa 1) (aW bD (ae (aa 0) ag)))))))
def dM:List D->Option D:=bo g8 2
def jw:aq->Option Out:=(av (aH 3 [0,1] (f2 jd (f2 aw (f2 ft (f2 jd (ai 2 dM (ae (aa 0) (ae (aa 1) ag))) (fC (.int 2147483563))) (fC (.int 69069))) (f2 ft (fC (.int 104723)) (f2 aw (aa 1) (fC (.int 1))))) (fC (.int 2147483563)))) (av (aH 3 [3] (f2 jd (f2 aw (f2 ft (aa 3) (aa 3)) (f2 la (aa 3) (fC (.int 3)))) (fC (.int 2147483399)))) (aO (f2 jd (f2 la (f2 jd (f2 aw (f2 ft (aa 3) (aa 3)) (f2 la (aa 3) (fC (.int 7)))) (fC (.int 2147483647))) (fC (.int 11))) (aa 2)))))
def ak:List D->Option D:=bo jw 4
def qf:aq->Option Out:=(aO (aW nC (ae (cm (ay 2 [2,3] (dQ (ae (f2 aC (aa 0) (fC (.int 2))) (ae (aa 1) ag))) (k6 0 1) (fB (f2 aX (f2 aC (aa 0) (aa 2)) (aa 3))) (aa 1))) ag)))
def gh:List D->Option D:=bo qf 4
def gS:aq->Option Out:=(aO (aW j4 (ae (cm (ay 2 [0,1,2] (cE (ae (f2 aC (aa 0) (aa 2)) ag)) (k6 0 1) (λ_=>some true) (f2 sQ (ai 4 gh (ae (aa 2) (ae (aa 3) (ae (aa 4) (ae (aa 0) ag))))) (f2 aC (aa 1) (fC (.int 0)))))) ag)))
def cN:List D->Option D:=bo gS 3
def lV:aq->Option Out:=(av (aH 2 [0] (f2 aC (aa 0) (fC (.int 2)))) (av (fu (bK (fB (ai 3 bE (ae (aa 1) (ae (aW bD (ae (aa 2) ag)) (ae (aW bD (ae (aa 2) ag)) ag)))))) (aO (fC (.bool false))) eM) (av (fu (bK (fB (aW j4 (ae (cm (ay 2 [] (dQ (ae (aa 2) (ae (aa 1) ag))) (k6 0 1) (λ_=>some true) (ai 3 aU (ae (aa 1) (ae (fC (.int 0)) (ae (f2 aC (aa 0) (fC (.int 2))) ag)))))) ag)))) (aO (fC (.bool false))) eM) (aO (iP (ai 3 cN (ae (aa 0) (ae (aa 1) (ae (fC (.int 0)) ag)))) (ai 3 cN (ae (aa 0) (ae (aa 1) (ae (fC (.int 1)) ag)))))))))
def cA:List D->Option D:=bo lV 3
def ej:aq->Option Out:=(av (nj (ai 1 cf (ae (aa 0) ag))) (fu (bK (fB (ai 2 cA (ae (aa 0) (ae (aa 1) ag))))) BJ eM))
def gC:List D->Option D:=bo ej 2
def mh:aq->Option Out:=(aO (aW nC (ae (cm (ay 2 [2,3] (dQ (ae (aa 1) (ae (f2 aC (aa 0) (fC (.int 2))) ag))) (k6 0 1) (fB (f2 aX (f2 aC (aa 1) (aa 2)) (aa 3))) (aa 0))) ag)))
def dN:List D->Option D:=bo mh 4
def iA:aq->Option Out:=(av (dh [] (cZ (ae (fC (.int 2)) ag)) (gn 2) (dh [0,2] (cE (ae (f2 aC (aa 0) (aa 2)) ag)) (iQ 3 4) (fu (fB (f2 D1 (ai 4 dN (ae (aa 0) (ae (aa 1) (ae (aa 2) (ae (aa 3) ag))))) (f2 aC (aa 4) (fC (.int 0))))) (aO (fC (.bool false))) eM))) (aO (fC (.bool true))))
def dS:List D->Option D:=bo iA 5
def gX:aq->Option Out:=(av (aH 3 [] (bc ag)) (av (dh [2] (cE (ae (f2 aC (aa 2) (fC (.int 2))) ag)) (iQ 4 5) (av (aH 6 [0,1,3,4,5] (f2 aw (aa 3) (bc (ae (ai 3 ak (ae (aa 0) (ae (f2 aw (aa 1) (aa 4)) (ae (f2 aw (f2 aC (aa 5) (fC (.int 2))) (fC (.int 1))) ag)))) ag)))) (av (aH 7 [2,6] (ai 2 dS (ae (aa 2) (ae (f2 aw (aa 6) (f2 ft (bc (ae (fC (.int 0)) ag)) (f2 Dl.ir (aW bD (ae (f2 aC (aa 2) (fC (.int 2))) ag)) (aW bD (ae (aa 6) ag))))) ag)))) (aH 3 [3,6,7] (Fd (fB (aa 7)) (aa 6) (f2 aw (aa 3) (bc (ae (fC (.int 0)) ag)))))))) (aO (aa 3))))
def l8:List D->Option D:=bo gX 8
end Pg
namespace Zp
open PySem PyProof.Rows
section
variable {z TI TO i j l m:Addr}
end
section
variable {z TI TO i j l m:Addr}
end
end Zp
namespace Dl
open PySem L2 PySem.Spec PyProof.Rows Zp
open PySem L2 PySem.Spec PyProof.Rows
end Dl
namespace HT
open PySem PyProof.Rows
section
open PySem.SeqAt
open PySem.AutoSeq1 (wpAny_loadPart')
open PySem.MeetsSeq PySem.MeetsSeq2 PySem.MeetsSeq3
end
end HT
namespace Dl
open PySem L2 PySem.Spec PyProof.Rows
structure P7(h:Heap)(v:Value)(r:List Int):Prop where
 ex:∃ (a:Addr) (o:Obj) (n:Nat) (p:Value) (x y:Int) (t u:Tok) (ns:List Int),v=.ref a/\r=x::y::ns/\h.get? a=some o/\o.cls=.type "tuple"/\o.data=.seq #[.int x t,.int y u,p] n/\rF h p ns
inductive Og{α:Type}(X:Cx)(R:Addr->α->Prop):List Expr->List α->List V->Prop
 | nil:Og X R [] [] []
 | cons {x:Str}{p:Pos}{m:α}{f:Addr}{es:List Expr}{ms:List α}{vs:List V}(hg:Gl X x) (hm:X.mg x=some (.ref f)) (hd:(x == ("__debug__":Str))=false) (r:R f m) (t:Og X R es ms vs):Og X R (.Name x p::es) (m::ms) (.ref f::vs)
end Dl
namespace Pg
open PySem L2 Dl PySem.Spec PyProof.Rows
open PySem L2 Dl PySem.Spec PyProof.Rows Ex
def oK:XS:=(BL (bK (fB (ai 1 bP (ae (aa 0) ag)))) (II "NoWorld") n9)
def fQ:List D->Option Str:=sC oK 1
def oI:XS:=(BL (bK (fB (ai 3 aU (ae (aa 0) (ae (aa 1) (ae (aa 2) ag)))))) (II "NoPlace") n9)
def iX:List D->Option Str:=sC oI 3
def mH:XS:=(mL (zv 3 iX (ae (aa 0) (ae (fC (.int 0)) (ae (f2 Dl.ir (aa 1) (fC (.int 1))) ag)))))
def ij:List D->Option Str:=sC mH 2
def oY:XS:=(mL (zv 2 ij (ae (aa 0) (ae (fC (.int 2)) ag))))
def qv:List D->Option Str:=sC oY 1
open PySem L2 Dl Ex Rf PySem.Spec PyProof.Rows
def gR:aq->Option Out:=(aO (f2 iT (fC (.str "")) (cm (ay 1 [] (aZ (aa 0)) (fG 0) (λ_=>some true) (f2 bZ (aa 0) (fC (.str "\n")))))))
def cM:List D->Option D:=bo gR 1
def jf:aq->Option Out:=(av (aH 1 [0] (cm (iG ck (aa 0) (fC (.str "\n"))))) (av (fu (fB (f2 bN (f2 aC (aa 1) (f1 gW (fC (.int 1)))) (fC (.str "")))) BJ eM) (aO (aP bf (aa 1) aN (bX (f1 gW (fC (.int 1))))))))
def bY:List D->Option D:=bo jf 2
def hV:aq->Option Out:=(av (aH 2 [0] (f2 aC (aa 0) (fC (.int 0)))) (av (aH 3 [0] (f2 aC (aa 0) (fC (.int 1)))) (aO (Gs [(f1 Bh (aa 2)),(fC (.str " -")),(f1 Bh (aa 1)),(fC (.str "> ")),(f1 Bh (aa 3))] Str.empty))))
def bJ:List D->Option D:=bo hV 4
def eK:aq->Option Out:=(aO (ai 1 cM (ae (cm (ay 2 [] (dQ (ae (f2 aC (aa 0) (fC (.int 2))) (ae (aa 1) ag))) (k6 0 1) (fB (f2 D1 (aa 1) (fC (.int 0)))) (ai 2 bJ (ae (aa 0) (ae (aa 1) ag))))) ag)))
def bb:List D->Option D:=bo eK 2
def md:aq->Option Out:=(av (nj (ai 2 gC (ae (aa 0) (ae (aa 1) ag)))) (aO (ai 2 bb (ae (aa 0) (ae (aa 1) ag)))))
def cT:List D->Option D:=bo md 2
def cJ:aq->Option Out:=(av (qa 1) (av (dh [0] (cE (ae (f2 aC (aa 0) (fC (.int 2))) ag)) (iQ 2 3) (dh [3] (fw (ae (fC (.int 1)) (ae (f2 aw (f2 aC (aa 3) (fC (.int 2))) (fC (.int 1))) ag))) (gn 4) (uC 1 (ai 2 bJ (ae (aa 3) (ae (aa 4) ag))) (bc (ae (aa 2) (ae (aa 4) ag)))))) (aO (aa 1))))
def br:List D->Option D:=bo cJ 5
def cn:aq->Option Out:=(av (nj (ai 1 cf (ae (aa 0) ag))) (av (aH 2 [0] (ai 1 br (ae (aa 0) ag))) (av (aS 3 [0] (ay 1 [] (aZ (f2 aC (aa 0) (fC (.int 2)))) (fG 0) (λ_=>some true) (fC (.int 0)))) (av (dh [1] (aZ (ai 1 bY (ae (aa 1) ag))) (gn 4) (av (fu (fB (f2 mG (aa 4) (aa 2))) BJ eM) (av (aH 5 [2,4] (f2 l5 (aa 2) (aa 4))) (oX 3 [5] (f2 aC (aa 5) (fC (.int 0))) (f2 aC (aa 5) (fC (.int 1))))))) (av (aH 6 [3] (aW bU (ae (aa 3) ag))) (av (fu (dk (bK (fB (ai 2 cA (ae (aa 0) (ae (aa 6) ag))))) (fB (f2 bN (ai 2 bb (ae (aa 0) (ae (aa 6) ag))) (aa 1)))) BJ eM) (aO (aa 6))))))))
def cw:List D->Option D:=bo cn 7
def ie:aq->Option Out:=(av (aH 2 [0,1] (f2 aw (fC (.int 1)) (ai 3 ak (ae (aa 0) (ae (aa 1) (ae (fC (.int 4)) ag)))))) (av (aH 3 [0,1] (f2 aw (fC (.int 1)) (ai 3 ak (ae (aa 0) (ae (f2 aw (aa 1) (fC (.int 1))) (ae (fC (.int 4)) ag)))))) (av (aS 4 [] (cP ag)) (av (dh [2,3] (cZ (ae (f2 ft (aa 2) (aa 3)) ag)) (gn 5) (fu (fB (f2 aX (ai 3 ak (ae (aa 0) (ae (f2 aw (f2 aw (aa 1) (fC (.int 2))) (aa 5)) (ae (fC (.int 2)) ag)))) (fC (.int 0)))) (i4 4 [0,1,3,5] (bc (ae (f2 la (aa 5) (aa 3)) (ae (f2 jd (aa 5) (aa 3)) (ae (f2 aw (fC (.int 1)) (ai 3 ak (ae (aa 0) (ae (f2 aw (f2 aw (aa 1) (fC (.int 20))) (aa 5)) (ae (fC (.int 9)) ag))))) ag))))) eM)) (av (aS 6 [] (cP ag)) (av (dh [2] (cZ (ae (aa 2) ag)) (gn 7) (av (aH 8 [4,7] (aW bU (ae (cm (ay 1 [7] (aZ (aa 4)) (fG 0) (fB (f2 aX (f2 aC (aa 0) (fC (.int 0))) (aa 1))) (f2 aC (aa 0) (fC (.int 1))))) ag))) (av (aH 9 [0,1,7,8] (ai 3 ak (ae (aa 0) (ae (f2 aw (f2 aw (aa 1) (fC (.int 40))) (aa 7)) (ae (f2 aw (aW bD (ae (aa 8) ag)) (fC (.int 1))) ag))))) (i4 6 [0,1,7,8,9] (bc (ae (ai 3 ak (ae (aa 0) (ae (f2 aw (f2 aw (aa 1) (fC (.int 44))) (aa 7)) (ae (fC (.int 10)) ag)))) (ae (f2 aw (aP bf (aa 8) (bX (aa 9)) aN) (f1 uU (aP bf (aa 8) aN (bX (aa 9))))) ag))))))) (av (aS 10 [] (cP ag)) (av (dh [3] (cZ (ae (aa 3) ag)) (gn 11) (av (aH 8 [4,11] (aW bU (ae (cm (ay 1 [11] (aZ (aa 4)) (fG 0) (fB (f2 aX (f2 aC (aa 0) (fC (.int 1))) (aa 1))) (f2 aC (aa 0) (fC (.int 0))))) ag))) (av (aH 9 [0,1,8,11] (ai 3 ak (ae (aa 0) (ae (f2 aw (f2 aw (aa 1) (fC (.int 50))) (aa 11)) (ae (f2 aw (aW bD (ae (aa 8) ag)) (fC (.int 1))) ag))))) (i4 10 [0,1,8,9,11] (bc (ae (ai 3 ak (ae (aa 0) (ae (f2 aw (f2 aw (aa 1) (fC (.int 54))) (aa 11)) (ae (fC (.int 10)) ag)))) (ae (f2 aw (aP bf (aa 8) (bX (aa 9)) aN) (f1 uU (aP bf (aa 8) aN (bX (aa 9))))) ag))))))) (aO (bc (ae (aW bU (ae (aa 6) ag)) (ae (aW bU (ae (aa 10) ag)) (ae (aW bU (ae (aa 4) ag)) ag)))))))))))))
def fv:List D->Option D:=bo ie 12
def mE:aq->Option Out:=(aO (aW nC (ae (cm (ay 2 [2,3] (dQ (ae (aa 1) (ae (f2 aC (aa 0) (fC (.int 2))) ag))) (k6 0 1) (fB (f2 aX (f2 aC (aa 1) (aa 2)) (aa 3))) (aa 0))) ag)))
def gO:List D->Option D:=bo mE 4
def mD:aq->Option Out:=(av (dh [] (cZ (ae (fC (.int 2)) ag)) (gn 2) (dh [0,2] (cE (ae (f2 aC (aa 0) (aa 2)) ag)) (iQ 3 4) (fu (fB (f2 D1 (ai 4 gO (ae (aa 0) (ae (aa 1) (ae (aa 2) (ae (aa 3) ag))))) (f2 aC (aa 4) (fC (.int 0))))) (aO (fC (.bool false))) eM))) (aO (fC (.bool true))))
def d5:List D->Option D:=bo mD 5
def k7:aq->Option Out:=(av (aS 1 [] (cP (ae (bc ag) ag))) (av (dh [0] (aZ (f2 aC (aa 0) (fC (.int 2)))) (gn 2) (av (aS 3 [] (cP ag)) (av (dh [1] (aZ (aa 1)) (gn 4) (aS 3 [2,3,4] (iG cX (aa 3) (cm (ay 1 [4] (cZ (ae (f2 aw (f2 aC (aa 2) (fC (.int 2))) (fC (.int 1))) ag)) (fG 0) (λ_=>some true) (f2 aw (aa 1) (bc (ae (aa 0) ag)))))))) (aH 1 [3] (aa 3))))) (aO (cm (ay 1 [0] (aZ (aa 1)) (fG 0) (fB (ai 2 d5 (ae (aa 1) (ae (aa 0) ag)))) (aa 0))))))
def lF:List D->Option D:=bo k7 5
def mM:aq->Option Out:=(av (aH 3 [] (bc ag)) (av (dh [2] (cE (ae (f2 aC (aa 2) (fC (.int 2))) ag)) (iQ 4 5) (av (aH 6 [0,1,3,4,5] (f2 aw (aa 3) (bc (ae (ai 3 ak (ae (aa 0) (ae (f2 aw (aa 1) (aa 4)) (ae (f2 aw (f2 aC (aa 5) (fC (.int 2))) (fC (.int 1))) ag)))) ag)))) (av (aH 7 [2,6] (ai 2 d5 (ae (aa 2) (ae (f2 aw (aa 6) (f2 ft (bc (ae (fC (.int 0)) ag)) (f2 Dl.ir (aW bD (ae (f2 aC (aa 2) (fC (.int 2))) ag)) (aW bD (ae (aa 6) ag))))) ag)))) (aH 3 [3,6,7] (Fd (fB (aa 7)) (aa 6) (f2 aw (aa 3) (bc (ae (fC (.int 0)) ag)))))))) (aO (aa 3))))
def bF:List D->Option D:=bo mM 8
def dP:XS:=(rV (aH 1 [0] (cm (iG ck (aa 0) (fC (.str "\n"))))) (BL (fB (f2 bN (f2 aC (aa 1) (f1 gW (fC (.int 1)))) (fC (.str "")))) (II "NoText") n9))
def dz:List D->Option Str:=sC dP 2
def bT:XS:=(ke (mL (zv 1 fQ (ae (aa 0) ag))) (nj (ai 1 cf (ae (aa 0) ag))) (rV (aH 2 [0] (ai 1 br (ae (aa 0) ag))) (rV (aS 3 [0] (ay 1 [] (aZ (f2 aC (aa 0) (fC (.int 2)))) (fG 0) (λ_=>some true) (fC (.int 0)))) (ke (Jp (mL (zv 1 dz (ae (aa 1) ag))) (tP [1] (aZ (ai 1 bY (ae (aa 1) ag))) (gn 4) (av (fu (fB (f2 mG (aa 4) (aa 2))) BJ eM) (av (aH 5 [2,4] (f2 l5 (aa 2) (aa 4))) (oX 3 [5] (f2 aC (aa 5) (fC (.int 0))) (f2 aC (aa 5) (fC (.int 1)))))) (BL (fB (f2 mG (aa 4) (aa 2))) (II "NoText") n9))) (dh [1] (aZ (ai 1 bY (ae (aa 1) ag))) (gn 4) (av (fu (fB (f2 mG (aa 4) (aa 2))) BJ eM) (av (aH 5 [2,4] (f2 l5 (aa 2) (aa 4))) (oX 3 [5] (f2 aC (aa 5) (fC (.int 0))) (f2 aC (aa 5) (fC (.int 1))))))) (rV (aH 6 [3] (aW bU (ae (aa 3) ag))) (BL (dk (bK (fB (ai 2 cA (ae (aa 0) (ae (aa 6) ag))))) (fB (f2 bN (ai 2 bb (ae (aa 0) (ae (aa 6) ag))) (aa 1)))) (II "NoText") n9))))))
def d4:List D->Option Str:=sC bT 7
def dZ:aq->Option Out:=(av (sU (aO (ai 2 cw (ae (aa 0) (ae (aa 1) ag)))) (mL (zv 2 d4 (ae (aa 0) (ae (aa 1) ag)))) (FJ ["NoText","NoWorld","NoPlan"] [true,false,false])) (aO (fC (.bool false))))
def aV:List D->Option D:=bo dZ 4
def cv:aq->Option Out:=(av (aS 2 [0] (pS (cP (ae (fC (.int 0)) ag)) (aW bD (ae (f2 aC (aa 0) (fC (.int 2))) ag)))) (av (aH 3 [] (f1 gW (fC (.int 1)))) (av (aH 4 [1] (cm (iG ck (aa 1) (fC (.str "\n"))))) (av (dh [4] (aZ (aP bf (aa 4) aN (bX (f1 gW (fC (.int 1)))))) (gn 5) (av (fu (dk (fB (f2 bN (aW ju (ae (aa 5) ag)) (fC (.int 7)))) (dk (fB (f2 bN (aP bR (aa 5) (bX (fC (.int 1))) (bX (fC (.int 3)))) (fC (.str " -")))) (dk (fB (f2 bN (aP bR (aa 5) (bX (fC (.int 4))) (bX (fC (.int 6)))) (fC (.str "> ")))) (fB (f2 aX (f2 dR (aa 5) (fC (.int 3))) (fC (.str "0"))))))) (aO (fC .none)) eM) (av (fu (fB (f2 bN (cm (ay 1 [] (pD (f2 bZ (f2 bZ (f2 dR (aa 5) (fC (.int 0))) (f2 dR (aa 5) (fC (.int 3)))) (f2 dR (aa 5) (fC (.int 6))))) (fG 0) (fB (f2 (λx y=>(v7 x y).map PyData.bool) (aa 0) (fC (.str "0123456789")))) (aa 0))) (cm (cP ag)))) (aO (fC .none)) eM) (av (aS 6 [0,5] (ay 2 [5] (cE (ae (f2 aC (aa 0) (fC (.int 2))) ag)) (k6 0 1) (fB (f2 aX (aP bf (aa 1) aN (bX (fC (.int 2)))) (bc (ae (aW iS (ae (f2 dR (aa 2) (fC (.int 0))) ag)) (ae (aW iS (ae (f2 dR (aa 2) (fC (.int 6))) ag)) ag))))) (aa 0))) (av (fu (dk (fB (f2 aX (aa 6) (cm (cP ag)))) (fB (f2 sQ (f2 aC (aa 6) (fC (.int 0))) (aa 3)))) (aO (fC .none)) eM) (av (aH 3 [6] (f2 aC (aa 6) (fC (.int 0)))) (oX 2 [5] (aa 3) (aW iS (ae (f2 dR (aa 5) (fC (.int 3))) ag))))))))) (av (aH 7 [2] (aW bU (ae (aa 2) ag))) (aO (Fd (ow (fB (f2 aX (f2 aC (aa 4) (f1 gW (fC (.int 1)))) (fC (.str "")))) (fB (ai 2 cA (ae (aa 0) (ae (aa 7) ag))))) (aa 7) (fC .none))))))))
def aI:List D->Option D:=bo cv 8
abbrev pA:List Str:=["_law_script","_law_world","_law_plan_here","_law_other","_law_text","_law_at","_law_sign","_law_texts","_law_lines","_law_to","_law_exchanged","_law_k","_law_line","_law_some"]
def iJ:aq->Option Out:=(av (aH 1 [0] (ai 2 fv (ae (aa 0) (ae (fC (.int 0)) ag)))) (av (aH 2 [0,1] (ai 3 bF (ae (aa 0) (ae (fC (.int 70)) (ae (aa 1) ag))))) (av (aH 3 [0,1] (ai 3 bF (ae (aa 0) (ae (fC (.int 90)) (ae (aa 1) ag))))) (av (aH 4 [1,2] (ai 2 cT (ae (aa 1) (ae (aa 2) ag)))) (av (fu (fB (f2 bN (f2 aX (ai 2 cT (ae (aa 1) (ae (aa 3) ag))) (aa 4)) (f2 aX (aa 3) (aa 2)))) (aO (fC (.bool false))) eM) (av (aH 5 [0,4] (ai 3 ak (ae (aa 0) (ae (fC (.int 110)) (ae (f2 aw (aW ju (ae (aa 4) ag)) (fC (.int 1))) ag))))) (av (aH 6 [0] (f2 dR (fC (.str "0123 \n->x")) (ai 3 ak (ae (aa 0) (ae (fC (.int 111)) (ae (fC (.int 9)) ag)))))) (av (aS 7 [4,5,6] (cP (ae (aa 4) (ae (f2 bZ (aP bR (aa 4) aN (bX (aa 5))) (aP bR (aa 4) (bX (f2 aw (aa 5) (fC (.int 1)))) aN)) (ae (f2 bZ (aP bR (aa 4) aN (bX (f2 aw (aa 5) (fC (.int 1))))) (aP bR (aa 4) (bX (aa 5)) aN)) (ae (f2 bZ (f2 bZ (aP bR (aa 4) aN (bX (aa 5))) (aa 6)) (aP bR (aa 4) (bX (f2 aw (aa 5) (fC (.int 1)))) aN)) ag)))))) (av (aS 7 [4,5,6,7] (iG cX (aa 7) (cm (cP (ae (f2 bZ (f2 bZ (aP bR (aa 4) aN (bX (aa 5))) (aa 6)) (aP bR (aa 4) (bX (aa 5)) aN)) (ae (fC (.str "")) (ae (fC (.str "0 -1> 0\n")) (ae (fC (.str "0 -0> 0\n")) (ae (f2 bZ (aa 4) (fC (.str "0 -1> 0\n"))) (ae (aP bR (aa 4) aN (bX (f1 gW (fC (.int 1))))) ag)))))))))) (av (aH 8 [4] (cm (iG ck (aa 4) (fC (.str "\n"))))) (av (aH 9 [0,8] (ai 3 ak (ae (aa 0) (ae (fC (.int 112)) (ae (aW bD (ae (aa 8) ag)) ag))))) (av (aS 7 [7,8,9] (iG cX (aa 7) (cm (cP (ae (f2 iT (fC (.str "\n")) (cm (iG cX (aP bf (aa 8) aN (bX (aa 9))) (aP bf (aa 8) (bX (f2 aw (aa 9) (fC (.int 1)))) aN)))) (ae (f2 iT (fC (.str "\n")) (cm (iG cX (aP bf (aa 8) aN (bX (f2 aw (aa 9) (fC (.int 1))))) (aP bf (aa 8) (bX (aa 9)) aN)))) ag)))))) (av (aS 10 [8,9] (iG cX (cm (iG cX (aP bf (aa 8) aN (bX (aa 9))) (f1 zr (aP bf (aa 8) (bX (aa 9)) (bX (f2 aw (aa 9) (fC (.int 2)))))))) (aP bf (aa 8) (bX (f2 aw (aa 9) (fC (.int 2)))) aN))) (av (i4 7 [10] (f2 iT (fC (.str "\n")) (aa 10))) (av (dh [8] (cZ (ae (f2 Dl.ir (aW bD (ae (aa 8) ag)) (fC (.int 1))) ag)) (gn 11) (av (aH 12 [0,8,11] (f2 bZ (f2 bZ (aP bR (f2 aC (aa 8) (aa 11)) aN (bX (fC (.int 3)))) (aW tq (ae (ai 3 ak (ae (aa 0) (ae (f2 aw (fC (.int 120)) (aa 11)) (ae (fC (.int 10)) ag)))) ag))) (aP bR (f2 aC (aa 8) (aa 11)) (bX (fC (.int 4))) aN))) (i4 7 [8,11,12] (f2 iT (fC (.str "\n")) (cm (iG cX (cm (iG cX (aP bf (aa 8) aN (bX (aa 11))) (cm (cP (ae (aa 12) ag))))) (aP bf (aa 8) (bX (f2 aw (aa 11) (fC (.int 1)))) aN))))))) (av (dh [7] (aZ (aa 7)) (gn 13) (fu (fB (f2 bN (ai 2 aV (ae (aa 1) (ae (aa 13) ag))) (ai 2 aI (ae (aa 1) (ae (aa 13) ag))))) (aO (fC (.bool false))) eM)) (aO (f2 aX (ai 2 aI (ae (aa 1) (ae (aa 4) ag))) (aa 2)))))))))))))))))))
def eB:List D->Option D:=bo iJ 14
end Pg
namespace K82
open PySem L2 Dl PySem.Spec PyProof.Rows
open Pg Ex Rg
abbrev Pq:List Str:=["NoText","NoWorld"]
abbrev gi:List (Str×D):=[("MOST_PLACES",.int 4),("MOST",.int 9)]
abbrev Ls:FT:=("_law_due",2,aI)::("_law_told",2,aV)::("_law_plan",3,bF)::("_law_plans",1,lF)::("_law_fits",2,d5)::("_law_used",4,gO)::("_law_wide",2,fv)::("_law_drawn",3,ak)::("_law_cell",2,dM)::("read_plan",2,cw)::("known_lines",1,br)::("plan_text",2,cT)::("written_plan",2,bb)::("flow_line",2,bJ)::("lines_of",1,bY)::("text_of_lines",1,cM)::("check_plan",2,gC)::("check_world",1,cf)::("is_plan",2,cA)::("keeps_amounts",3,cN)::("through",4,gh)::("is_world",1,bP)::("liked_pairs",1,bq)::("are_parts",3,fI)::("is_way",3,ix)::("is_end",2,eF)::("are_likes",2,fF)::("is_long",3,bE)::("is_number",2,cq)::("is_whole",3,aU)::[]
abbrev Xs:XT:=("read_plan",2,d4)::("lines_of",1,dz)::("check_world",1,fQ)::[]
def L3:Rf.tW (top 40) pA ⟨Ls,gi⟩ none=some iJ:=by kernel_rfl
structure KG(K:W.Frag)(mg:Str->Option Value):Prop where
 o:∀P w base,Ok P w K mg base gi Pq 30 Ls Xs
 c:AC K mg "law" (top 40) ["_law_script"]
def LA{P:Program}{w:World}{K:W.Frag}{mg:Str->Option Value}{fa:Addr}(D:KG K mg)(hfa:mg "law"=some (.ref fa)):∃fd:FuncData,(∀ (s:Shared) (v:Value),BindsTo s fd ⟨[v],[]⟩ [("_law_script",v)])/\∀base:Heap,K.In base->base.Ns mainGlobals mg->mF P w K mg base Io 31 fa fd ["_law_script"] (Nb K 1 eB):=by
 let⟨f,fd,hm,F,hb⟩:=D.c.ex;rw[hfa] at hm;cases hm;refine⟨fd,λs v=>?_,λbase _ _=>Ie F (Rf.ON (N:=pA)) λX hP hw hK R0 RS C _ _ HF H=>by subst hP;subst hw;subst hK;subst R0;subst RS;have o:=D.o X.prog X.w X.base;exact Rf.Ii C o.ob o.of o.oi L3⟩;let⟨oc,od,kV,doc,pm,an,QI,ct,Sn,rfl,lk,QW⟩:=F.ex;exact .of_eq rfl
def walk{l:W.OpenLaw}{q:Program}{loose:List Str}{XP:(Str->Option Value)->Heap->Prop}{YP:World->Heap->Prop}{d:DefRec}{K:Params->W.Frag}{ts:List Addr}(hn:l.most=some 63)(UP:d.params.defaults=[])(Vt:d.name="law")
  (hY:∀ (w:World) (h:Heap),YP w h->(K w.params).In h/\∀P∈ts,h.get? P=some (W.tabObj #[])) (ht:∀w:World,kn (K w.params) ts=true) (hI:∀ (w:World) {h:Heap}{mg:Str->Option Value},(K w.params).In h->h.Ns mainGlobals mg->KG (K w.params) mg) (main:∀ns:List Int,ns.length<=63->eB [.list (ns.map PyData.int)]=some (.bool true)) :
  W.WalkO q loose XP YP l.row.toRowW d [] (λf vs=>PySem.call f vs) :=
 D8 (n:=63) (k:=31) (x:="_law_script") (CX:=λ_=>Io) (sp:=λw=>Nb (K w.params) 1 eB) hn (by decide) UP ⟨rfl,by decide,by decide⟩ hY ht (λw mg fa h KX G UQ=>LA (hI w KX G) (by rw[<- Vt];exact UQ)) (λ_ _ a ns hl hT hS=>vy hS hT (main ns hl)) λ_ _ _ _ _ z=>z
end K82
namespace Dl
open PySem L2 PySem.Spec PyProof.Rows
def tj:D->Prop|.none=>True|.bool _=>True|.int _=>True|.str x=>PyData.canLay0 (.str x)=true|_=>False
def gm(b:Nat):Nat->D->Prop
 | 0,d=>tj d
 | k+1,d=>tj d\/(∃xs,(d=.list xs\/d=.tuple xs)/\xs.length<=b/\∀x∈xs,gm b k x)
def gm.leaf(h:tj d):gm b k d:=by
 cases k with
 | zero=>exact h
 | succ k=>exact .inl h
def gm.tup(hb:xs.length<=b)(h:∀x∈xs,gm b k x):gm b (k+1) (.tuple xs):=.inr ⟨xs,.inr rfl,hb,h⟩
def gm.lst(hb:xs.length<=b)(h:∀x∈xs,gm b k x):gm b (k+1) (.list xs):=.inr ⟨xs,.inl rfl,hb,h⟩
def gm.QE(h:gm b k (.tuple xs)):∃j,k=j+1/\xs.length<=b/\∀x∈xs,gm b j x:=by
 cases k with
 | zero=>cases h
 | succ k =>
  rcases h with h|⟨ys,h|h,h1,h2⟩
  ·cases h
  ·cases h
  ·cases h;exact⟨k,rfl,h1,h2⟩
def gm.mono(hb:b<=b'):∀ {k k':Nat}{d:D},k<=k'->gm b k d->gm b' k' d
 | 0,k',d,_,h=>.leaf h
 | k+1,0,d,hk,h=>by lia
 | k+1,k'+1,d,hk,h=>by
  rcases h with h|⟨xs,h,h1,h2⟩
  ·exact .inl h
  ·exact .inr ⟨xs,h,yC h1 hb,λx hx=>(h2 x hx).mono hb (by lia)⟩
def z9{b:Nat}:∀ {xs:List D},(∀x∈xs,PyData.canLay0 x=true/\x.depth<=k)->PyData.canLayAll0 xs=true/\PyData.depthAll xs<=k
 | [],_=>⟨by simp[PyData.canLayAll0],by simp[PyData.depthAll]⟩
 | x::xs,h=>by
  let⟨a,c⟩:=z9 (b:=b) (xs:=xs) λy hy=>h y (zC _ hy);let⟨a',c'⟩:=h x zE;exact⟨by simp[PyData.canLayAll0,a,a'],by simp[PyData.depthAll];lia⟩
def gm.lay:∀ {k:Nat}{d:D},gm b k d->PyData.canLay0 d=true/\d.depth<=k:=by
 have lf:∀ {k:Nat}{d:D},tj d->PyData.canLay0 d=true/\d.depth<=k:=λ{k d} h=>by
  cases d<;>simp?[tj] at h<;>first|exact⟨h,by simp[PyData.depth]⟩|exact⟨by simp[PyData.canLay0],by simp[PyData.depth]⟩
 intro k
 induction k with
 | zero=>exactλh=>lf h
 | succ k ih =>
  intro d h;rcases h with h|⟨xs,h,h1,h2⟩
  ·exact lf h
  ·let⟨a,c⟩:=z9 (b:=b) (xs:=xs) λy hy=>ih (h2 y hy);rcases h with rfl|rfl
   ·exact⟨by simp[PyData.canLay0,a],by simp[PyData.depth];lia⟩
   ·exact⟨by simp[PyData.canLay0,a],by simp[PyData.depth];lia⟩
def gm.shaped(h:gm b k d)(hk:k<=64):SeqAt.shaped d=true:=by
 let⟨a,c⟩:=h.lay;simp[SeqAt.shaped,a];lia
def gm.noDict(h:gm b k d):∀kv,d≠.dict kv:=by
 rintro kv rfl;have:=h.lay.1;simp[PyData.canLay0] at this
def iY:D->Bool|.dict _=>false|_=>true
def gm.nd(h:gm b k d):iY d=true:=by
 cases d<;>first|rfl|exact absurd rfl (h.noDict _)
def O9:D->Bool|.int _=>true|.bool _=>true|_=>false
def OU:D->Bool|.bool _=>true|_=>false
def IS:D->Bool|.tuple _=>true|_=>false
def kI(h:iY d=true):rJ (fK d) "int"=some (O9 d):=by cases d<;>first|cases h;done|exact HK _ (by simp[fK])
def kB(h:iY d=true):rJ (fK d) "bool"=some (OU d):=by cases d<;>first|cases h;done|exact E4 _ (by simp[fK])
def kT(h:iY d=true):rJ (fK d) "tuple"=some (IS d):=by cases d<;>first|cases h;done|exact kit_tuple _ (by simp[fK])
def whole(a b:Int):D->Bool|.int i=>decide (a<=i)&&decide (i<=b)|_=>false
def qh:∀ {ds:List D},(∀d∈ds,∃ρ',tgt ρ d=some ρ'/\te ρ'=some (h d))->e8 tgt (λ_=>some true) te ρ ds=some (ds.map h)
 | [],_=>rfl
 | d::ds,hh=>by
  let⟨ρ',h1,h2⟩:=hh d zE;have ih:=qh (ds:=ds) λy hy=>hh y (zC _ hy);unfold e8;rw[h1];simp[h2,ih]
def jo:∀ {ds:List D},(∀d∈ds,∃ρ',tgt ρ d=some ρ'/\tt ρ'=some (p d)/\(p d=true->te ρ'=some (h d)))->e8 tgt tt te ρ ds=some ((ds.filter p).map h)
 | [],_=>rfl
 | d::ds,hh=>by
  let⟨ρ',h1,h2,h3⟩:=hh d zE;have ih:=jo (ds:=ds) λy hy=>hh y (zC _ hy);unfold e8;rw[h1];simp?[zA,h2];cases hp:p d with
  | true=>rw[yJ rfl,h3 hp];simp[ih,jT,hp]
  | false=>simp[ih,jT,hp]
def lX:∀ds:List D,boolsOf (ds.map λd=>.bool (p d))=some (ds.map p)
 | []=>rfl
 | d::ds=>by simp[boolsOf,lX ds]
def j3(ds:List D):j4 [.list (ds.map λd=>.bool (p d))]=some (.bool (ds.all p)):=by
 simp?[j4,oneOf,zA,lX,zB,List.all_map];rfl
def bB(h:ds.length<=4000):small ds=some ds:=yJ (yC h (by decide))
def jz{ds:List D}{i:Nat}(h:i < ds.length):jj ds (i:Nat)=some (ds.getD i .none):=by
 have:=su (xs:=ds) (j:=i) (v:=ds[i]) (List.getElem?_eq_some_iff.mpr ⟨h,rfl⟩);rw[this];simp[List.getD,h]
def y0{ds:List D}(h:0 < ds.length):jj ds 0=some (ds.getD 0 .none):=jz (i:=0) h
def tZ{ds:List D}(h:1 < ds.length):jj ds 1=some (ds.getD 1 .none):=jz (i:=1) h
def Ig{ds:List D}(h:2 < ds.length):jj ds 2=some (ds.getD 2 .none):=jz (i:=2) h
end Dl
namespace Wm
open PySem L2 Dl PySem.Spec PyProof.Rows Pg
variable {x8 x9:Slot}{xh:aq->Option Str}
def ux(ha:fa ρ=some (.int a))(hb:fb ρ=some (.int i))(hc:fc ρ=some (.int b)):il sQ sQ fa fb fc ρ=some (.bool (decide (a<=i)&&decide (i<=b))):=by
 simp?[il,ha,hb,hc,zA,sQ,qt,xF];by_cases h:a<=i<;>simp[h]
def nh(i j:Int):Dl.ir (.int i) (.int j)=some (.int (i - j)):=rfl
def az(i j:Int):Dl.aw (.int i) (.int j)=some (.int (i+j)):=rfl
def yj(d:D):Slot.all (.val d)=some d:=rfl
def Al(ds:List D):Slot.all (.own ds)=some (.list ds):=rfl
def z8:Slot.all .Qb=none:=rfl
def xn(d:D):Slot.QK (.val d)=some d:=rfl
def yo(ds:List D):Slot.QK (.own ds)=none:=rfl
def Aa:Slot.QK .Qb=none:=rfl
local macro_rules|`(tactic| simp! [$ts,*])=>`(tactic| simp only[bo,av,fu,aO,eM,dk,ow,bK,fB,gB,IB,aa,fC,iP,Oq,Oj,MN,f1,f2,nh,az,ae,ag,ai,aW,lG,bD,c7,oneOf,fA,aG,yj,Al,z8,xn,yo,Aa,aZ,cm,bU,bc,cP,aC,  zI,yS,xD,xM,zL,xI,List.replicate,xO,yW,qE,kE,zA,Option.bind_none,zB,Option.map_none,Nat.reduceAdd,Nat.reduceSub,qZ,Nat.sub_self,xF,reduceIte,$ts,*])
def dF(h:iY d=true)(a b:Int):aU [d,.int a,.int b]=some (.bool (whole a b d)):=by
 simp! [aU,nR,kI h,kB h];cases d<;>simp[O9,OU,whole];rw[ux rfl rfl rfl]
def gY(h:iY d=true)(n:Int):cq [d,.int n]=some (.bool (whole 0 (n - 1) d)):=by
 simp! [cq,mr,dF h]
def long(a b:Int):D->Bool|.tuple ds=>decide (a<=(ds.length:Int))&&decide ((ds.length:Int)<=b)|_=>false
def dq(h:iY d=true)(a b:Int):bE [d,.int a,.int b]=some (.bool (long a b d)):=by
 simp! [bE,pV,kT h];cases d<;>simp[IS,long];rw[ux rfl (i:=_) rfl rfl]
def og:D->Int|.int i=>i|_=>0
def eD(h:whole a b d=true):d=.int (og d)/\a<=og d/\og d<=b:=by
 cases d<;>simp[whole] at h;exact⟨rfl,h⟩
def jb:∀ {ls:List D},ls.all (whole a b)=true->ls=(ls.map og).map PyData.int
 | [],_=>rfl
 | d::ls,h=>by
  rw[xQ,zF] at h;rw[zI,zI,<- (eD h.1).1,<- jb h.2]
def gw(n:Int):D->Bool|.tuple ls=>ls.all (whole 0 (n - 1))&&decide ((ls.map og).Nodup)|_=>false
def eX(i j:Int):aX (.int i) (.int j)=some (.bool (decide (i=j))):=by
 simp[aX,Fh,SeqAt.shaped,PyData.canLay0,PyData.depth,PyData.eqv];rfl
def uN(i j:Int):bN (.int i) (.int j)=some (.bool (!decide (i=j))):=by
 simp[bN,FH,SeqAt.shaped,PyData.canLay0,PyData.depth,PyData.eqv];rfl
def BG(h:ls.all (whole a b)=true)(hl:ls.length<=100):f2 aX (f1 iI (λ_=>some (.tuple ls))) (aW bD (ae (λ_=>some (.tuple ls)) ag)) []=some (.bool (decide ((ls.map og).Nodup))):=by
 have e:=jb h;have e1:iI (.tuple ls)=some (.int (many (ls.map og))):=by
  simp?[iI,kj]
  conv=>lhs;rw[e]
  rw[eR,zA,yJ];rw[zD];exact Nat.lt_of_le_of_lt (Nat.add_le_add_right hl 1) (by decide)
 simp! [e1,eX];have:=xc (ls.map og);rw[zD] at this;simp?[<- this,Int.ofNat_inj,Option.some.injEq,PyData.bool.injEq]
def LZ(r:Dl.Env)(d:D):fG 0 (none::r) d=some (some d::r):=by simp[fG,isFree]
def dm{cs:List Nat}(RA:fi ρ=some ds)(hl:ds.length<=4000)(hh:∀d∈ds,te (some d::cs.map λj=>(ρ[j]?).getD none)=some (h d)):ay 1 cs fi (fG 0) (λ_=>some true) te ρ=some (ds.map h):=by
 simp?[ay,RA,zA,iy,List.replicate,xD,xM];rw[qh (h:=h) λd hd=>⟨_,LZ _ d,hh d hd⟩,zA,bB (by rw[zD];exact hl)]
def qu{cs:List Nat}(RA:fi ρ=some ds)(hl:ds.length<=4000)
  (hp:∀d∈ds,tt (some d::cs.map λj=>(ρ[j]?).getD none)=some (p d)) (hh:∀d∈ds,p d=true->te (some d::cs.map λj=>(ρ[j]?).getD none)=some (h d)):ay 1 cs fi (fG 0) tt te ρ=some ((ds.filter p).map h):=by
 simp?[ay,RA,zA,iy,List.replicate,xD,xM];rw[jo (p:=p) (h:=h) λd hd=>⟨_,LZ _ d,hp d hd,hh d hd⟩,zA,bB (by rw[zD];exact yC (xN _ _) hl)]
def uJ(h:gm b k d)(hb:b<=100)(n:Int):fF [d,.int n]=some (.bool (gw n d)):=by
 simp! [fF,lZ,kT h.nd];cases d<;>try (simp[IS,gw];done)
 rename_i ls;let⟨j,rfl,hl,hf⟩:=h.QE;have c:=dm (cs:=[1]) (fi:=aZ (aa 0)) (te:=(ai 2 cq (ae (aa 0) (ae (aa 1) ag)))) (h:=λx=>.bool (whole 0 (n - 1) x)) (ρ:=[some (.tuple ls),some (.int n)]) rfl (by lia) λx hx=>by simp! [gY (hf x hx).nd]
 simp! [IS,xW,yM,c,j3];cases e:ls.all (whole 0 (n - 1)) with
 | false=>simp[gw,e]
 | true =>
  have:=BG e (yC hl hb);simp?[f2,f1,aW,ae,ag,zA,zB] at this;simp! [gw,e,xW,yM,jH];simp?[bD,c7,oneOf,zA,fA,zB] at this;simp! [this]
def placeOk(n:Int):D->Bool|.tuple ds=>decide (ds.length=2)&&(whole 0 9 (ds.getD 0 .none)&&gw n (ds.getD 1 .none))|_=>false
def gN(g t:Int):D->Bool|.tuple ds=>decide (ds.length=3)&&(whole 0 (g - 1) (ds.getD 0 .none)&&(whole 0 (t - 1) (ds.getD 1 .none)&&whole 1 9 (ds.getD 2 .none)))|_=>false
def rA(n:Nat)(ds:List D):long (n:Int) (n:Int) (.tuple ds)=decide (ds.length=n):=by
 simp?[long];by_cases h:ds.length=n
 ·simp[h]
 ·rw[zY h,Bool.and_eq_false_iff,yZ,yZ];lia
def getD_mem{ds:List D}{i:Nat}(h:i < ds.length):ds.getD i .none∈ds:=by simp[List.getD,h]
def tM{b:Nat}(h:gm b k d)(hb:b<=100)(n:Int):eF [d,.int n]=some (.bool (placeOk n d)):=by
 simp! [eF,uc,dq h.nd];cases d<;>try (simp[long,placeOk];done)
 rename_i ds;let⟨j,rfl,hl,hf⟩:=h.QE;rw[show long 2 2 (.tuple ds)=decide (ds.length=2) from rA 2 ds];by_cases e:ds.length=2
 ·have f0:=hf _ (getD_mem (i:=0) (by lia));have f1:=hf _ (getD_mem (i:=1) (by lia));simp! [e,jM,y0 (show 0 < ds.length by lia),tZ (show 1 < ds.length by lia),dF f0.nd,uJ f1 hb,placeOk];cases whole 0 9 (ds.getD 0 .none)<;>simp
 ·simp[e,placeOk]
def Cm{b:Nat}(h:gm b k d)(hb:b<=100)(g t:Int):ix [d,.int g,.int t]=some (.bool (gN g t d)):=by
 simp! [ix,uv,dq h.nd];cases d<;>try (simp[long,gN];done)
 rename_i ds;let⟨j,rfl,hl,hf⟩:=h.QE;rw[show long 3 3 (.tuple ds)=decide (ds.length=3) from rA 3 ds];by_cases e:ds.length=3
 ·have f0:=hf _ (getD_mem (i:=0) (by lia));have f1:=hf _ (getD_mem (i:=1) (by lia));have RY:=hf _ (getD_mem (i:=2) (by lia));simp! [e,jM,xW,yM,y0 (show 0 < ds.length by lia),tZ (show 1 < ds.length by lia),Ig (show 2 < ds.length by lia),dF RY.nd,gY f0.nd,gY f1.nd,gN];cases whole 0 (g - 1) (ds.getD 0 .none)<;>cases whole 0 (t - 1) (ds.getD 1 .none)<;>simp
 ·simp[e,gN]
def cG:D->List D|.tuple ds=>ds|_=>[]
def lj(d:D):Bool:=long 1 4 d
def gM(g t w:D):Bool:=lj g&&(lj t&&((cG g).all (placeOk (cG t).length)&&((cG t).all (placeOk (cG g).length)&&(IS w&&(cG w).all (gN (cG g).length (cG t).length)))))
def ik(h:long a b d=true):d=.tuple (cG d):=by cases d<;>first|rfl|cases h
def ma(hg:gm b k g)(ht:gm b k t)(hw:gm b k w)(hb:b<=100):fI [g,t,w]=some (.bool (gM g t w)):=by
 simp! [fI,mf,dq hg.nd,dq ht.nd,kT hw.nd];unfold gM lj;cases e1:long 1 4 g with
 | false=>simp
 | true =>
  cases e2:long 1 4 t with
  | false=>simp
  | true =>
   obtain⟨gs,rfl⟩:∃gs,g=.tuple gs:=⟨_,ik e1⟩
   obtain⟨ts,rfl⟩:∃ts,t=.tuple ts:=⟨_,ik e2⟩
   let⟨j,rfl,hgl,hgf⟩:=hg.QE;let⟨j',hj,htl,htf⟩:=ht.QE;have c1:=dm (cs:=[1]) (fi:=aZ (aa 0)) (te:=(ai 2 eF (ae (aa 0) (ae (aW bD (ae (aa 1) ag)) ag)))) (h:=λx=>.bool (placeOk ts.length x)) (ρ:=[some (.tuple gs),some (.tuple ts),some w]) rfl (by lia) λx hx=>by simp! [tM (hgf x hx) hb]
   have c2:=dm (cs:=[0]) (fi:=aZ (aa 1)) (te:=(ai 2 eF (ae (aa 0) (ae (aW bD (ae (aa 1) ag)) ag)))) (h:=λx=>.bool (placeOk gs.length x)) (ρ:=[some (.tuple gs),some (.tuple ts),some w]) rfl (by lia) λx hx=>by simp! [tM (htf x hx) hb]
   simp! [xW,yM,c1,j3,cG,jH];cases e3:gs.all (placeOk ts.length) with
   | false=>simp
   | true =>
    simp! [xW,yM,c2,j3,jH];cases e4:ts.all (placeOk gs.length) with
    | false=>simp
    | true =>
     cases hT:IS w with
     | false=>simp! [xW,yM,kT hw.nd,hT,vJ,kK]
     | true =>
     obtain⟨ws,rfl⟩:∃ws,w=.tuple ws:=by cases w<;>first|exact⟨_,rfl⟩|cases hT
     let⟨j2,hj2,Tu,hwf⟩:=hw.QE;have c3:=dm (cs:=[0,1]) (fi:=aZ (aa 2)) (te:=(ai 3 ix (ae (aa 0) (ae (aW bD (ae (aa 1) ag)) (ae (aW bD (ae (aa 2) ag)) ag))))) (h:=λx=>.bool (gN gs.length ts.length x)) (ρ:=[some (.tuple gs),some (.tuple ts),some (.tuple ws)]) rfl (by lia) λx hx=>by simp! [Cm (hwf x hx) hb]
     simp! [xW,yM,c3,j3,jH,kT hw.nd,IS]
def oH:∀ (a b:List Int),PyData.eqvAll (a.map PyData.int) (b.map PyData.int)=decide (a=b)
 | [],[]=>by simp[PyData.eqvAll]
 | [],_::_=>by simp[PyData.eqvAll]
 | _::_,[]=>by simp[PyData.eqvAll]
 | i::a,j::b=>by
  rw[zI,zI,PyData.eqvAll,oH a b];by_cases h:i=j
  ·subst h;simp[PyData.eqv]
  ·simp[PyData.eqv,h]
def uX:∀ (a b:List (List Int)),PyData.eqvAll (a.map ao) (b.map ao)=decide (a=b)
 | [],[]=>by simp[PyData.eqvAll]
 | [],_::_=>by simp[PyData.eqvAll]
 | _::_,[]=>by simp[PyData.eqvAll]
 | x::a,y::b=>by
  rw[zI,zI,PyData.eqvAll,uX a b,ao,ao,PyData.eqv,oH];by_cases h:x=y
  ·subst h;simp
  ·simp[h]
def iD(i:Int):gm b k (.int i):=.leaf trivial
def yd(h:r.length<=b):gm b (k+1) (ao r):=.tup (by rw[zD];exact h) λx hx=>by
 let⟨i,_,rfl⟩:=List.mem_map.mp hx;exact iD i
def Er{b k:Nat}{a:List (List Int)}(h:a.length<=b)(hr:∀r∈a,r.length<=b):gm b (k+2) (.list (a.map ao)):=.lst (by rw[zD];exact h) λx hx=>by
 let⟨r,Rm,rfl⟩:=List.mem_map.mp hx;exact yd (hr r Rm)
def AQ(a:List (List Int)):∃b,a.length<=b/\∀r∈a,r.length<=b:=by
 induction a with
 | nil=>exact⟨0,yK _,λr h=>by cases h⟩
 | cons x a ih =>
  let⟨b,h1,h2⟩:=ih;refine⟨b+1+x.length,by rw[zL];lia,λr hr=>?_⟩;rcases List.mem_cons.mp hr with rfl|hr
  ·lia
  ·have:=h2 r hr;lia
def tE(a:List (List Int)):SeqAt.shaped (.list (a.map ao))=true:=by
 let⟨b,h1,h2⟩:=AQ a;exact (Er (b:=b) (k:=0) h1 h2).shaped (by decide)
def Bf(a b:List (List Int)):aX (.list (a.map ao)) (.list (b.map ao))=some (.bool (decide (a=b))):=by
 simp?[aX,Fh,tE,jL,xF,PyData.eqv,uX,zB]
def iq(d:D):List Int:=(cG ((cG d).getD 1 .none)).map og
def gH(h:placeOk n d=true):∃a ds,d=.tuple ds/\ds.length=2/\ds.getD 0 .none=.int a/\0<=a/\a<=9/\ds.getD 1 .none=.tuple ((iq d).map PyData.int)/\(iq d).Nodup/\∀j∈iq d,0<=j/\j<=n - 1:=by
 cases d<;>simp?[placeOk] at h<;>try cases h
 rename_i ds;simp?[zF,zJ] at h;let⟨h1,h2,h3⟩:=h;have e:iq (.tuple ds)=(cG (ds.getD 1 .none)).map og:=rfl;rw[e];generalize hl:ds.getD 1 .none=l at h3;cases l<;>simp?[gw] at h3<;>try cases h3
 rename_i ls;simp?[zF,zJ] at h3;let⟨w1,w2,w3⟩:=eD h2;refine⟨_,ds,rfl,h1,w1,w2,w3,?_,h3.2,λj hj=>?_⟩
 ·rw[show cG (.tuple ls)=ls from rfl,<- jb h3.1];exact hl
 ·let⟨x,hx,rfl⟩:=List.mem_map.mp hj;exact (eD (List.all_eq_true.mp h3.1 x hx)).2
def jm(k:Nat):List D->List (List Int)|[]=>[]|p::ps=>(iq p).map (λj=>[((k:Nat):Int),j])++jm (k+1) ps
def nS:∀ (n:Nat) {l:List Int},l.Nodup->(∀j∈l,0<=j/\j<=(n:Int) - 1)->l.length<=n:=by
 intro n l hn h;have hs:l.map Int.toNat ⊆ List.range n:=λx hx=>by
  let⟨j,hj,rfl⟩:=List.mem_map.mp hx;have:=h j hj;exact List.mem_range.mpr (by lia)
 have Ro:(l.map Int.toNat).Nodup:=by
  refine List.pairwise_map.mpr (hn.imp_of_mem λ{x y} hx hy QT e=>QT ?_);have:=h x hx;have:=h y hy;lia
 have:=List.Nodup.length_le_of_subset Ro hs;simpa using this
def rP{n:Nat}:∀ {ps:List D}{k:Nat},(∀p∈ps,placeOk n p=true)->(jm k ps).length<=ps.length * n
 | [],k,_=>xS _
 | p::ps,k,h=>by
  let⟨_,_,_,_,_,_,_,_,hn,hr⟩:=gH (h p zE);have h1:=nS n hn hr;have h2:=rP (ps:=ps) (k:=k+1) λq hq=>h q (zC _ hq);rw[jm,zN,zD,zL,Nat.succ_mul];lia
def pB:aq->Option Out:=AB 1 [2,3] (ay 1 [2] (aZ (f2 aC (aa 3) (fC (.int 1)))) (fG 0) (λ_=>some true) (bc (ae (aa 1) (ae (aa 0) ag))))
def Kw{n:Nat}{p:D}{acc:List D}(hp:placeOk n p=true)(hn:n<=100)(ha:acc.length<=1000):pB [.val x,.own acc,.val (.int (k:Nat)),.val p]=some (.nx [.val x,.own (acc++((iq p).map λj=>ao [((k:Nat):Int),j])),.val (.int (k:Nat)),.val p]):=by
 let⟨a,ds,rfl,hl,_,_,_,h1,Ro,hr⟩:=gH hp;have hb:=nS n Ro hr;generalize iq (.tuple ds)=ls at *;have c:=dm (cs:=[2]) (fi:=aZ (f2 aC (aa 3) (fC (.int 1)))) (te:=bc (ae (aa 1) (ae (aa 0) ag))) (h:=λy=>.tuple [.int (k:Nat),y]) (ρ:=[some x,none,some (.int (k:Nat)),some (.tuple ds)]) (ds:=ls.map PyData.int)
  (by simp! [tZ (show 1 < ds.length by lia),h1]) (by rw[zD];lia) λy hy=>by
   simp! [bB (show [PyData.int (k:Nat),y].length<=4000 by simp)]
 have hh:hand [2,3] 0 [Slot.val x,.own acc,.val (.int (k:Nat)),.val (.tuple ds)]=[Slot.val x,.own acc,.val (.int (k:Nat)),.val (.tuple ds)]:=rfl;simp?[pB,AB,hh,aY,zI,yS,Slot.QK,c,zA,pb,yW,xO];rw[yJ]
 ·simp?[zB,yU,yT,zM];rfl
 ·simp?[zD];exact yC (show acc.length+ls.length<=1100 by lia) (by decide)
def qr{n:Nat}(hn:n<=100):∀ {ps:List D}{k:Nat}{acc:List D}{s2 s3:Slot},(∀p∈ps,placeOk n p=true)->acc.length+ps.length * n<=1000 ->
  ∃t2 t3,cC (iQ 2 3) pB (cY k ps) [.val x,.own acc,s2,s3]=some (.nx [.val x,.own (acc++(jm k ps).map ao),t2,t3])
 | [],k,acc,s2,s3,_,_=>⟨s2,s3,by simp[cY,cC,jm]⟩
 | p::ps,k,acc,s2,s3,h,hl=>by
  have hp:=h p zE;let⟨_,_,_,_,_,_,_,_,Ro,hr⟩:=gH hp;have hb:=nS n Ro hr;rw[zL,Nat.succ_mul] at hl;let⟨t2,t3,e⟩:=qr hn (x:=x) (ps:=ps) (k:=k+1) (acc:=acc++((iq p).map λj=>ao [((k:Nat):Int),j])) (s2:=.val (.int (k:Nat))) (s3:=.val p) (λq hq=>h q (zC _ hq)) (by rw[zN,zD];lia);refine⟨t2,t3,?_⟩;have hs:iQ 2 3 [.val x,.own acc,s2,s3] (.tuple [.int (k:Nat),p])=some [.val x,.own acc,.val (.int (k:Nat)),.val p]:=rfl;simp?[cY,cC,hs,zA,Kw hp hn (show acc.length<=1000 by lia)];rw[e];simp[jm,zM,vW]
def xq{n:Nat}{ps:List D}(h:∀p∈ps,placeOk n p=true)(hn:n<=100)(hl:ps.length * n<=1000):bq [.tuple ps]=some (.list ((jm 0 ps).map ao)):=by
 let⟨t2,t3,e⟩:=qr hn (x:=.tuple ps) (k:=0) (acc:=[]) (s2:=.Qb) (s3:=.Qb) h (by simpa using hl);have hs:aS 1 [] (cP ag) [Slot.val (.tuple ps),.Qb,.Qb,.Qb]=some (.nx [.val (.tuple ps),.own [],.Qb,.Qb]):=rfl;have hh:hand [0] 0 [Slot.val (.tuple ps),.own [],.Qb,.Qb]=[Slot.val (.tuple ps),.own [],.Qb,.Qb]:=rfl;have hf:cE (ae (aa 0) ag) (aY [Slot.val (.tuple ps),.own [],.Qb,.Qb])=some (cY 0 ps):=rfl;simp! [bq,iZ,hs,dh,hh,hf];rw[show AB 1 [2,3] (ay 1 [2] (aZ (f2 aC (aa 3) (fC (.int 1)))) (fG 0) (λ_=>some true) (bc (ae (aa 1) (ae (aa 0) ag))))=pB from rfl,e];simp! []
def d8(d:D):List Int:=[og ((cG d).getD 0 .none),og ((cG d).getD 1 .none)]
def wa(h:gN g t d=true):∃ds c,d=.tuple ds/\ds.length=3/\ds.getD 0 .none=.int (og (ds.getD 0 .none))/\ds.getD 1 .none=.int (og (ds.getD 1 .none))/\ds.getD 2 .none=.int c/\1<=c/\c<=9 /\
  0<=og (ds.getD 0 .none)/\og (ds.getD 0 .none)<=g - 1/\0<=og (ds.getD 1 .none)/\og (ds.getD 1 .none)<=t - 1:=by
 cases d<;>simp?[gN] at h<;>try cases h
 rename_i ds;simp?[zF,zJ] at h;let⟨h1,h2,h3,h4⟩:=h;have a:=eD h2;have b:=eD h3;have c:=eD h4;exact⟨ds,_,rfl,h1,a.1,b.1,c.1,c.2.1,c.2.2,a.2.1,a.2.2,b.2.1,b.2.2⟩
def u7(g t w:D):Bool:=decide ((cG w).map d8=oO (jm 0 (cG g)))&&decide ((cG w).map d8=oO ((jm 0 (cG t)).map List.reverse))
def NA(d:D):Bool:=long 3 3 d&&(gM ((cG d).getD 0 .none) ((cG d).getD 1 .none) ((cG d).getD 2 .none)&&u7 ((cG d).getD 0 .none) ((cG d).getD 1 .none) ((cG d).getD 2 .none))
def iK:∀ {ps:List D}{k:Nat},∀r∈jm k ps,∃i j,r=[i,j]
 | [],k,r,h=>by cases h
 | p::ps,k,r,h=>by
  rcases List.mem_append.mp h with h|h
  ·let⟨j,_,rfl⟩:=List.mem_map.mp h;exact⟨_,_,rfl⟩
  ·exact iK r h
def j6(h:∀r∈a,∃i j,r=[i,j])(hl:a.length < 64):fy [.list (a.map ao)]=some ((oO a).map ao):=by
 have:∀ns∈a,ns≠[]:=λns hn=>by let⟨i,j,rfl⟩:=h ns hn;exact List.cons_ne_nil _ _
 simp?[fy,oneOf,zA,nc this,yJ hl]
def pR:∀ {a:List (List Int)},(∀r∈a,∃i j,r=[i,j])->e8 (k6 0 1) (λ_=>some true) (bc (ae (aa 1) (ae (aa 0) ag))) [none,none] (a.map ao)=some ((a.map List.reverse).map ao)
 | [],_=>rfl
 | r::a,h=>by
  let⟨i,j,rfl⟩:=h r zE;have ih:=pR (a:=a) λq hq=>h q (zC _ hq);have e:k6 0 1 [none,none] (ao [i,j])=some [some (.int i),some (.int j)]:=rfl;rw[zI,e8,e,zA,zA,yJ rfl,ih];simp! [bB (show [PyData.int j,.int i].length<=4000 by simp)];rfl
def BA{a:List (List Int)}(RA:fi ρ=some (a.map ao))(hl:a.length<=4000)(h:∀r∈a,∃i j,r=[i,j]):ay 2 [] fi (k6 0 1) (λ_=>some true) (bc (ae (aa 1) (ae (aa 0) ag))) ρ=some ((a.map List.reverse).map ao):=by
 simp?[ay,RA,zA,iy,List.replicate,xD,xM,yS];rw[pR h,zA,bB (by rw[zD,zD];exact hl)]
def uK(h:gM g t w=true):∃gs ts ws,g=.tuple gs/\t=.tuple ts/\w=.tuple ws/\1<=gs.length/\gs.length<=4/\1<=ts.length/\ts.length<=4/\(∀p∈gs,placeOk ts.length p=true)/\(∀p∈ts,placeOk gs.length p=true)/\∀x∈ws,gN gs.length ts.length x=true:=by
 simp?[gM,lj,zF] at h;let⟨h1,h2,h3,h4,h5,h6⟩:=h;cases w<;>try cases h5
 rename_i ws;have e1:=ik h1;have e2:=ik h2;generalize cG g=gs at *;generalize cG t=ts at *;subst e1 e2;simp?[long,zF,zJ] at h1 h2;exact⟨gs,ts,ws,rfl,rfl,rfl,by lia,by lia,by lia,by lia,List.all_eq_true.mp h3,List.all_eq_true.mp h4,List.all_eq_true.mp h6⟩
def nU{b:Nat}(h:gm b k d)(hb:b<=100):bP [d]=some (.bool (NA d)):=by
 unfold NA;cases e1:long 3 3 d with
 | false=>simp! [bP,gK,dq h.nd,e1,Bool.not_false,vJ]
 | true =>
  obtain⟨ds,rfl⟩:∃ds,d=.tuple ds:=⟨_,ik e1⟩
  let⟨j,rfl,hl,hf⟩:=h.QE;rw[show long 3 3 (.tuple ds)=decide (ds.length=3) from rA 3 ds,zJ] at e1;have f0:=hf _ (getD_mem (i:=0) (by lia));have f1:=hf _ (getD_mem (i:=1) (by lia));have RY:=hf _ (getD_mem (i:=2) (by lia));have i0:=y0 (show 0 < ds.length by lia);have i1:=tZ (show 1 < ds.length by lia);have i2:=Ig (show 2 < ds.length by lia);have el:bE [.tuple ds,.int 3,.int 3]=some (.bool true):=by rw[dq rfl,show long 3 3 (.tuple ds)=decide (ds.length=3) from rA 3 ds,zZ e1]
  rw[show cG (.tuple ds)=ds from rfl,jH];generalize hg:ds.getD 0 .none=g at *;generalize ht:ds.getD 1 .none=t at *;generalize hw:ds.getD 2 .none=w at *;cases e2:gM g t w with
  | false=>simp! [bP,gK,el,i0,i1,i2,ma f0 f1 RY hb,e2,Bool.not_false,xW,vJ]
  | true =>
   let⟨gs,ts,ws,rfl,rfl,rfl,g1,g4,t1,t4,hG,hT,hW⟩:=uK e2;have hfw:=RY.QE;let⟨j2,_,Tu,_⟩:=hfw;have q1:=rP (k:=0) hG;have q2:=rP (k:=0) hT;have m1:gs.length * ts.length<=16:=vI g4 t4;have m2:ts.length * gs.length<=16:=vI t4 g4;have l1:=xq hG (by lia) (by lia);have l2:=xq hT (by lia) (by lia);have s1:=j6 (a:=jm 0 gs) iK (by lia);have s2:=j6 (a:=(jm 0 ts).map List.reverse) (λr hr=>by
    let⟨q,hq,rfl⟩:=List.mem_map.mp hr;let⟨i,j,rfl⟩:=iK q hq;exact⟨j,i,rfl⟩) (by rw[zD];lia)
   have c1:ay 1 [] (aZ (f2 aC (aa 0) (fC (.int 2)))) (fG 0) (λ_=>some true) (bc (ae (f2 aC (aa 0) (fC (.int 0))) (ae (f2 aC (aa 0) (fC (.int 1))) ag))) [some (.tuple ds),none,none,none]=some ((ws.map d8).map ao):=by
    rw[dm (ds:=ws) (h:=λx=>ao (d8 x)) (by simp! [i2]) (by lia) λx hx=>?_,zM]
    ·rfl
    ·let⟨vs,c,rfl,v3,v0,v1,_⟩:=wa (hW x hx);simp! [y0 (show 0 < vs.length by lia),tZ (show 1 < vs.length by lia),bB (show [vs.getD 0 PyData.none,vs.getD 1 .none].length<=4000 by simp),ao,d8,cG];rw[<- v0,<- v1]
   have c2:∀x y z,ay 2 [] (aZ (ai 1 bq (ae (f2 aC (aa 0) (fC (.int 1))) ag))) (k6 0 1) (λ_=>some true) (bc (ae (aa 1) (ae (aa 0) ag))) [some (.tuple ds),x,y,z]=some (((jm 0 ts).map List.reverse).map ao):=λx y z =>
    BA (by simp! [i1,l2]) (by lia) iK
   have SU:aS 1 [0] (ay 1 [] (aZ (f2 aC (aa 0) (fC (.int 2)))) (fG 0) (λ_=>some true) (bc (ae (f2 aC (aa 0) (fC (.int 0))) (ae (f2 aC (aa 0) (fC (.int 1))) ag)))) [Slot.val (.tuple ds),.Qb,.Qb,.Qb]=some (.nx [.val (.tuple ds),.own ((ws.map d8).map ao),.Qb,.Qb]):=by
    have hh:hand [0] 0 [Slot.val (.tuple ds),.Qb,.Qb,.Qb]=[Slot.val (.tuple ds),.Qb,.Qb,.Qb]:=rfl;simp?[aS,hh,aY,zI,yS,Slot.QK,c1,zB,yU,yT]
   have Sh:aS 2 [0] (lG fy (ae (ai 1 bq (ae (f2 aC (aa 0) (fC (.int 0))) ag)) ag)) [Slot.val (.tuple ds),.own ((ws.map d8).map ao),.Qb,.Qb]=some (.nx [.val (.tuple ds),.own ((ws.map d8).map ao),.own ((oO (jm 0 gs)).map ao),.Qb]):=by
    have hh:hand [0] 0 [Slot.val (.tuple ds),.own ((ws.map d8).map ao),.Qb,.Qb]=[Slot.val (.tuple ds),.own ((ws.map d8).map ao),.Qb,.Qb]:=rfl;simp?[aS,hh,aY,zI,yS,Slot.QK];simp! [i0,l1,s1,yU,yT]
   have SM:aS 3 [0] (lG fy (ae (cm (ay 2 [] (aZ (ai 1 bq (ae (f2 aC (aa 0) (fC (.int 1))) ag))) (k6 0 1) (λ_=>some true) (bc (ae (aa 1) (ae (aa 0) ag))))) ag)) [Slot.val (.tuple ds),.own ((ws.map d8).map ao),.own ((oO (jm 0 gs)).map ao),.Qb]
      =some (.nx [.val (.tuple ds),.own ((ws.map d8).map ao),.own ((oO (jm 0 gs)).map ao),.own ((oO ((jm 0 ts).map List.reverse)).map ao)]):=by
    have hh:hand [0] 0 [Slot.val (.tuple ds),.own ((ws.map d8).map ao),.own ((oO (jm 0 gs)).map ao),.Qb]=[Slot.val (.tuple ds),.own ((ws.map d8).map ao),.own ((oO (jm 0 gs)).map ao),.Qb]:=rfl;simp?[aS,hh,aY,zI,yS,Slot.QK];simp! [c2,s2,yU,yT]
   simp! [bP,gK,el,i0,i1,i2,ma f0 f1 RY hb,e2,xW,yM,SU,Sh,SM,Bf,u7,cG,jH];by_cases hq:List.map d8 ws=oO (jm 0 gs)<;>simp[hq]
def oJ(xs:List D):PyData.eqvAll xs []=xs.isEmpty:=by cases xs<;>simp[PyData.eqvAll]
def wK:SeqAt.shaped (.list [])=true:=by simp[SeqAt.shaped,PyData.canLay0,PyData.canLayAll0,PyData.depth,PyData.depthAll]
def DD(h:∀x∈xs,gm b k x)(hk:k<=60):aX (.list xs) (.list [])=some (.bool xs.isEmpty):=by
 have hs:SeqAt.shaped (.list xs)=true:=(gm.lst (b:=max b xs.length) (k:=k) (Nat.le_max_right _ _) λx hx=>(h x hx).mono (Nat.le_max_left _ _) (yK _)).shaped (by lia);simp?[aX,Fh,hs,wK,jL,xF,PyData.eqv,oJ,zB]
def qd:small []=some []:=rfl
def BO(xs:List α)(k:Nat):cut xs none (some (k:Int))=xs.take k:=by
 simp?[cut,HT.tU,HT.yz,List.drop_zero,Nat.sub_zero];rw[List.take_eq_take_iff];lia
def EC(xs:List α)(k:Nat):cut xs (some (k:Int)) none=xs.drop k:=by
 simp?[cut,HT.tU,HT.yz];rw[kA (by rw[qF];lia)];by_cases h:k<=xs.length
 ·rw[Nat.min_eq_left h]
 ·rw[Nat.min_eq_right (by lia),List.drop_of_length_le (yK _),List.drop_of_length_le (by lia)]
def HJ(b:Bool):gB (.bool b)=some b:=rfl
def m9:∀ {ps:List D}{k:Nat}{i j:Int},[i,j]∈jm k ps↔∃m p,ps[m]?=some p/\i=((k+m:Nat):Int)/\j∈iq p
 | [],k,i,j=>by simp[jm]
 | p::ps,k,i,j=>by
  rw[jm,List.mem_append,m9 (ps:=ps)];constructor
  ·rintro (h|⟨m,q,h1,h2,h3⟩)
   ·let⟨y,hy,e⟩:=List.mem_map.mp h;injection e with e1 e2
    injection e2 with e2 _
    exact⟨0,p,rfl,by simpa using e1.symm,e2 ▸ hy⟩
   ·exact⟨m+1,q,by simpa using h1,by rw[h2];congr 1;lia,h3⟩
  ·rintro⟨m,q,h1,h2,h3⟩;cases m with
   | zero =>
    simp at h1;subst h1;exact .inl (List.mem_map.mpr ⟨j,h3,by rw[h2];rfl⟩)
   | succ m=>exact .inr ⟨m,q,by simpa using h1,by rw[h2];congr 1;lia,h3⟩
def pM:∀ {ps:List D}{k:Nat},(∀p∈ps,(iq p).Nodup)->(jm k ps).Nodup
 | [],k,_=>List.nodup_nil
 | p::ps,k,h=>by
  rw[jm,List.nodup_append];refine⟨List.pairwise_map.mpr ((h p zE).imp λQT e=>QT ?_),pM λq hq=>h q (zC _ hq),?_⟩;rotate_left
  ·injection e with _ e2
   injection e2
  ·rintro a ha b hb rfl;let⟨y,hy,rfl⟩:=List.mem_map.mp ha;let⟨m,q,h1,h2,h3⟩:=m9.mp hb;lia
def ME(h:Dl.lexLt a b=true):lexLe a b=true:=by
 unfold lexLe;cases e:Dl.lexLt b a with
 | false=>rfl
 | true=>have:=dC h e;rw[eL] at this;cases this
def eW(h:oW i j):Dl.ft (.int i) (.int j)=some (.int (i * j)):=by
 simp?[Dl.ft,qt,yJ h,Option.some_or]
def fZ(h:0 < j):Dl.jd (.int i) (.int j)=some (.int (i % j)):=yJ h
def gZ(h:0 < j/\j < 1073741824):Dl.la (.int i) (.int j)=some (.int (i / j)):=yJ h
def Ak(i j:Int):Dl.D1 (.int i) (.int j)=some (.bool (decide (j < i))):=rfl
def lh(h:-(2 ^ 64) < i/\i < 2 ^ 64):oW i j:=.inl h
def Kj(h:-(2 ^ 64) < j/\j < 2 ^ 64):oW i j:=.inr h
def ED(i:Int):Dl.lM (.int i)=true:=rfl
def gT(ns:List Int):D:=.list (ns.map PyData.int)
def Lh(k:Int)(hl:ns.length<=63):∃c,dM [gT ns,.int k]=some (.int c):=by
 have heq:aX (.list (ns.map PyData.int)) (.list [])=some (.bool ns.isEmpty):=by
  have:=DD (b:=0) (k:=0) (xs:=ns.map PyData.int) (λx hx=>by let⟨i,_,rfl⟩:=List.mem_map.mp hx;exact iD i) (by decide);rw[this];cases ns<;>rfl
 by_cases hn:ns=[]
 ·subst hn;refine⟨7 * k,?_⟩;rw[yS,List.isEmpty_nil] at heq;simp! [dM,g8,gT,qd,heq,List.isEmpty_nil,eW (lh (i:=7) (j:=k) (by decide))]
 ·have SJ:(0:Int) < (ns.length:Int):=by have:=List.length_pos_iff.mpr hn;lia
  have he:ns.isEmpty=false:=by cases ns<;>first|rfl|exact absurd rfl hn
  let⟨j,hj⟩:=kW (vE k (show (ns.length:Int)≠0 by lia));have QL:=kM k SJ;have hx:jj (ns.map PyData.int) (k % (ns.length:Int))=some (.int (ns.getD j 0)):=by
   rw[hj];have:j < (ns.map PyData.int).length:=by rw[zD];lia
   rw[jz this,zG,zO,zG];rw[zK (by lia)];rfl
  refine⟨ns.getD j 0+6553 * (k / (ns.length:Int)),?_⟩;simp! [dM,g8,gT,qd,heq,he,yM,zD,fZ SJ,hx,gZ (i:=k) (j:=(ns.length:Int)) ⟨SJ,by lia⟩,eW (lh (i:=6553) (j:=k / (ns.length:Int)) (by decide))]
def FL(k many:Int)(hl:ns.length<=63)(hm:0 < many):∃r,ak [gT ns,.int k,.int many]=some (.int r)/\0<=r/\r < many:=by
 let⟨c,hc⟩:=Lh k hl;have m1:∀i:Int,Dl.jd (.int i) (.int 2147483563)=some (.int (i % 2147483563)):=λi=>fZ (by decide);have m2:∀i:Int,Dl.jd (.int i) (.int 2147483399)=some (.int (i % 2147483399)):=λi=>fZ (by decide);have m3:∀i:Int,Dl.jd (.int i) (.int 2147483647)=some (.int (i % 2147483647)):=λi=>fZ (by decide);have d1:∀i:Int,Dl.la (.int i) (.int 3)=some (.int (i / 3)):=λi=>gZ (by decide);have d2:∀i:Int,Dl.la (.int i) (.int 7)=some (.int (i / 7)):=λi=>gZ (by decide);have d3:∀i:Int,Dl.la (.int i) (.int 11)=some (.int (i / 11)):=λi=>gZ (by decide);have u1:∀i:Int,Dl.ft (.int i) (.int 69069)=some (.int (i * 69069)):=λi=>eW (Kj (by decide));have u2:∀i:Int,Dl.ft (.int 104723) (.int i)=some (.int (104723 * i)):=λi=>eW (lh (by decide));have b1:∀x:Int,Dl.ft (.int (x % 2147483563)) (.int (x % 2147483563))=some (.int (x % 2147483563 * (x % 2147483563))):=λx=>eW (lh (by
  have:=vE x (show (2147483563:Int)≠0 by decide);have:=kM x (show (0:Int) < 2147483563 by decide);lia))
 have b2:∀x:Int,Dl.ft (.int (x % 2147483399)) (.int (x % 2147483399))=some (.int (x % 2147483399 * (x % 2147483399))):=λx=>eW (lh (by
  have:=vE x (show (2147483399:Int)≠0 by decide);have:=kM x (show (0:Int) < 2147483399 by decide);lia))
 suffices h:∃x,ak [gT ns,.int k,.int many]=some (.int (x % many)) by
  let⟨x,hx⟩:=h;exact⟨_,hx,vE x (show many≠0 by lia),kM x hm⟩
 ·refine⟨(((((c % 2147483563 * 69069+104723 * (k+1)) % 2147483563) * ((c % 2147483563 * 69069+104723 * (k+1)) % 2147483563)+((c % 2147483563 * 69069+104723 * (k+1)) % 2147483563) / 3) % 2147483399) * ((((c % 2147483563 * 69069+104723 * (k+1)) % 2147483563) * ((c % 2147483563 * 69069+104723 * (k+1)) % 2147483563)+((c % 2147483563 * 69069+104723 * (k+1)) % 2147483563) / 3) % 2147483399)+((((c % 2147483563 * 69069+104723 * (k+1)) % 2147483563) * ((c % 2147483563 * 69069+104723 * (k+1)) % 2147483563)+((c % 2147483563 * 69069+104723 * (k+1)) % 2147483563) / 3) % 2147483399) / 7) % 2147483647 / 11,?_⟩;simp! [ak,jw,hc,m1,u1,u2,Dl.aH,ED,yU,yT,b1,d1,m2,b2,d2,m3,d3,fZ (j:=many) hm]
def dr(ns:List Int)(k many:Int):Int:=og ((ak [gT ns,.int k,.int many]).getD .none)
def dy(k many:Int)(hl:ns.length<=63)(hm:0 < many):ak [gT ns,.int k,.int many]=some (.int (dr ns k many))/\0<=dr ns k many/\dr ns k many < many:=by
 let⟨r,h1,h2⟩:=FL k many hl hm;have:dr ns k many=r:=by simp?[dr,h1,qE,og]
 rw[this];exact⟨h1,h2⟩
def Eo(k many:Int)(hl:ns.length<=63)(hm:0 < many):ak [gT ns,.int k,.int many]=some (.int (dr ns k many)):=(dy k many hl hm).1
def IM(k many:Int)(hl:ns.length<=63)(hm:0 < many):0<=dr ns k many:=(dy k many hl hm).2.1
def IP(k many:Int)(hl:ns.length<=63)(hm:0 < many):dr ns k many < many:=(dy k many hl hm).2.2
abbrev Pl:=Int×List Int
abbrev Wy:=Int×Int×Int
def cg(p:Pl):D:=.tuple [.int p.1,ao p.2]
def aB(w:Wy):D:=.tuple [.int w.1,.int w.2.1,.int w.2.2]
def aR(G T:List Pl)(W:List Wy):D:=.tuple [.tuple (G.map cg),.tuple (T.map cg),.tuple (W.map aB)]
def mU(W:List Wy)(i:Int):List Int:=(W.filter λw=>decide (w.1=i)).map λw=>w.2.1
def ofT(W:List Wy)(j:Int):List Int:=(W.filter λw=>decide (w.2.1=j)).map λw=>w.1
abbrev Ia(W:List Wy):Prop:=W.Pairwise λa b=>a.1 < b.1\/(a.1=b.1/\a.2.1 < b.2.1)
structure Wd(G T:List Pl)(W:List Wy):Prop where
 g1:1<=G.length
 g4:G.length<=4
 t1:1<=T.length
 t4:T.length<=4
 ga:∀p∈G,0<=p.1/\p.1<=9
 ta:∀p∈T,0<=p.1/\p.1<=9
 gl:∀ (i:Nat) (p:Pl),G[i]?=some p->p.2.Perm (mU W i)
 tl:∀ (j:Nat) (p:Pl),T[j]?=some p->p.2.Perm (ofT W j)
 wr:∀w∈W,(0<=w.1/\w.1 < G.length)/\(0<=w.2.1/\w.2.1 < T.length)/\1<=w.2.2/\w.2.2<=9
 wp:Ia W
 wl:W.length<=16
def rT:j∈mU W i↔[i,j]∈W.map λw=>[w.1,w.2.1]:=by
 simp?[mU,List.mem_map,List.mem_filter,zJ,kJ,and_true];constructor
 ·rintro⟨w,⟨h1,h2⟩,h3⟩;exact⟨w,h1,h2,h3⟩
 ·rintro⟨w,h1,h2,h3⟩;exact⟨w,⟨h1,h2⟩,h3⟩
def sf:i∈ofT W j↔[i,j]∈W.map λw=>[w.1,w.2.1]:=by
 simp?[ofT,List.mem_map,List.mem_filter,zJ,kJ,and_true];constructor
 ·rintro⟨w,⟨h1,h2⟩,h3⟩;exact⟨w,h1,h3,h2⟩
 ·rintro⟨w,h1,h2,h3⟩;exact⟨w,⟨h1,h3⟩,h2⟩
def pd(h:Ia W)(i:Int):(mU W i).Nodup:=by
 unfold mU List.Nodup;rw[jA,List.pairwise_filter];refine h.imp λRa ha hb=>?_;rw[zJ] at ha hb;lia
def qm(h:Ia W)(i:Int):(ofT W i).Nodup:=by
 unfold ofT List.Nodup;rw[jA,List.pairwise_filter];refine h.imp λRa ha hb=>?_;rw[zJ] at ha hb;lia
def eC(p:Pl):iq (cg p)=p.2:=by
 show ((p.2.map PyData.int).map og)=p.2;rw[zM];exact List.map_id _
def lY(ha:0<=p.1/\p.1<=9)(hn:p.2.Nodup)(hr:∀j∈p.2,0<=j/\j < n):placeOk n (cg p)=true:=by
 have e:(p.2.map PyData.int).map og=p.2:=eC p;have e2:(p.2.map PyData.int).all (whole 0 (n - 1))=true:=by
  rw[xE];intro x hx;let⟨j,hj,rfl⟩:=List.mem_map.mp hx;have:=hr j hj;simp?[whole,zF,zJ];lia
 simp?[placeOk,cg,ao,zL,xI,vL,vM,gw,whole,e,e2,ha.1,ha.2,hn,jM,Bool.and_self]
def AE(h:(0<=w.1/\w.1 < g)/\(0<=w.2.1/\w.2.1 < t)/\1<=w.2.2/\w.2.2<=9):gN g t (aB w)=true:=by
 let⟨⟨a,b⟩,⟨c,d⟩,e,f⟩:=h;have b':w.1<=g - 1:=by lia
 have d':w.2.1<=t - 1:=by lia
 simp?[gN,aB,zL,xI,vL,vM,whole,a,b',c,d',e,f,jM,Bool.and_self]
def OK(h:a < c\/(a=c/\b < d)):Dl.lexLt [a,b] [c,d]=true:=by
 show HT.lexLt [a,b] [c,d]=true;rw[HT.dw];by_cases e:a=c
 ·rw[yJ e,HT.dw,yL (by lia)];simp?[zJ];lia
 ·rw[yL e];simp?[zJ];lia
def Wd.TN(h:Wd G T W)(hp:p∈G):∃i:Nat,i < G.length/\p.2.Perm (mU W i):=by
 let⟨i,hi,e⟩:=qN hp;exact⟨i,hi,h.gl i p (by rw[zK hi,e])⟩
def Wd.TQ(h:Wd G T W)(hp:p∈T):∃i:Nat,i < T.length/\p.2.Perm (ofT W i):=by
 let⟨i,hi,e⟩:=qN hp;exact⟨i,hi,h.tl i p (by rw[zK hi,e])⟩
def Wd.gok(h:Wd G T W):(G.map cg).all (placeOk T.length)=true:=by
 rw[xE];intro x hx;let⟨p,hp,rfl⟩:=List.mem_map.mp hx;let⟨i,hi,q⟩:=h.TN hp;refine lY (h.ga p hp) (q.nodup_iff.mpr (pd h.wp _)) λj hj=>?_;let⟨w,hw,e⟩:=List.mem_map.mp (rT.mp (q.mem_iff.mp hj));injection e with e1 e2
 injection e2 with e2 _
 have:=(h.wr w hw).2.1;rw[e2] at this;exact this
def Wd.tok(h:Wd G T W):(T.map cg).all (placeOk G.length)=true:=by
 rw[xE];intro x hx;let⟨p,hp,rfl⟩:=List.mem_map.mp hx;let⟨i,hi,q⟩:=h.TQ hp;refine lY (h.ta p hp) (q.nodup_iff.mpr (qm h.wp _)) λj hj=>?_;let⟨w,hw,e⟩:=List.mem_map.mp (sf.mp (q.mem_iff.mp hj));injection e with e1 e2
 have:=(h.wr w hw).1;rw[e1] at this;exact this
def nG{W:List Wy}{p:Wy->Bool}(h:W.length<=16):(W.filter p).length<=16:=yC (xN _ _) h
def xy(h:p.2.length<=16):gm 16 2 (cg p):=.tup (by simp?[zL,xI];lia) λx hx=>by
 rcases List.mem_cons.mp hx with rfl|hx
 ·exact iD _
 ·rw[yI] at hx;subst hx;exact yd h
def GM(w:Wy):gm 16 1 (aB w):=.tup (by simp?[zL,xI];lia) λx hx=>by
 simp?[zQ,yE,xR] at hx;rcases hx with rfl|rfl|rfl<;>exact iD _
def Wd.fit(h:Wd G T W):gm 16 4 (aR G T W):=by
 refine .tup (by simp?[zL,xI];lia) λx hx=>?_;simp?[zQ,yE,xR] at hx;have h4:=h.g4;have h5:=h.t4;have h6:=h.wl;rcases hx with rfl|rfl|rfl
 ·refine .tup (by rw[zD];lia) λx hx=>?_;let⟨p,hp,rfl⟩:=List.mem_map.mp hx;let⟨i,hi,q⟩:=h.TN hp;exact xy (by rw[q.length_eq,mU,zD];exact nG h.wl)
 ·refine .tup (by rw[zD];lia) λx hx=>?_;let⟨p,hp,rfl⟩:=List.mem_map.mp hx;let⟨i,hi,q⟩:=h.TQ hp;exact xy (by rw[q.length_eq,ofT,zD];exact nG h.wl)
 ·refine .tup (by rw[zD];lia) λx hx=>?_;let⟨p,hp,rfl⟩:=List.mem_map.mp hx;exact (GM p).mono (yK _) (by decide)
def A4{i:Nat}{fz:List Nat}{f:Dl.Env->Option D}{ρ ρ':aq}{d:D}(hf:f (aG ρ)=some d)(hs:Dl.lM d=false)(hh:hand fz 0 ρ=ρ')(hv:aY ρ'=aG ρ)(hr:fU d=false\/ρ'=ρ:=by first|exact .inr rfl|exact .inl rfl):Dl.aH i fz f ρ=some (.nx (ρ'.set i (.val d))):=by
 rcases hr with hr|hr
 ·simp?[Dl.aH,hf,zA,hs,yM,qM,hh,hv,zB,hr]
 ·subst hr;simp?[Dl.aH,hf,zA,hs,yM,qM,hh,hv,zB,ite_self]
def bg{i:Nat}{fz:List Nat}{f:Dl.Env->Option D}{ρ:aq}{d:D}(hf:f (aG ρ)=some d)(hs:Dl.lM d=true):Dl.aH i fz f ρ=some (.nx (ρ.set i (.val d))):=by
 simp?[Dl.aH,hf,zA,hs,xF]
def zk(w:Wy):aC (aB w) (.int 0)=some (.int w.1):=rfl
def xp(w:Wy):aC (aB w) (.int 1)=some (.int w.2.1):=rfl
abbrev st(ns:List Int)(a mo m s:Int)(x4 x7 x8 x9 x10 x11:Slot):aq:=[.val (gT ns),.val (.int a),.val (.int mo),.Qb,x4,.val (.int m),.val (.int s),x7,x8,x9,x10,x11]
structure PZ(mo s k:Int)(W:List Wy):Prop where
 mem:∀w∈W,∃j:Int,0<=j/\j < k/\w.1=j / s/\w.2.1=j % s/\1<=w.2.2/\w.2.2<=2
 VX:Ia W
 len:(W.length:Int)<=k
 lem:(W.length:Int)<=mo
def NN(W:List Wy)(i:Int)(hw:W.length<=20):ay 1 [0] (aZ (aa 1)) (fG 0) (fB (f2 aX (f2 aC (aa 0) (fC (.int 0))) (aa 1))) (f2 aC (aa 0) (fC (.int 1))) [some (.int i),some (.list (W.map aB))]=some ((mU W i).map PyData.int):=by
 rw[qu (ds:=W.map aB) (p:=λd=>decide (og ((cG d).getD 0 .none)=i)) (h:=λd=>(cG d).getD 1 .none) rfl (by rw[zD];lia) (λd hd=>?_) λd hd _=>?_]
 ·rw[List.filter_map,zM,mU,zM];rfl
 ·let⟨w,_,rfl⟩:=List.mem_map.mp hd;simp! [zk,eX,HJ];rfl
 ·let⟨w,_,rfl⟩:=List.mem_map.mp hd;simp! [xp];rfl
def kh{m:Nat}(hm:m<=1000):m4 ((m:Nat):Int)=true:=by
 unfold m4;rw[zF,zJ,zJ];have h1:(0:Int)<=(m:Int):=Int.natCast_nonneg m;have h2:(m:Int)<=1000:=by lia
 exact⟨jQ (by decide) h1,Int.lt_of_le_of_lt h2 (by decide)⟩
def Cd{j:Int}(h:m4 j=true):k9 [.int j]=some ((List.range j.toNat).map λi=>PyData.int ((i:Nat):Int)):=by
 rw[k9,yJ h]
def iB:∀ (ds:List D) (k:Nat),(cY k ds).length=ds.length
 | [],k=>rfl
 | d::ds,k=>by rw[cY,zL,zL,iB ds]
def aj{g1 g2:aq->Option Out}{ρ ρ':aq}(h:g1 ρ=some (.nx ρ')):av g1 g2 ρ=g2 ρ':=by
 simp?[av,h,zA]
def bj{g:aq->Option Out}{n:Nat}{args:List D}{d:D}(h:g (args.map Slot.val++List.replicate (n - args.length) .Qb)=some (.rt d)):bo g n args=some d:=by
 simp?[bo,h,zB]
def D9{g:D->D->Option D}{fa fb:Dl.Env->Option D}{ρ:Dl.Env}{a b:D}(ha:fa ρ=some a)(hb:fb ρ=some b):f2 g fa fb ρ=g a b:=by
 simp?[f2,ha,hb,zA]
structure P8(mo:Int)(G T:List Pl)(W:List Wy):Prop where
 g3:G.length<=3
 t3:T.length<=3
 w2:∀w∈W,w.2.2<=2
 ga:∀p∈G,p.1<=3
 ta:∀p∈T,p.1<=3
 wm:(W.length:Int)<=mo
def IF(h:Ia W):(W.map λw=>[w.1,w.2.1]).Pairwise λa b=>Dl.lexLt a b=true:=List.pairwise_map.mpr (h.imp λRa=>OK Ra)
def Ec(h:Ia W):(W.map λw=>[w.1,w.2.1]).Nodup:=(IF h).imp λ{a b} Ra e=>by
 rw[e,eL] at Ra;cases Ra
def Ed(h:Ia W)(hn:m.Nodup)(hm:∀r,r∈W.map (λw=>[w.1,w.2.1])↔r∈m):W.map (λw=>[w.1,w.2.1])=oO m :=
 DB ((List.perm_ext_iff_of_nodup (Ec h) hn).mpr hm) ((IF h).imp λRa=>ME Ra)
def Wd.Yn(h:Wd G T W):NA (aR G T W)=true:=by
 have hP:(W.map aB).map d8=W.map λw=>[w.1,w.2.1]:=by rw[zM];rfl
 have Yo:∀i j:Int,[i,j]∈W.map (λw=>[w.1,w.2.1])↔[i,j]∈jm 0 (G.map cg):=λi j=>by
  rw[m9];constructor
  ·intro hm;let⟨w,hw,e⟩:=List.mem_map.mp hm;simp?[kJ,and_true] at e;have hr:=(h.wr w hw).1;obtain⟨p,hp⟩:∃p,G[i.toNat]?=some p:=⟨G[i.toNat]'(by lia),zK (by lia)⟩
   refine⟨i.toNat,cg p,by rw[zO,hp];rfl,by lia,?_⟩;rw[eC,(h.gl _ p hp).mem_iff,rT,show ((i.toNat:Nat):Int)=i by lia];exact hm
  ·rintro⟨m,p,hp,rfl,hj⟩;rw[zO] at hp;let⟨p',Td,rfl⟩:=Option.map_eq_some_iff.mp hp;rw[eC,(h.gl m p' Td).mem_iff,rT] at hj
   rwa [qZ]
 have Yp:∀i j:Int,[i,j]∈W.map (λw=>[w.1,w.2.1])↔[j,i]∈jm 0 (T.map cg):=λi j=>by
  rw[m9];constructor
  ·intro hm;let⟨w,hw,e⟩:=List.mem_map.mp hm;simp?[kJ,and_true] at e;have hr:=(h.wr w hw).2.1;obtain⟨p,hp⟩:∃p,T[j.toNat]?=some p:=⟨T[j.toNat]'(by lia),zK (by lia)⟩
   refine⟨j.toNat,cg p,by rw[zO,hp];rfl,by lia,?_⟩;rw[eC,(h.tl _ p hp).mem_iff,sf,show ((j.toNat:Nat):Int)=j by lia];exact hm
  ·rintro⟨m,p,hp,rfl,hj⟩;rw[zO] at hp;let⟨p',Td,rfl⟩:=Option.map_eq_some_iff.mp hp;rw[eC,(h.tl m p' Td).mem_iff,sf] at hj
   rwa [qZ]
 have two:∀ {r:List Int},r∈W.map (λw=>[w.1,w.2.1])->∃i j,r=[i,j]:=λhr=>by
  let⟨w,_,rfl⟩:=List.mem_map.mp hr;exact⟨_,_,rfl⟩
 have ng:∀ (L:List Pl),(∀p∈L,p.2.Nodup)->(jm 0 (L.map cg)).Nodup:=λL hL=>pM λp hp=>by
  let⟨p',Td,rfl⟩:=List.mem_map.mp hp;rw[eC];exact hL p' Td
 have e1:W.map (λw=>[w.1,w.2.1])=oO (jm 0 (G.map cg)):=Ed h.wp (ng G λp hp=>by
   let⟨i,hi,e⟩:=qN hp;exact (h.gl i p (by rw[zK hi,e])).nodup_iff.mpr (pd h.wp i)) λr=>⟨λhr=>by
   let⟨i,j,rfl⟩:=two hr;exact (Yo i j).mp hr,λhr=>by
   let⟨i,j,rfl⟩:=iK r hr;exact (Yo i j).mpr hr⟩
 have e2:W.map (λw=>[w.1,w.2.1])=oO ((jm 0 (T.map cg)).map List.reverse):=Ed h.wp (by
   exact List.pairwise_map.mpr (List.Pairwise.imp (λ{a b} QT e=>QT (List.reverse_inj.mp e)) (ng T λp hp=>by
    let⟨i,hi,e⟩:=qN hp;exact (h.tl i p (by rw[zK hi,e])).nodup_iff.mpr (qm h.wp i)))) λr=>⟨λhr=>by
   let⟨i,j,rfl⟩:=two hr;exact List.mem_map.mpr ⟨[j,i],(Yp i j).mp hr,rfl⟩,λhr=>by
   let⟨r',Rm,rfl⟩:=List.mem_map.mp hr;let⟨i,j,rfl⟩:=iK r' Rm;exact (Yp j i).mpr Rm⟩
 have hw:(W.map aB).all (gN G.length T.length)=true:=by
  rw[xE];intro x hx;let⟨w,hw,rfl⟩:=List.mem_map.mp hx;exact AE (h.wr w hw)
 have hs:∀ {L:List Pl},1<=L.length->L.length<=4->lj (.tuple (L.map cg))=true:=λ{L} a b=>by
  simp?[lj,long,zD,zF,zJ];lia
 have h3:long 3 3 (aR G T W)=true:=rfl;have hg:=h.gok;have ht:=h.tok;unfold NA u7;rw[h3,jH];simp?[aR,cG,vL,vM,hP,<- e1,<- e2,jM,Bool.and_true,gM,hs h.g1 h.g4,hs h.t1 h.t4,zD,hg,ht,hw,IS]
def sI(b:Bool):Int:=if b then 1 else 0
def rG(b:Bool)(w:Wy):Int:=if b then w.2.1 else w.1
def OH(b:Bool)(w:Wy):Int:=rG (!b) w
def eS(b:Bool)(G T:List Pl):List Pl:=if b then T else G
def d9(G T:List Pl)(W:List Wy):aC (aR G T W) (.int 2)=some (.tuple (W.map aB)):=rfl
def zg(b:Bool)(w:Wy):aC (aB w) (.int (sI b))=some (.int (rG b w)):=by cases b<;>rfl
def sG(w:Wy):aC (aB w) (.int 2)=some (.int w.2.2):=rfl
def DP(h:ds[i]?=some d):aC (.tuple ds) (.int ((i:Nat):Int))=some d:=by
 show jj ds (i:Nat)=_;exact su h
def CN(h:ds[i]?=some d):aC (.list ds) (.int ((i:Nat):Int))=some d:=by
 show jj ds (i:Nat)=_;exact su h
def Fm{l:List α}(h:l[i]?=some x):aC (.list (l.map f)) (.int ((i:Nat):Int))=some (f x):=CN (by rw[zO,h];rfl)
def bz(W:List Wy)(i:Nat):Wy:=W.getD i (0,0,0)
def ia(hk:k < W.length):W[k]=bz W k:=by simp[bz,hk]
def GP(hk:k < W.length):W[k]?=some (bz W k):=by rw[zK hk,ia hk]
def own(b:Bool)(W:List Wy)(p:Int):List Nat:=(List.range W.length).filter λi=>decide (rG b (bz W i)=p)
def PU(b:Bool)(W:List Wy)(p o:Int):Nat:=W.findIdx λw=>decide (rG b w=p)&&decide (OH b w=o)
def OX(b:Bool)(W:List Wy)(p:Int)(L:List Int):List Nat:=L.map (PU b W p)
def GW:i∈own b W p↔i < W.length/\rG b (bz W i)=p:=by simp[own]
abbrev nD(n:Nat):D:=.int ((n:Nat):Int)
def Ga(b:Bool)(W:List Wy)(p:Int):(own b W p).length<=W.length:=by
 unfold own;refine yC (xN _ _) ?_;rw[zR];exact yK _
local macro_rules|`(tactic| dsimp! [$ts,*])=>`(tactic| simp only[aa,fC,f1,f2,ae,ag,ai,aW,lG,aZ,fA,cm,fB,gB,bK,ow,dk,cE,aG,aY,yj,Al,z8,xn,yo,Aa,zI,yS,xO,yW,zA,zB,qE,zL,xI,Nat.reduceAdd,qZ,reduceIte,yU,yT,$ts,*])
def i5(R:aq->Prop)(f:α->D)(q:α->Bool)(out:α->D):∀ {l:List α}{ρ:aq},
  (∀ρ x,x∈l->R ρ->∃ρ1,tgt ρ (f x)=some ρ1/\(q x=true->gb ρ1=some (.rt (out x)))/\(q x=false->∃QU,gb ρ1=some (.nx QU)/\R QU))->R ρ ->
  (∀x,l.find? q=some x->cC tgt gb (l.map f) ρ=some (.rt (out x)))/\(l.find? q=none->∃ρ',cC tgt gb (l.map f) ρ=some (.nx ρ')/\R ρ')
 | [],ρ,_,h=>⟨λx hx=>(by cases hx),λ_=>⟨ρ,rfl,h⟩⟩
 | x::l,ρ,hh,h=>by
  let⟨ρ1,e1,e2,e3⟩:=hh ρ x zE h;rw[zI,cC,e1,zA];cases hq:q x with
  | true =>
   rw[vA (by simpa using hq),e2 hq];exact⟨λy hy=>(by cases hy;rfl),λhn=>(by cases hn)⟩
  | false =>
   let⟨QU,e4,h2⟩:=e3 hq;rw[kC (by simp[hq]),e4];exact i5 R f q out (λρ x hx=>hh ρ x (zC _ hx)) h2
def ba(h:cC tgt gb ds ρ1=o)(hi:fi (aY ρ1)=some ds)(hh:hand fz 0 ρ=ρ1):dh fz fi tgt gb ρ=o:=by
 simp?[dh,hh,hi,zA,h]
def r9(hh:hand fz 0 ρ=ρ')(hf:f (aY ρ')=some ds):aS i fz f ρ=some (.nx (ρ'.set i (.own ds))):=by
 simp?[aS,hh,hf,zB]
def b8(hf:f (aY ρ)=some ds)(hh:hand fz 0 ρ=ρ):aS i fz f ρ=some (.nx (ρ.set i (.own ds))):=r9 hh hf
def v8(hh:hand fz 0 ρ=ρ')(hA:f (aG ρ)=some d)(hF:f (aY ρ')=some d)(hs:Dl.lM d=false)(hr:fU d=false\/ρ'=ρ:=by first|exact .inr rfl|exact .inl rfl):Dl.aH i fz f ρ=some (.nx (ρ'.set i (.val d))):=by
 rcases hr with hr|hr
 ·simp?[Dl.aH,hA,zA,hs,yM,qM,hh,hF,zB,hr]
 ·subst hr;simp?[Dl.aH,hA,zA,hs,yM,qM,hh,hF,zB,ite_self]
def call_of(h:m ds=some d)(hf:fs ρ=some ds)(hn:ds.length=n):ai n m fs ρ=some d:=by
 unfold ai;rw[hf,zA,yJ hn,h]
def cons_of(h:f ρ=some d)(hs:fs ρ=some ds):ae f fs ρ=some (d::ds):=by
 unfold ae;rw[h,hs];rfl
def bA(hf:f (aG ρ)=some d):aO f ρ=some (.rt d):=by
 simp?[aO,hf,zB]
def jh(hf:f (aG ρ)=some d):nj f ρ=some (.nx ρ):=by
 simp?[nj,hf,zB]
def cI(h:t (aG ρ)=some false):fu t g eM ρ=some (.nx ρ):=by
 simp[fu,h,eM]
def dJ(h:t (aG ρ)=some true):fu t g g2 ρ=g ρ:=by
 simp[fu,h]
def gJ(h:g1 ρ=some (.rt d)):av g1 g2 ρ=some (.rt d):=by
 simp?[av,h,zA]
def p5(hf:f (aG ρ)=some d)(hs:Dl.lM d=true)(hk:fk (aG ρ)=some (nD k))(ho:ρ[i]?=some (.own ds))(hl:k < ds.length):oX i fz fk f ρ=some (.nx (ρ.set i (.own (ds.set k d)))):=by
 have hx:C8 ds.length ((k:Nat):Int)=some k:=by
  unfold C8;rw[yJ (Int.natCast_nonneg k),yJ (by lia)];simp
 simp?[oX,j1,hf,zA,hs,xF,hk,pb,ho,hx,zB]
def lp(cont:S->Bool)(st:S->S):Nat->S->S
 | 0,s=>s
 | n+1,s=>if cont s=true then lp cont st n (st s) else s
def gE(l:List D):bU [.list l]=some (.tuple l):=rfl
def HI(l:List D):bD [.tuple l]=some (nD l.length):=rfl
def A3(h:n<=1000):k9 [nD n]=some ((List.range n).map nD):=by
 rw[Cd (kh h),yF]
def nX(h:fs ρ=some [nD n])(hn:n<=1000):cZ fs ρ=some ((List.range n).map nD):=by
 unfold cZ;rw[h,zA,A3 hn]
def sub_int(i j:Int):Dl.ir (.int i) (.int j)=some (.int (i - j)):=nh i j
def zeros(RA:fi ρ=some ds)(hl:ds.length<=1000):ay 1 [] fi (fG 0) (λ_=>some true) (fC (.int 0)) ρ=some ((List.replicate ds.length (0:Int)).map PyData.int):=by
 rw[dm (h:=λ_=>.int 0) RA (by lia) λd hd=>rfl];simp[List.map_const']
def DC(h1:m4 k=true)(h2:ds.length * k.toNat<=sizeLine):Ad ds (.int k)=some (List.replicate k.toNat ds).flatten:=by
 simp?[Ad];rw[yJ (And.intro h1 h2)]
def Cy:∀n,(List.replicate n [PyData.int 0]).flatten=(List.replicate n (0:Int)).map PyData.int
 | 0=>rfl
 | n+1=>by rw[xC,qK,Cy n,xC];rfl
def A2(hl:n<=1000):Ad [.int 0] (nD n)=some ((List.replicate n (0:Int)).map PyData.int):=by
 rw[DC (kh hl),yF,Cy];rw[yF,xA,Nat.one_mul];exact yC hl (by decide)
def NF(ρ:Dl.Env):cP (ae (fC (.int 0)) ag) ρ=some [.int 0]:=by
 simp?[cP,ae,fC,ag,zA,zB];exact bB (by simp)
def LB(hf:f ρ=some (nD n))(hl:n<=1000):pS (cP (ae (fC (.int 0)) ag)) f ρ=some ((List.replicate n (0:Int)).map PyData.int):=by
 have e:=A2 hl;unfold pS;rw[NF,zA,hf,zA,e]
def cV(W:List Wy)(off:List Int)(left:Int)(i:Nat):Int:=min (min (off.getD i 0) (bz W i).2.2) left
def Pw(W:List Wy)(off:List Int)(s:Int×List Int)(i:Nat):Int×List Int:=(s.1 - cV W off s.1 i,s.2.set i (cV W off s.1 i))
def P6(W:List Wy)(off:List Int)(TR:Int)(is:List Nat):List Int:=(is.foldl (Pw W off) (TR,List.replicate W.length 0)).2
def lI(b:Bool)(G T:List Pl)(i:Nat):Pl:=(eS b G T).getD i (0,[])
def PB(b:Bool)(G T:List Pl)(W:List Wy)(off s:List Int)(i:Nat):List Int:=List.zipWith (·+·) s (P6 W off (lI b G T i).1 (OX b W i (lI b G T i).2))
def Kz(b:Bool)(G T:List Pl)(W:List Wy)(off:List Int):List Int:=(List.range (eS b G T).length).foldl (PB b G T W off) (List.replicate W.length 0)
def Wd.pl(h:Wd G T W)(b:Bool):(eS b G T).length<=4:=by
 cases b
 ·exact h.g4
 ·exact h.t4
def ye(h:(xs++ys).length<=4000):Dl.aw (.tuple xs) (.tuple ys)=some (.tuple (xs++ys)):=by
 simp?[Dl.aw,qt,HE,bB h,zB,Option.none_or,Option.some_or]
def Lx(h:f ρ=some d):bc (ae f ag) ρ=some (.tuple [d]):=by
 simp?[bc,ae,ag,h,zA,zB];rw[bB (by simp),zB]
def ar(h:g a b=some c)(ha:fa ρ=some a)(hb:fb ρ=some b):f2 g fa fb ρ=some c:=by rw[D9 ha hb,h]
def J3(h:f ρ=some (.tuple ds))(h2:g ρ=some (nD k)):aP bf f aN (bX g) ρ=some (.tuple (ds.take k)):=by
 simp?[aP,h,aN,bX,h2,zA,gI,zB,bf,BO]
def K2(h:f ρ=some (.tuple ds))(h2:g ρ=some (nD k)):aP bf f (bX g) aN ρ=some (.tuple (ds.drop k)):=by
 simp?[aP,h,aN,bX,h2,zA,gI,zB,bf,EC]
def Py(d:D)(ds:List D):aC (.list (d::ds)) (.int 0)=some d:=CN (i:=0) rfl
def Lf(W:List Wy):List Int:=W.map λw=>w.2.2
def O6(G T:List Pl)(W:List Wy)(c:List Int):List Int:=Kz true G T W (Kz false G T W c)
def qR(G T:List Pl)(W:List Wy)(c:List Int)(k:Nat):Bool:=decide ((O6 G T W c).getD k 0 < (Kz false G T W c).getD k 0)
def O4(G T:List Pl)(W:List Wy)(c:List Int):Option (Nat×Int):=((List.range W.length).find? (qR G T W c)).map λk=>(k,(O6 G T W c).getD k 0)
def enum_zip:∀ (ds:List D) (k:Nat),cY k ds=(ds.zipIdx k).map λq=>.tuple [nD q.2,q.1]
 | [],k=>rfl
 | d::ds,k=>by rw[cY,enum_zip ds (k+1),List.zipIdx_cons];rfl
def Off(off:List Int):Prop:=∀i,0<=off.getD i 0
def OZ(W:List Wy):Prop:=∀i,0<=(bz W i).2.2
def Wd.lim{G T:List Pl}{W:List Wy}(h:Wd G T W):OZ W:=λi=>by
 by_cases hi:i < W.length
 ·have:=h.wr (bz W i) (by rw[<- ia hi];exact xY hi);lia
 ·simp?[bz,zG];rw[jI (by lia)];simp
def Wd.TR{G T:List Pl}{W:List Wy}(h:Wd G T W)(b:Bool)(i:Nat):0<=(lI b G T i).1:=by
 unfold lI;rw[zG];cases e:(eS b G T)[i]? with
 | none=>simp
 | some p =>
  have hm:=xZ e;cases b
  ·exact (h.ga p hm).1
  ·exact (h.ta p hm).1
def uH{l:List Int}{i:Nat}(h:l.length<=i):l.getD i 0=0:=by simp[zG,h]
def O2(c:List Int):Nat:=(c.map Int.toNat).sum
def nV(a:List Int):SeqAt.shaped (ao a)=true :=
 (gm.tup (b:=a.length) (k:=0) (by simp) λx hx=>by let⟨i,_,rfl⟩:=List.mem_map.mp hx;exact iD _).shaped (by decide)
def uB(a b:List Int):PyData.eqv (ao a) (ao b)=decide (a=b):=by
 rw[ao,ao,PyData.eqv,oH]
def aL(h:f ρ=some (.bool b)):fB f ρ=some b:=by
 simp?[fB,h,zA,gB]
def cB(h:t ρ=some b):bK t ρ=some (!b):=by
 simp?[bK,h,zB]
def K4(h:t ρ=some false)(h2:u ρ=some false):dk t u ρ=some false:=by
 simp?[dk,h,zA,h2]
def CD(a b:List Int):bN (ao a) (ao b)=some (.bool (!decide (a=b))):=by
 simp?[bN,FH,nV,jL,xF,uB,zB]
def ig(a b:List Int):aX (ao a) (ao b)=some (.bool (decide (a=b))):=by
 simp?[aX,Fh,nV,jL,xF,uB,zB]
def BH(a:List Int):bN (ao a) (ao a)=some (.bool false):=by rw[CD];simp
def Ao:bN .none .none=some (.bool false):=by
 simp[bN,FH,SeqAt.shaped,PyData.canLay0,PyData.depth,PyData.eqv]
def bG(hA:f (aG ρ)=some d)(hF:f (aY ρ)=some d)(hh:hand fz 0 ρ=ρ):Dl.aH i fz f ρ=some (.nx (ρ.set i (.val d))):=by
 cases hs:Dl.lM d with
 | true=>exact bg hA hs
 | false=>exact v8 hh hA hF hs (.inr rfl)
def vZ(hA:f (aG ρ)=some d)(hF:f (aY ρ)=some d)(hh:hand fz 0 ρ=ρ)(ho:ρ[i]?=some (.own ds))(hl:ds.length < 4000):i4 i fz f ρ=some (.nx (ρ.set i (.own (ds++[d])))):=by
 have hz:ds.length < sizeLine:=zP hl (by decide);have hi:j1 fz f ρ=some (d,ρ):=by
  unfold j1;rw[hA,zA,hh,hF];cases Dl.lM d<;>rfl
 simp?[i4,hi,zA,pb,ho,hz,xF,zB]
def dI(h:Wd G T W):cf [aR G T W]=some .none:=by
 have hw:bP [aR G T W]=some (.bool true):=by rw[nU h.fit (by decide),h.Yn]
 have hc:(bK (fB (ai 1 bP (ae (aa 0) ag)))) (aG [.val (aR G T W)])=some false:=cB (aL (call_of hw rfl rfl));have:dH [.val (aR G T W)]=some (.nx [.val (aR G T W)]):=by
  unfold dH;rw[cI hc]
 show (dH [.val (aR G T W)]).map _=_;rw[this];rfl
def oP(h1:a<=i)(h2:i<=b):fO [.int i,.int a,.int b]=some .none:=by
 have hw:aU [.int i,.int a,.int b]=some (.bool true):=by rw[dF rfl];simp[whole,h1,h2]
 have hc:(bK (fB (ai 3 aU (ae (aa 0) (ae (aa 1) (ae (aa 2) ag)))))) (aG [.val (.int i),.val (.int a),.val (.int b)])=some false:=cB (aL (call_of hw rfl rfl));have:b0 [.val (.int i),.val (.int a),.val (.int b)]=some (.nx [.val (.int i),.val (.int a),.val (.int b)]):=by
  unfold b0;rw[cI hc]
 show (b0 [.val (.int i),.val (.int a),.val (.int b)]).map _=_;rw[this];rfl
def nK(h1:0<=i)(h2:i<=n - 1):eI [.int i,.int n]=some .none:=by
 have:bV [.val (.int i),.val (.int n)]=some (.nx [.val (.int i),.val (.int n)]):=by
  unfold bV;exact jh (call_of (oP h1 h2) (cons_of rfl (cons_of rfl (cons_of (ar (sub_int n 1) rfl rfl) rfl))) rfl)
 show (bV [.val (.int i),.val (.int n)]).map _=_;rw[this];rfl
def rZ(b:Bool):kb [.int (sI b)]=some .none:=by
 have:eh [.val (.int (sI b))]=some (.nx [.val (.int (sI b))]):=by
  unfold eh;exact jh (call_of (nK (n:=2) (i:=sI b) (by cases b<;>decide) (by cases b<;>decide)) rfl rfl)
 show (eh [.val (.int (sI b))]).map _=_;rw[this];rfl
abbrev Sp:=List (Nat×Int)×List Int
def PQ(G T:List Pl)(W:List Wy)(s:Sp):Bool:=(O4 G T W s.2).isSome
def spS(G T:List Pl)(W:List Wy)(s:Sp):Sp:=match O4 G T W s.2 with|some p=>(s.1++[p],s.2.set p.1 p.2)|none=>s
def low(c:List Int)(p:Nat×Int):List Int:=c.set p.1 p.2
structure P9(W:List Wy)(s:Sp):Prop where
 len:s.2.length=W.length
 off:Off s.2
 eq:s.2=s.1.foldl low (Lf W)
 bd:s.1.length+O2 s.2<=O2 (Lf W)
 mem:∀p∈s.1,p.1 < W.length
def fin(G T:List Pl)(W:List Wy):Sp:=lp (PQ G T W) (spS G T W) Rf.turns ([],Lf W)
structure Ord(W:List Wy)(π:List Nat):Prop where
 perm:π.Perm (List.range W.length)
 up:π.Pairwise λi j=>(bz W i).2.1 < (bz W j).2.1\/((bz W i).2.1=(bz W j).2.1/\(bz W i).1 < (bz W j).1)
def rg(b:Bool)(W:List Wy)(P:List Int)(p:Int):Int:=((own b W p).map λi=>P.getD i 0).sum
structure Pn(G T:List Pl)(W:List Wy)(P:List Int):Prop where
 len:P.length=W.length
 bd:∀k,k < W.length->0<=P.getD k 0/\P.getD k 0<=(bz W k).2.2
 am:∀ (b:Bool) (i:Nat),i < (eS b G T).length->rg b W P i<=(lI b G T i).1
section
variable {off:List Int}
def pJ(h:∀k,k < W.length->P.getD k 0=Q.getD k 0):rg b W P p=rg b W Q p:=by
 unfold rg
 congr 1
 exact yH λk hk=>h k (GW.mp hk).1
end
def oR(G T:List Pl)(W:List Wy)(P:List Int):Bool :=
 ((List.range G.length).all λi=>decide (rg false W P i<=(lI false G T i).1))&&((List.range T.length).all λi=>decide (rg true W P i<=(lI true G T i).1))
def zs(n:Nat):List Int:=List.replicate n 0
def jl(d:Nat->Int)(G T:List Pl)(W:List Wy):Nat->List Int
 | 0=>[]
 | k+1=>if oR G T W ((jl d G T W k++[d k])++zs (W.length - (jl d G T W k++[d k]).length))=true then jl d G T W k++[d k] else jl d G T W k++[0]
section
variable {W:List Wy}{G T:List Pl}{d:Nat->Int}
def fW:oR G T W P=true↔∀ (b:Bool) (i:Nat),i < (eS b G T).length->rg b W P i<=(lI b G T i).1:=by
 unfold oR;rw[zF,xE,xE];constructor
 ·rintro⟨h1,h2⟩ b i hi;cases b
  ·exact yO (h1 i (by simpa [eS] using hi))
  ·exact yO (h2 i (by simpa [eS] using hi))
 ·intro h;exact⟨λi hi=>zZ (h false i (by simpa [eS] using hi)),λi hi=>zZ (h true i (by simpa [eS] using hi))⟩
def jy:∀k,(jl d G T W k).length=k
 | 0=>rfl
 | k+1=>by
  unfold jl;split<;>simp[jy k]
def Df(h:∀k,P.getD k 0=0):rg b W P p=0:=by
 unfold rg;have:((own b W p).map λi=>P.getD i 0)=(own b W p).map λ_=>(0:Int):=yH λk _=>h k;rw[this];generalize own b W p=l
 induction l with
 | nil=>rfl
 | cons a l ih=>simp[ih]
def Il(n k:Nat):(zs n).getD k 0=0:=by
 simp?[zs,zG,yV];split<;>rfl
def CH(l:List Int)(n k:Nat):(l++zs n).getD k 0=l.getD k 0:=by
 by_cases h:k < l.length
 ·simp[zG,yQ h]
 ·have h':l.length<=k:=by lia
  have:=Il n (k - l.length);simp?[zG] at this ⊢;rw[yR h',this];simp[h']
def OG(l:List Int)(k:Nat):(l++[0]).getD k 0=l.getD k 0:=CH l 1 k
def xt(h:Wd G T W):∀k,oR G T W (jl d G T W k)=true
 | 0=>fW.mpr λb i hi=>by
  rw[Df λk=>by simp[jl]];exact h.TR b i
 | k+1=>by
  unfold jl;split
  ·rename_i e;refine fW.mpr λb i hi=>?_;have:=fW.mp e b i hi;rw[pJ (Q:=jl d G T W k++[d k]) λj _=>CH _ _ _] at this;exact this
  ·refine fW.mpr λb i hi=>?_;rw[pJ (Q:=jl d G T W k) λj _=>OG _ _];exact fW.mp (xt h k) b i hi
def w4(hd:∀k,k < W.length->0<=d k/\d k<=(bz W k).2.2)(hl:OZ W):∀k,k<=W.length->∀j,j < k->0<=(jl d G T W k).getD j 0/\(jl d G T W k).getD j 0<=(bz W j).2.2
 | 0,_,j,hj=>by lia
 | k+1,hk,j,hj=>by
  have ih:=w4 hd hl k (by lia) j;have len:(jl d G T W k).length=k:=jy k;have key:∀x,(0<=x/\x<=(bz W k).2.2)->0<=(jl d G T W k++[x]).getD j 0/\(jl d G T W k++[x]).getD j 0<=(bz W j).2.2:=λx hx=>by
   by_cases SH:j < k
   ·rw[zG,yQ (by lia),<- zG];exact ih SH
   ·have:j=k:=by lia
    subst this;rw[zG,yR (by lia),len];simpa using hx
  unfold jl;split
  ·exact key _ (hd k (by lia))
  ·exact key _ ⟨by lia,hl k⟩
def Kk(h:Wd G T W)(hd:∀k,k < W.length->0<=d k/\d k<=(bz W k).2.2):Pn G T W (jl d G T W W.length) where
 len:=jy _
 bd:=w4 hd h.lim W.length (yK _)
 am:=fW.mp (xt h _)
end
section
variable {P off:List Int}
end
def pP{tt:Dl.Env->Option Bool}{te:Dl.Env->Option D}{r:List (Option D)}{x y h:Nat->D}{p:Nat->Bool}:∀ (is:List Nat),
  (∀i∈is,tt (some (x i)::some (y i)::r)=some (p i)/\(p i=true->te (some (x i)::some (y i)::r)=some (h i))) ->
  e8 (k6 0 1) tt te (none::none::r) (is.map λi=>.tuple [x i,y i])=some ((is.filter p).map h)
 | [],_=>rfl
 | i::is,hh=>by
  let⟨h1,h2⟩:=hh i zE;have ih:=pP is λj hj=>hh j (zC _ hj);have hg:k6 0 1 (none::none::r) (.tuple [x i,y i])=some (some (x i)::some (y i)::r):=by
   simp?[k6,isFree,xO,yW,qE,Option.isNone_none,jL,xF,yT,yU]
  rw[zI,e8,hg];simp?[zA,h1];cases hp:p i with
  | true=>simp[h2 hp,ih,hp]
  | false=>simp[ih,hp]
def gc{cs:List Nat}{fi:Dl.Env->Option (List D)}{tt:Dl.Env->Option Bool}{te:Dl.Env->Option D}{ρ:Dl.Env}{n:Nat}{x y h:Nat->D}{p:Nat->Bool}(RA:fi ρ=some ((List.range n).map λi=>.tuple [x i,y i]))(hl:n<=1000)
  (hh:∀i,i < n->tt (some (x i)::some (y i)::cs.map λj=>(ρ[j]?).getD none)=some (p i)/\(p i=true->te (some (x i)::some (y i)::cs.map λj=>(ρ[j]?).getD none)=some (h i))) :
  ay 2 cs fi (k6 0 1) tt te ρ=some (((List.range n).filter p).map h):=by
 have:=pP (tt:=tt) (te:=te) (r:=cs.map λj=>(ρ[j]?).getD none) (p:=p) (h:=h) (List.range n) λi hi=>hh i (by simpa using hi);simp?[ay,RA,zA,iy,List.replicate,xD,xM,this];refine bB ?_;rw[zD];refine yC (xN _ _) ?_;rw[zR];lia
def lJ{W:List Wy}{P:List Int}(h:P.length=W.length):hZ (W.map aB) (P.map PyData.int)=(List.range W.length).map λi=>.tuple [aB (bz W i),.int (P.getD i 0)]:=by
 apply List.ext_getElem?;intro i;by_cases hi:i < W.length
 ·have hz:i < (hZ (W.map aB) (P.map PyData.int)).length:=by rw[kl];simp[h];exact hi
  rw[zK hz];let⟨x,y,e1,e2,e3⟩:=nI (zK hz);rw[zO,GP hi] at e1;rw[zO,zK (by lia)] at e2;cases e1;have e2:PyData.int P[i]=y:=by simpa using e2
  rw[e3,<- e2];have:i < P.length:=by lia
  simp[hi,this,zG]
 ·rw[jI (by rw[kl];simp;lia),jI (by simp;lia)]
def Sm(P:List Int):Prop:=∀k,-1000000<=P.getD k 0/\P.getD k 0<=1000000
def zc(hs:Sm P)(hw:W.length<=16)(b:Bool)(p:Int):Iw ((own b W p).map λi=>P.getD i 0)=true:=by
 unfold Iw;rw[zF,zJ,xE];refine⟨?_,λx hx=>?_⟩
 ·have:=Ga b W p;rw[zD];lia
 ·let⟨i,_,rfl⟩:=List.mem_map.mp hx;rw[zF,zJ,zJ];exact hs i
def Bu(h:Wd G T W)(hp:P.length=W.length)(hs:Sm P)(b:Bool)(p:Int):gh [aR G T W,ao P,.int (sI b),.int p]=some (.int (rg b W P p)):=by
 have hw:=h.wl;refine bj ?_;show qf [.val (aR G T W),.val (ao P),.val (.int (sI b)),.val (.int p)]=_;have hz:dQ (ae (f2 aC (aa 0) (fC (.int 2))) (ae (aa 1) ag)) [some (aR G T W),some (ao P),some (.int (sI b)),some (.int p)]=some ((List.range W.length).map λi=>.tuple [aB (bz W i),.int (P.getD i 0)]):=by
  rw[<- lJ hp];rfl
 have c:ay 2 [2,3] (dQ (ae (f2 aC (aa 0) (fC (.int 2))) (ae (aa 1) ag))) (k6 0 1) (fB (f2 aX (f2 aC (aa 0) (aa 2)) (aa 3))) (aa 1) [some (aR G T W),some (ao P),some (.int (sI b)),some (.int p)]=some ((own b W p).map λi=>.int (P.getD i 0)):=by
  rw[gc (p:=λi=>decide (rG b (bz W i)=p)) (h:=λi=>.int (P.getD i 0)) hz (by lia) λi hi=>⟨?_,λ_=>rfl⟩]
  ·rfl
  ·show fB (f2 aX (f2 aC (aa 0) (aa 2)) (aa 3)) [some (aB (bz W i)),some (.int (P.getD i 0)),some (.int (sI b)),some (.int p)]=_;exact aL (by rw[D9 (a:=.int (rG b (bz W i))) (b:=.int p) (ar (zg b _) rfl rfl) rfl,eX])
 refine bA ?_;have e:((own b W p).map λi=>PyData.int (P.getD i 0))=((own b W p).map λi=>P.getD i 0).map PyData.int:=by rw[zM];rfl
 show aW nC (ae (cm (ay 2 [2,3] (dQ (ae (f2 aC (aa 0) (fC (.int 2))) (ae (aa 1) ag))) (k6 0 1) (fB (f2 aX (f2 aC (aa 0) (aa 2)) (aa 3))) (aa 1))) ag) [some (aR G T W),some (ao P),some (.int (sI b)),some (.int p)]=_;rw[e] at c;simp?[aW,ae,ag,cm,c,zB,zA];show nC [.list (((own b W p).map λi=>P.getD i 0).map PyData.int)]=_;simp?[nC,c7,oneOf,fA,zA,eR,zc hs hw b p,xF];rfl
def nZ(L:List Pl):cY 0 (L.map cg)=(List.range L.length).map λi=>.tuple [nD i,cg (L.getD i (0,[]))]:=by
 rw[enum_zip];apply jD
 ·simp
 ·intro i h1 h2;have:i < L.length:=by simpa using h2
  simp[this,zG]
def p0(is:List Nat):j4 [.list (is.map λi=>.bool (p i))]=some (.bool (is.all p)):=by
 have:∀is:List Nat,boolsOf (is.map λi=>PyData.bool (p i))=some (is.map p):=λis=>by
  induction is with
  | nil=>rfl
  | cons i is ih=>simp[boolsOf,ih]
 simp?[j4,oneOf,zA,this,zB,List.all_map];rfl
def zl(h:Wd G T W)(hp:P.length=W.length)(hs:Sm P)(b:Bool):cN [aR G T W,ao P,.int (sI b)]=some (.bool ((List.range (eS b G T).length).all λi=>decide (rg b W P i<=(lI b G T i).1))):=by
 have hl:=h.pl b;refine bj ?_;show gS [.val (aR G T W),.val (ao P),.val (.int (sI b))]=_;have he:cE (ae (f2 aC (aa 0) (aa 2)) ag) [some (aR G T W),some (ao P),some (.int (sI b))]=some ((List.range (eS b G T).length).map λi=>.tuple [nD i,cg (lI b G T i)]):=by
  have:=nZ (eS b G T);unfold lI;rw[<- this];cases b<;>rfl
 have c:=gc (cs:=[0,1,2]) (tt:=λ_=>some true) (te:=f2 sQ (ai 4 gh (ae (aa 2) (ae (aa 3) (ae (aa 4) (ae (aa 0) ag))))) (f2 aC (aa 1) (fC (.int 0)))) (p:=λ_=>true) (h:=λi=>.bool (decide (rg b W P i<=(lI b G T i).1))) he (by lia) λi hi=>⟨rfl,λ_=>ar (a:=.int (rg b W P i)) (b:=.int (lI b G T i).1) rfl (call_of (Bu h hp hs b i) rfl rfl) rfl⟩
 refine bA ?_;show aW j4 (ae (cm (ay 2 [0,1,2] (cE (ae (f2 aC (aa 0) (aa 2)) ag)) (k6 0 1) (λ_=>some true) (f2 sQ (ai 4 gh (ae (aa 2) (ae (aa 3) (ae (aa 4) (ae (aa 0) ag))))) (f2 aC (aa 1) (fC (.int 0)))))) ag) [some (aR G T W),some (ao P),some (.int (sI b))]=_;simp?[aW,ae,ag,cm,c,zB,zA];rw[show (List.range (eS b G T).length).filter (λ_=>true)=List.range (eS b G T).length by simp,p0]
def ES(ha:fa ρ=some (.bool true))(hb:fb ρ=some d):iP fa fb ρ=some d:=by
 simp?[iP,ha,zA,hb]
def GZ(ha:fa ρ=some (.bool false)):iP fa fb ρ=some (.bool false):=by
 simp?[iP,ha,zA]
def Gq(ha:fa ρ=some (.bool a))(hb:fb ρ=some (.bool b)):iP fa fb ρ=some (.bool (a&&b)):=by
 cases a
 ·exact GZ ha
 ·exact ES ha hb
def cH(h:f ρ=some d):aW g (ae f ag) ρ=g [d]:=by
 simp?[aW,ae,ag,h,zB,zA]
def ll{l:List α}(h:f ρ=some (.tuple (l.map k))):aW bD (ae f ag) ρ=some (nD l.length):=by
 rw[cH h,HI,zD]
def Nq(W:List Wy)(P:List Int):Bool:=(List.range W.length).all λk=>decide (0<=P.getD k 0)&&decide (P.getD k 0<=(bz W k).2.2)
def xw(b:Bool)(G T:List Pl)(W:List Wy)(P:List Int):Bool:=(List.range (eS b G T).length).all λi=>decide (rg b W P i<=(lI b G T i).1)
def BK(G T:List Pl)(W:List Wy)(P:List Int):Bool:=Nq W P&&(xw false G T W P&&xw true G T W P)
def jt(hp:P.length=W.length):BK G T W P=true↔Pn G T W P:=by
 simp?[BK,Nq,xw,zF,xE,zS,zJ];constructor
 ·rintro⟨h1,h2,h3⟩;exact⟨hp,h1,λb=>by cases b<;>assumption⟩
 ·intro p;exact⟨p.bd,p.am false,p.am true⟩
def Kv(P:List Int):iY (ao P)=true:=rfl
def iN(h:Wd G T W)(hp:P.length=W.length)(hs:Sm P):cA [aR G T W,ao P]=some (.bool (BK G T W P)):=by
 have hw:=h.wl;have hlen:(P.map PyData.int).length=W.length:=by rw[zD,hp]
 refine bj ?_;show lV [.val (aR G T W),.val (ao P),.Qb]=_;unfold lV;have t1:Dl.aH 2 [0] (f2 aC (aa 0) (fC (.int 2))) [.val (aR G T W),.val (ao P),.Qb]=some (.nx [.val (aR G T W),.val (ao P),.val (.tuple (W.map aB))]):=A4 (d:=.tuple (W.map aB)) rfl rfl rfl rfl;rw[aj t1];have el:bE [ao P,nD W.length,nD W.length]=some (.bool true):=by
  rw[show nD W.length=.int ((W.length:Nat):Int) from rfl,dq (Kv P)];simp[long,ao,hp]
 have hl:∀ρ:Dl.Env,aa 2 ρ=some (.tuple (W.map aB))->aW bD (ae (aa 2) ag) ρ=some (nD W.length):=λρ hr=>ll hr;have c1:(bK (fB (ai 3 bE (ae (aa 1) (ae (aW bD (ae (aa 2) ag)) (ae (aW bD (ae (aa 2) ag)) ag)))))) (aG [.val (aR G T W),.val (ao P),.val (.tuple (W.map aB))])=some false :=
  cB (aL (call_of el (cons_of rfl (cons_of (hl _ rfl) (cons_of (hl _ rfl) rfl))) rfl))
 rw[aj (cI c1)];have hz:dQ (ae (aa 2) (ae (aa 1) ag)) [some (aR G T W),some (ao P),some (.tuple (W.map aB))]=some ((List.range W.length).map λi=>.tuple [aB (bz W i),.int (P.getD i 0)]):=by
  rw[<- lJ hp];rfl
 have c2:=gc (cs:=[]) (tt:=λ_=>some true) (te:=ai 3 aU (ae (aa 1) (ae (fC (.int 0)) (ae (f2 aC (aa 0) (fC (.int 2))) ag)))) (p:=λ_=>true) (h:=λk=>.bool (decide (0<=P.getD k 0)&&decide (P.getD k 0<=(bz W k).2.2))) hz (by lia)
  λi hi=>⟨rfl,λ_=>call_of (dF (d:=.int (P.getD i 0)) rfl 0 (bz W i).2.2) rfl rfl⟩
 have Rj:(fB (aW j4 (ae (cm (ay 2 [] (dQ (ae (aa 2) (ae (aa 1) ag))) (k6 0 1) (λ_=>some true) (ai 3 aU (ae (aa 1) (ae (fC (.int 0)) (ae (f2 aC (aa 0) (fC (.int 2))) ag)))))) ag))) [some (aR G T W),some (ao P),some (.tuple (W.map aB))]=some (Nq W P):=by
  refine aL ?_;simp?[aW,ae,ag,cm,c2,zB,zA];rw[show (List.range W.length).filter (λ_=>true)=List.range W.length by simp,p0];rfl
 have k0:=zl h hp hs false;have k1:=zl h hp hs true;cases hb:Nq W P with
 | false =>
  rw[hb] at Rj;refine gJ ((dJ (cB Rj)).trans ?_);rw[BK,hb];exact bA rfl
 | true =>
  rw[hb] at Rj;rw[aj (cI (cB Rj)),BK,hb,jH];exact bA (Gq (call_of k0 rfl rfl) (call_of k1 rfl rfl))
def eY(hk:k < W.length):bz W k∈W:=ia hk ▸ xY hk
def Pn.smP(h:Wd G T W)(p:Pn G T W P):Sm P:=λk=>by
 by_cases hk:k < W.length
 ·have:=p.bd k hk;have:=(h.wr _ (eY hk)).2.2.2;lia
 ·rw[zG,jI (by rw[p.len];lia)];simp
def iU(h:Wd G T W)(p:Pn G T W P):cA [aR G T W,ao P]=some (.bool true):=by
 rw[iN h p.len (p.smP h),(jt p.len).mpr p]
def qx(h:Wd G T W)(p:Pn G T W P):gC [aR G T W,ao P]=some .none:=by
 have:ej [.val (aR G T W),.val (ao P)]=some (.nx [.val (aR G T W),.val (ao P)]):=by
  unfold ej;refine (aj (jh (call_of (dI h) rfl rfl))).trans ?_;exact cI (cB (aL (call_of (iU h p) rfl rfl)))
 show (ej [.val (aR G T W),.val (ao P)]).map _=_;rw[this];rfl
def tup_is(h:fs ρ=some ds)(hl:ds.length<=1000):bc fs ρ=some (.tuple ds):=by
 simp?[bc,h,zA,bB (show ds.length<=4000 by lia),zB]
def dG(f:Nat->D)(R:Nat->aq->Prop):∀ (n k:Nat) (ρ:aq),
  (∀j ρ,k<=j->j < k+n->R j ρ->∃ρ1 QU,tgt ρ (f j)=some ρ1/\gb ρ1=some (.nx QU)/\R (j+1) QU)->R k ρ->∃ρ',cC tgt gb ((List.range' k n).map f) ρ=some (.nx ρ')/\R (k+n) ρ'
 | 0,k,ρ,_,h=>⟨ρ,rfl,h⟩
 | n+1,k,ρ,hh,h=>by
  let⟨ρ1,QU,e1,e2,h2⟩:=hh k ρ (yK _) (by lia) h;let⟨ρ',e3,h3⟩:=dG f R n (k+1) QU (λj ρ a b=>hh j ρ (by lia) (by lia)) h2;refine⟨ρ',?_,by rw[show k+(n+1)=k+1+n by lia];exact h3⟩;rw[kS,zI,cC,e1,zA,e2];exact e3
def MT(hl:n<=1000):Dl.ft (.tuple [.int 0]) (nD n)=some (ao (zs n)):=by
 have e:uA (.tuple [.int 0]) (nD n)=some (ao (zs n)):=by
  show (if m4 ((n:Nat):Int)=true/\[PyData.int 0].length * ((n:Nat):Int).toNat<=sizeLine then some (PyData.tuple (List.replicate ((n:Nat):Int).toNat [PyData.int 0]).flatten) else none)=_;have hz:[PyData.int 0].length * n<=sizeLine:=by
   rw[xA,Nat.one_mul];exact yC hl (by decide)
  rw[yF,yJ ⟨kh hl,hz⟩,Cy];rfl
 show ((qt oW λi j=>PyData.int (i * j)) (.tuple [.int 0]) (nD n)).or (uA (.tuple [.int 0]) (nD n))=_;rw[e];rfl
def u9{W:List Wy}{P:List Int}(h:P.length=W.length):hZ (P.map PyData.int) (W.map aB)=(List.range W.length).map λi=>.tuple [.int (P.getD i 0),aB (bz W i)]:=by
 have:∀ (a:List Int) (l:List Wy),a.length=l.length->hZ (a.map PyData.int) (l.map aB)=(List.range l.length).map λi=>.tuple [.int (a.getD i 0),aB (bz l i)]:=by
  intro a
  induction a with
  | nil=>intro l e;cases l with|nil=>rfl|cons _ _=>simp at e
  | cons x a ih =>
   intro l e;cases l with
   | nil=>simp at e
   | cons w l =>
    rw[zI,zI,hZ,ih l (by simpa using e),zL,kZ,zI,zM];rfl
 exact this P W h
def u6(h:Wd G T W)(hp:P.length=W.length)(hs:Sm P)(b:Bool)(p:Int):dN [aR G T W,ao P,.int (sI b),.int p]=some (.int (rg b W P p)):=by
 have hw:=h.wl;refine bj ?_;show mh [.val (aR G T W),.val (ao P),.val (.int (sI b)),.val (.int p)]=_;have hz:dQ (ae (aa 1) (ae (f2 aC (aa 0) (fC (.int 2))) ag)) [some (aR G T W),some (ao P),some (.int (sI b)),some (.int p)]=some ((List.range W.length).map λi=>.tuple [.int (P.getD i 0),aB (bz W i)]):=by
  rw[<- u9 hp];rfl
 have c:ay 2 [2,3] (dQ (ae (aa 1) (ae (f2 aC (aa 0) (fC (.int 2))) ag))) (k6 0 1) (fB (f2 aX (f2 aC (aa 1) (aa 2)) (aa 3))) (aa 0) [some (aR G T W),some (ao P),some (.int (sI b)),some (.int p)]=some ((own b W p).map λi=>.int (P.getD i 0)):=by
  rw[gc (p:=λi=>decide (rG b (bz W i)=p)) (h:=λi=>.int (P.getD i 0)) hz (by lia) λi hi=>⟨?_,λ_=>rfl⟩]
  ·rfl
  ·show fB (f2 aX (f2 aC (aa 1) (aa 2)) (aa 3)) [some (.int (P.getD i 0)),some (aB (bz W i)),some (.int (sI b)),some (.int p)]=_;exact aL (by rw[D9 (a:=.int (rG b (bz W i))) (b:=.int p) (ar (zg b _) rfl rfl) rfl,eX])
 refine bA ?_;have e:((own b W p).map λi=>PyData.int (P.getD i 0))=((own b W p).map λi=>P.getD i 0).map PyData.int:=by rw[zM];rfl
 show aW nC (ae (cm (ay 2 [2,3] (dQ (ae (aa 1) (ae (f2 aC (aa 0) (fC (.int 2))) ag))) (k6 0 1) (fB (f2 aX (f2 aC (aa 1) (aa 2)) (aa 3))) (aa 0))) ag) [some (aR G T W),some (ao P),some (.int (sI b)),some (.int p)]=_;rw[e] at c;simp?[aW,ae,ag,cm,c,zB,zA];show nC [.list (((own b W p).map λi=>P.getD i 0).map PyData.int)]=_;simp?[nC,c7,oneOf,fA,zA,eR,zc hs hw b p,xF];rfl
def Ox:aq->Option Out:=(dh [0,2] (cE (ae (f2 aC (aa 0) (aa 2)) ag)) (iQ 3 4) (fu (fB (f2 D1 (ai 4 dN (ae (aa 0) (ae (aa 1) (ae (aa 2) (ae (aa 3) ag))))) (f2 aC (aa 4) (fC (.int 0))))) (aO (fC (.bool false))) eM))
def Hb(h:Wd G T W)(hp:P.length=W.length)(hs:Sm P)(b:Bool)(x y:Slot):(xw b G T W P=false->Ox [.val (aR G T W),.val (ao P),.val (.int (sI b)),x,y]=some (.rt (.bool false)))/\(xw b G T W P=true->∃x' y',Ox [.val (aR G T W),.val (ao P),.val (.int (sI b)),x,y]=some (.nx [.val (aR G T W),.val (ao P),.val (.int (sI b)),x',y'])):=by
 have hl:=h.pl b;let⟨f1,RY⟩:=i5 (tgt:=iQ 3 4) (gb:=fu (fB (f2 D1 (ai 4 dN (ae (aa 0) (ae (aa 1) (ae (aa 2) (ae (aa 3) ag))))) (f2 aC (aa 4) (fC (.int 0))))) (aO (fC (.bool false))) eM)
  (λρ=>∃x y,ρ=[.val (aR G T W),.val (ao P),.val (.int (sI b)),x,y]) (λi:Nat=>.tuple [nD i,cg (lI b G T i)]) (λi=>decide ((lI b G T i).1 < rg b W P i)) (λ_=>.bool false)
  (l:=List.range (eS b G T).length) (ρ:=[.val (aR G T W),.val (ao P),.val (.int (sI b)),x,y])
  (λρ i hi Rc=>by
   let⟨x,y,rfl⟩:=Rc;have c:(fB (f2 D1 (ai 4 dN (ae (aa 0) (ae (aa 1) (ae (aa 2) (ae (aa 3) ag))))) (f2 aC (aa 4) (fC (.int 0))))) (aG [.val (aR G T W),.val (ao P),.val (.int (sI b)),.val (nD i),.val (cg (lI b G T i))])=some (decide ((lI b G T i).1 < rg b W P i)) :=
    aL (ar (Ak _ _) (call_of (u6 h hp hs b i) rfl rfl) (ar (a:=cg (lI b G T i)) (b:=.int 0) rfl rfl rfl))
   refine⟨_,rfl,λhq=>?_,λhq=>?_⟩
   ·rw[hq] at c;exact (dJ c).trans (bA rfl)
   ·rw[hq] at c;exact⟨_,cI c,_,_,rfl⟩) ⟨_,_,rfl⟩
 have he:cE (ae (f2 aC (aa 0) (aa 2)) ag) (aY [.val (aR G T W),.val (ao P),.val (.int (sI b)),x,y])=some ((List.range (eS b G T).length).map λi=>.tuple [nD i,cg (lI b G T i)]):=by
  have:=nZ (eS b G T);unfold lI;rw[<- this];cases b<;>rfl
 have hh:hand [0,2] 0 [Slot.val (aR G T W),.val (ao P),.val (.int (sI b)),x,y]=[Slot.val (aR G T W),.val (ao P),.val (.int (sI b)),x,y]:=rfl;unfold xw;constructor
 ·intro hk;cases e:(List.range (eS b G T).length).find? λi=>decide ((lI b G T i).1 < rg b W P i) with
  | some i=>exact ba (f1 i e) he hh
  | none =>
   rw[List.find?_eq_none] at e;rw[List.all_eq_false] at hk;let⟨i,hi,hn⟩:=hk;have:=e i hi;simp?[zJ] at this hn;lia
 ·intro hk;have e:(List.range (eS b G T).length).find? (λi=>decide ((lI b G T i).1 < rg b W P i))=none:=by
   rw[List.find?_eq_none];intro i hi;have:=List.all_eq_true.mp hk i hi;simp?[zJ] at this ⊢;lia
  let⟨ρ',e',x',y',rfl⟩:=RY e;exact⟨x',y',ba e' he hh⟩
def KD:oR G T W P=(xw false G T W P&&xw true G T W P):=rfl
def va(h:Wd G T W)(hp:P.length=W.length)(hs:Sm P):dS [aR G T W,ao P]=some (.bool (oR G T W P)):=by
 let⟨f1,RY⟩:=i5 (tgt:=gn 2) (gb:=Ox)
  (λρ=>∃x y z,ρ=[.val (aR G T W),.val (ao P),x,y,z]) (λb:Bool=>.int (sI b)) (λb=>!(xw b G T W P)) (λ_=>.bool false)
  (l:=[false,true]) (ρ:=[.val (aR G T W),.val (ao P),.Qb,.Qb,.Qb])
  (λρ b _ Rc=>by
   let⟨x,y,z,rfl⟩:=Rc;let⟨r1,r2⟩:=Hb h hp hs b y z;refine⟨_,rfl,λhq=>?_,λhq=>?_⟩
   ·exact r1 (by simpa using hq)
   ·let⟨x',y',e⟩:=r2 (by simpa using hq);exact⟨_,e,_,_,_,rfl⟩) ⟨_,_,_,rfl⟩
 have hr:cZ (ae (fC (.int 2)) ag) (aY [.val (aR G T W),.val (ao P),.Qb,.Qb,.Qb])=some ([false,true].map λb=>.int (sI b)):=nX (n:=2) rfl (by lia);refine bj ?_;show iA [.val (aR G T W),.val (ao P),.Qb,.Qb,.Qb]=_;unfold iA;rw[KD];cases e0:xw false G T W P with
 | false =>
  have e:[false,true].find? (λb=>!(xw b G T W P))=some false:=by rw[vA (by simp[e0])]
  exact gJ (ba (f1 _ e) hr rfl)
 | true =>
  cases e1:xw true G T W P with
  | false =>
   have e:[false,true].find? (λb=>!(xw b G T W P))=some true:=by rw[kC (by simp[e0]),vA (by simp[e1])]
   exact gJ (ba (f1 _ e) hr rfl)
  | true =>
   have e:[false,true].find? (λb=>!(xw b G T W P))=none:=by rw[kC (by simp[e0]),kC (by simp[e1])];rfl
   let⟨ρ',e',x,y,z,rfl⟩:=RY e;exact (aj (ba e' hr rfl)).trans (bA rfl)
def Sm.app(ha:Sm a)(hb:Sm b):Sm (a++b):=λk=>by
 by_cases hk:k < a.length
 ·have:=ha k
  rwa [show (a++b).getD k 0=a.getD k 0 by simp[yQ hk]]
 ·have:=hb (k - a.length)
  rwa [show (a++b).getD k 0=b.getD (k - a.length) 0 by simp[yR (by lia:a.length<=k)]]
def Lg(h1:-1000000<=x)(h2:x<=1000000):Sm [x]:=λk=>by
 cases k with
 | zero=>exact⟨h1,h2⟩
 | succ k=>simp
def Mu(n:Nat):Sm (zs n):=λk=>by rw[Il];lia
def oV(ns:List Int)(at':Int)(W:List Wy)(k:Nat):Int:=dr ns (at'+(k:Nat)) ((bz W k).2.2+1)
def wZ(hl:ns.length<=63)(h:Wd G T W)(hk:k < W.length):0<=oV ns at' W k/\oV ns at' W k<=(bz W k).2.2:=by
 have:=(h.wr _ (eY hk)).2.2;have h1:=IM (ns:=ns) (at'+(k:Nat)) ((bz W k).2.2+1) hl (by lia);have h2:=IP (ns:=ns) (at'+(k:Nat)) ((bz W k).2.2+1) hl (by lia);unfold oV;lia
def OO:aq->Option Out:=(av (aH 6 [0,1,3,4,5] (f2 aw (aa 3) (bc (ae (ai 3 ak (ae (aa 0) (ae (f2 aw (aa 1) (aa 4)) (ae (f2 aw (f2 aC (aa 5) (fC (.int 2))) (fC (.int 1))) ag)))) ag)))) (av (aH 7 [2,6] (ai 2 dS (ae (aa 2) (ae (f2 aw (aa 6) (f2 ft (bc (ae (fC (.int 0)) ag)) (f2 Dl.ir (aW bD (ae (f2 aC (aa 2) (fC (.int 2))) ag)) (aW bD (ae (aa 6) ag))))) ag)))) (aH 3 [3,6,7] (Fd (fB (aa 7)) (aa 6) (f2 aw (aa 3) (bc (ae (fC (.int 0)) ag)))))))
def rR(h:a.length+b.length<=1000):Dl.aw (ao a) (ao b)=some (ao (a++b)):=by
 unfold ao;rw[ye (by simp;lia),qV]
def sd(h:tc ρ=some true)(ha:fa ρ=some d):Fd tc fa fb ρ=some d:=by
 simp?[Fd,h,zA,ha]
def wY(h:tc ρ=some false)(ha:fb ρ=some d):Fd tc fa fb ρ=some d:=by
 simp?[Fd,h,zA,ha]
def KA(hl:ns.length<=63)(h:Wd G T W)(hk:k<=W.length):Sm (jl (oV ns at' W) G T W k):=λj=>by
 by_cases hj:j < k
 ·have:=w4 (d:=oV ns at' W) (G:=G) (T:=T) (W:=W) (λk hk=>wZ hl h hk) h.lim k hk j hj;have:=(h.wr _ (eY (show j < W.length by lia))).2.2;lia
 ·rw[zG,jI (by rw[jy];lia)];simp
def FO(hl:ns.length<=63)(h:Wd G T W)(hk:k < W.length)(x y:Slot):∃x' y',OO [.val (gT ns),.val (.int at'),.val (aR G T W),.val (ao (jl (oV ns at' W) G T W k)),.val (nD k),.val (aB (bz W k)),x,y]=some (.nx [.val (gT ns),.val (.int at'),.val (aR G T W),.val (ao (jl (oV ns at' W) G T W (k+1))),.val (nD k),.val (aB (bz W k)),x',y']):=by
 have hw:=h.wl;have hr:=(h.wr _ (eY hk)).2.2;have Yq:=KA (at':=at') hl h (jP hk);have QA:=jy (d:=oV ns at' W) (G:=G) (T:=T) (W:=W) k;have QD:=wZ (at':=at') hl h hk;have e2:jl (oV ns at' W) G T W (k+1)=if oR G T W ((jl (oV ns at' W) G T W k++[oV ns at' W k])++zs (W.length - (jl (oV ns at' W) G T W k++[oV ns at' W k]).length))=true then jl (oV ns at' W) G T W k++[oV ns at' W k] else jl (oV ns at' W) G T W k++[0]:=rfl
 rw[e2];clear e2;generalize hf:jl (oV ns at' W) G T W k=f at Yq QA ⊢;generalize hd:oV ns at' W k=d at QD ⊢;have ed:∀ρ:Dl.Env,aa 0 ρ=some (gT ns)->aa 1 ρ=some (.int at')->aa 4 ρ=some (nD k)->aa 5 ρ=some (aB (bz W k))->(ai 3 ak (ae (aa 0) (ae (f2 aw (aa 1) (aa 4)) (ae (f2 aw (f2 aC (aa 5) (fC (.int 2))) (fC (.int 1))) ag)))) ρ=some (.int d):=λρ a b c e=>by
  rw[<- hd];exact call_of (Eo (at'+((k:Nat):Int)) ((bz W k).2.2+1) hl (by lia)) (cons_of a (cons_of (ar (az at' k) b c) (cons_of (ar (az (bz W k).2.2 1) (ar (sG _) e rfl) rfl) rfl))) rfl
 have em:∀ρ:Dl.Env,aa 0 ρ=some (gT ns)->aa 1 ρ=some (.int at')->aa 3 ρ=some (ao f)->aa 4 ρ=some (nD k)->aa 5 ρ=some (aB (bz W k))->(f2 aw (aa 3) (bc (ae (ai 3 ak (ae (aa 0) (ae (f2 aw (aa 1) (aa 4)) (ae (f2 aw (f2 aC (aa 5) (fC (.int 2))) (fC (.int 1))) ag)))) ag))) ρ=some (ao (f++[d])):=λρ a b z c e =>
  ar (rR (a:=f) (b:=[d]) (by simp;lia)) z (Lx (ed ρ a b c e))
 have t6:Dl.aH 6 [0,1,3,4,5] (f2 aw (aa 3) (bc (ae (ai 3 ak (ae (aa 0) (ae (f2 aw (aa 1) (aa 4)) (ae (f2 aw (f2 aC (aa 5) (fC (.int 2))) (fC (.int 1))) ag)))) ag))) [.val (gT ns),.val (.int at'),.val (aR G T W),.val (ao f),.val (nD k),.val (aB (bz W k)),x,y]=some (.nx [.val (gT ns),.val (.int at'),.val (aR G T W),.val (ao f),.val (nD k),.val (aB (bz W k)),.val (ao (f++[d])),y]) :=
  bG (em _ rfl rfl rfl rfl rfl) (em _ rfl rfl rfl rfl rfl) rfl
 have hlen:(f++[d]).length=k+1:=by simp[QA]
 have Te:((W.length:Nat):Int) - (((f++[d]).length:Nat):Int)=((W.length - (f++[d]).length:Nat):Int):=by lia
 have Tu:((f++[d])++zs (W.length - (f++[d]).length)).length=W.length:=by simp[zs,QA];lia
 have SS:Sm ((f++[d])++zs (W.length - (f++[d]).length)):=(Yq.app (Lg (by lia) (by lia))).app (Mu _);have ef:∀ρ:Dl.Env,aa 2 ρ=some (aR G T W)->aa 6 ρ=some (ao (f++[d]))->(ai 2 dS (ae (aa 2) (ae (f2 aw (aa 6) (f2 ft (bc (ae (fC (.int 0)) ag)) (f2 Dl.ir (aW bD (ae (f2 aC (aa 2) (fC (.int 2))) ag)) (aW bD (ae (aa 6) ag))))) ag))) ρ=some (.bool (oR G T W ((f++[d])++zs (W.length - (f++[d]).length)))):=λρ a b=>by
  refine call_of (va h Tu SS) (cons_of a (cons_of (ar (rR ?_) b (ar (MT (n:=W.length - (f++[d]).length) (by lia)) (Lx rfl) ?_)) rfl)) rfl
  ·rw[<- zN,Tu];lia
  ·rw[show nD (W.length - (f++[d]).length)=.int (((W.length:Nat):Int) - (((f++[d]).length:Nat):Int)) by rw[Te]];exact ar (sub_int _ _) (ll (l:=W) (k:=aB) (ar (d9 G T W) a rfl)) (ll (l:=f++[d]) (k:=PyData.int) b)
 have t7:Dl.aH 7 [2,6] (ai 2 dS (ae (aa 2) (ae (f2 aw (aa 6) (f2 ft (bc (ae (fC (.int 0)) ag)) (f2 Dl.ir (aW bD (ae (f2 aC (aa 2) (fC (.int 2))) ag)) (aW bD (ae (aa 6) ag))))) ag))) [.val (gT ns),.val (.int at'),.val (aR G T W),.val (ao f),.val (nD k),.val (aB (bz W k)),.val (ao (f++[d])),y]=some (.nx [.val (gT ns),.val (.int at'),.val (aR G T W),.val (ao f),.val (nD k),.val (aB (bz W k)),.val (ao (f++[d])),.val (.bool (oR G T W ((f++[d])++zs (W.length - (f++[d]).length))))]) :=
  bG (ef _ rfl rfl) (ef _ rfl rfl) rfl
 unfold OO;rw[aj t6,aj t7];have h0:∀ρ:Dl.Env,aa 3 ρ=some (ao f)->(f2 aw (aa 3) (bc (ae (fC (.int 0)) ag))) ρ=some (ao (f++[0])):=λρ z=>ar (rR (a:=f) (b:=[0]) (by simp;lia)) z (Lx rfl);generalize oR G T W ((f++[d])++zs (W.length - (f++[d]).length))=fb;cases fb with
 | true =>
  rw[yJ rfl];exact⟨_,_,bG (sd (aL rfl) rfl) (sd (aL rfl) rfl) rfl⟩
 | false =>
  rw[yL (by simp)];exact⟨_,_,bG (wY (aL rfl) (h0 _ rfl)) (wY (aL rfl) (h0 _ rfl)) rfl⟩
def iL(W:List Wy):cY 0 (W.map aB)=(List.range' 0 W.length).map λi=>.tuple [nD i,aB (bz W i)]:=by
 rw[<- yG,enum_zip];apply jD
 ·simp
 ·intro i h1 h2;have:i < W.length:=by simpa using h2
  simp[ia this]
def nr(hl:ns.length<=63)(h:Wd G T W):l8 [gT ns,.int at',aR G T W]=some (ao (jl (oV ns at' W) G T W W.length)):=by
 have hw:=h.wl;let⟨ρ',e,x4,x5,x6,x7,rfl⟩:=dG (tgt:=iQ 4 5) (gb:=OO) (λi=>.tuple [nD i,aB (bz W i)]) (λk ρ=>∃x4 x5 x6 x7,ρ=[.val (gT ns),.val (.int at'),.val (aR G T W),.val (ao (jl (oV ns at' W) G T W k)),x4,x5,x6,x7]) W.length 0 [.val (gT ns),.val (.int at'),.val (aR G T W),.val (ao []),.Qb,.Qb,.Qb,.Qb]
  (λj ρ _ hj Rc=>by
   let⟨x4,x5,x6,x7,rfl⟩:=Rc;let⟨x',y',e⟩:=FO (at':=at') hl h (show j < W.length by lia) x6 x7;exact⟨_,_,rfl,e,_,_,_,_,rfl⟩) ⟨_,_,_,_,rfl⟩
 refine bj ?_;show gX [.val (gT ns),.val (.int at'),.val (aR G T W),.Qb,.Qb,.Qb,.Qb,.Qb]=_;unfold gX;have t3:Dl.aH 3 [] (bc ag) [.val (gT ns),.val (.int at'),.val (aR G T W),.Qb,.Qb,.Qb,.Qb,.Qb]=some (.nx [.val (gT ns),.val (.int at'),.val (aR G T W),.val (ao []),.Qb,.Qb,.Qb,.Qb]) :=
  bG (tup_is (ds:=[]) rfl (by simp)) (tup_is (ds:=[]) rfl (by simp)) rfl
 rw[aj t3];have he:cE (ae (f2 aC (aa 2) (fC (.int 2))) ag) (aY [.val (gT ns),.val (.int at'),.val (aR G T W),.val (ao []),.Qb,.Qb,.Qb,.Qb])=some ((List.range' 0 W.length).map λi=>.tuple [nD i,aB (bz W i)]):=by
  rw[<- iL];rfl
 rw[qZ] at e;exact (aj (ba e he rfl)).trans (bA rfl)
def xi(hl:ns.length<=63)(h:Wd G T W):Pn G T W (jl (oV ns at' W) G T W W.length):=Kk h λk hk=>wZ hl h hk
def oE(h:Wd G T W):bP [aR G T W]=some (.bool true):=by rw[nU h.fit (by decide),h.Yn]
def sm(l:List Nat)(f:Nat->Int):Int:=(l.map f).sum
def ch(m:Nat->Int):Int->List Nat->Nat->Int
 | _,[],_=>0
 | a,q::r,k=>if k=q then min (m q) a else ch m (a - min (m q) a) r k
def up:List Nat->Nat->List Nat
 | [],_=>[]
 | q::r,k=>if k=q then [q] else q::up r k
def lst(b:Bool)(G T:List Pl)(W:List Wy)(i:Nat):List Nat:=OX b W i (lI b G T i).2
def TR(b:Bool)(G T:List Pl)(i:Nat):Int:=(lI b G T i).1
def vl(P:List Int)(q:Nat):Int:=P.getD q 0
section
variable {G T:List Pl}{W:List Wy}{P X c off:List Int}{b:Bool}{i k q:Nat}
end
section
variable {P X c off:List Int}
end
section
variable {P X c off:List Int}
end
section
variable {P X c off:List Int}
end
def fN(h:f ρ=some ds):cm f ρ=some (.list ds):=by
 simp?[cm,h,zB]
def rD(h:f ρ=some (.tuple ds)):aZ f ρ=some ds:=by
 simp?[aZ,h,zA,fA]
def c4(h:f ρ=some (.list ds)):aZ f ρ=some ds:=by
 simp?[aZ,h,zA,fA]
def jc(h:fs ρ=some ds)(hl:ds.length<=1000):cP fs ρ=some ds:=by
 simp?[cP,h,zA,bB (show ds.length<=4000 by lia)]
def me{l:List Nat}:SeqAt.shaped (.list (l.map nD))=true :=
 (gm.lst (b:=l.length) (k:=0) (by simp) λx hx=>by let⟨i,_,rfl⟩:=List.mem_map.mp hx;exact iD _).shaped (by decide)
def BC(l:List Nat):aX (.list (l.map nD)) (.list [])=some (.bool (decide (l=[]))):=by
 have h0:SeqAt.shaped (.list [])=true:=me (l:=[]);have e:(l.map nD).isEmpty=decide (l=[]):=by cases l<;>rfl
 simp?[aX,Fh,me,h0,jL,xF,PyData.eqv,oJ,e,zB]
structure Wk(G T G' T':List Pl):Prop where
 len:∀b,(eS b G' T').length=(eS b G T).length
 lik:∀b i,(lI b G' T' i).2=(lI b G T i).2
 gv:∀i,TR false G' T' i<=TR false G T i
 tk:∀i,TR true G T i<=TR true G' T' i
section
variable {P X off:List Int}
end
def ext(l:Int)(r:List Int):List (List Int):=(List.range (l+1).toNat).map λm=>r++[((m:Nat):Int)]
def nW:∀ (l:List α),(∀x∈l,tt (some (g x)::r)=some (q x)/\(q x=true->te (some (g x)::r)=some (f x)))->e8 (fG 0) tt te (none::r) (l.map g)=some ((l.filter q).map f)
 | [],_=>rfl
 | x::l,h=>by
  have ih:=nW (tt:=tt) (te:=te) (r:=r) (g:=g) (f:=f) (q:=q) l λy hy=>h y (zC _ hy);let⟨h1,h2⟩:=h x zE;have hg:fG 0 (none::r) (g x)=some (some (g x)::r):=rfl;rw[zI,e8,hg,zA,h1,zA,jT];cases e:q x with
  | true =>
   rw[yJ rfl,yJ rfl,h2 e,zA,ih];rfl
  | false =>
   rw[yL (by simp),yL (by simp),ih]
def Ap{α:Type}{cs:List Nat}{fi:Dl.Env->Option (List D)}{tt:Dl.Env->Option Bool}{te:Dl.Env->Option D}{ρ:Dl.Env}{l:List α}{g f:α->D}{q:α->Bool}(RA:fi ρ=some (l.map g))(hl:l.length<=3000)(hh:∀x∈l,tt (some (g x)::cs.map λj=>(ρ[j]?).getD none)=some (q x)/\(q x=true->te (some (g x)::cs.map λj=>(ρ[j]?).getD none)=some (f x))):ay 1 cs fi (fG 0) tt te ρ=some ((l.filter q).map f):=by
 have:=nW l hh;simp?[ay,RA,zA,iy,List.replicate,xD,xM,this];refine bB ?_;rw[zD];refine yC (xN _ _) ?_;lia
def iE{α:Type}{cs:List Nat}{fi:Dl.Env->Option (List D)}{tt:Dl.Env->Option Bool}{te:Dl.Env->Option D}{ρ:Dl.Env}{l:List α}{g f:α->D}{q:α->Bool}(RA:fi ρ=some (l.map g))(hl:l.length<=1000)(hh:∀x∈l,tt (some (g x)::cs.map λj=>(ρ[j]?).getD none)=some (q x)/\(q x=true->te (some (g x)::cs.map λj=>(ρ[j]?).getD none)=some (f x))):ay 1 cs fi (fG 0) tt te ρ=some ((l.filter q).map f):=Ap RA (by lia) hh
def sh(k q:Nat):Nat:=if q < k then q else q+1
section
variable {G T:List Pl}{W:List Wy}{P X:List Int}{b:Bool}{i k q:Nat}
end
def fV{a c:List Int}(h:lexLt a c=false)(h2:lexLt c a=false):a=c:=n8 (by unfold lexLe;rw[h2];rfl) (by unfold lexLe;rw[h];rfl)
section
open Ex
structure Pb(m:List D->Option D)(x:List D->Option Str)(ds:List D)(c:Str):Prop where
 n:m ds=none
 x:x ds=some c
structure LR(m:List D->Option D)(x:List D->Option Str)(ds:List D):Prop where
 n:m ds=some .none
 x:x ds=none
section
variable {m:List D->Option D}{x:List D->Option Str}{ds:List D}{c:Str}{n:Nat}{fs:Dl.Env->Option (List D)}{ρ:aq}
def Iz(h:m ds=none){ρ:Dl.Env}(hf:fs ρ=some ds):ai n m fs ρ=none:=by
 unfold ai;rw[hf,zA,h];simp
def O3(h:x ds=some c){ρ:Dl.Env}(hf:fs ρ=some ds)(hn:ds.length=n):zv n x fs ρ=some c:=by
 unfold zv;rw[hf,zA,yJ hn,h]
def O7(h:x ds=none){ρ:Dl.Env}(hf:fs ρ=some ds):zv n x fs ρ=none:=by
 unfold zv;rw[hf,zA,h];simp
def LR.one(B:LR m x ds)(hf:fs (aG ρ)=some ds)(hn:ds.length=n):nj (ai n m fs) ρ=some (.nx ρ)/\mL (zv n x fs) ρ=none:=⟨jh (call_of B.n hf hn),O7 B.x hf⟩
def runN(h:g (ds.map Slot.val++List.replicate (n - ds.length) .Qb)=none):bo g n ds=none:=by
 unfold bo;rw[h];rfl
def NC(h:t (aG ρ)=some true):BL t xa xb ρ=xa ρ:=by
 unfold BL;rw[h,zA,yJ rfl]
def Gn(h:t (aG ρ)=some false):BL t xa xb ρ=xb ρ:=by
 unfold BL;rw[h,zA,yL (by simp)]
end
section
variable {G T:List Pl}{W:List Wy}{P X:List Int}{b:Bool}{i:Nat}
def PX(h:Wd G T W):LR cf fQ [aR G T W]:=⟨dI h,Gn (cB (b:=true) (aL (call_of (oE h) rfl rfl)))⟩
def P4(hd:iY d=true)(h:whole a e d=true):LR fO iX [d,.int a,.int e]:=by
 have c:(bK (fB (ai 3 aU (ae (aa 0) (ae (aa 1) (ae (aa 2) ag)))))) (aG [.val d,.val (.int a),.val (.int e)])=some false:=cB (b:=true) (aL (call_of ((dF hd a e).trans (by rw[h])) rfl rfl));refine⟨?_,Gn c⟩;show (b0 [.val d,.val (.int a),.val (.int e)]).map _=_;rw[show b0 [.val d,.val (.int a),.val (.int e)]=some (.nx [.val d,.val (.int a),.val (.int e)]) from cI c];rfl
def okN(hd:iY d=true)(h:whole 0 (n - 1) d=true):LR eI ij [d,.int n]:=by
 have z:=(P4 hd h).one (ρ:=[.val d,.val (.int n)]) (fs:=ae (aa 0) (ae (fC (.int 0)) (ae (f2 Dl.ir (aa 1) (fC (.int 1))) ag))) (n:=3) rfl rfl;refine⟨?_,z.2⟩;show (bV [.val d,.val (.int n)]).map _=_;rw[show bV [.val d,.val (.int n)]=_ from z.1];rfl
def Iw(b:Bool):LR kb qv [.int (sI b)]:=by
 have hb:whole 0 (2 - 1) (.int (sI b))=true:=by cases b<;>rfl
 exact⟨rZ b,((okN (n:=2) rfl hb).one (ρ:=[.val (.int (sI b))]) (fs:=ae (aa 0) (ae (fC (.int 2)) ag)) (n:=2) rfl rfl).2⟩
def Na{fin:Str->Option D}(h:gb ρ=some (.rt d)):sU gb xg fin ρ=some (.rt d):=by
 unfold sU;rw[h]
def KP{fin:Str->Option D}(h:gb ρ=none)(h2:xg ρ=some c)(h3:fin c=some d):sU gb xg fin ρ=some (.rt d):=by
 unfold sU;rw[h,h2];simp?[zA,h3,zB]
end
end
def LV:∀ (l:List Int),i7 (l.map PyData.int)=true
 | []=>by simp[i7]
 | x::l=>by rw[zI,i7,LV l];simp[fU]
def Ob(l:List Int):fU (ao l)=true:=by rw[ao,fU,LV]
def pq{i:Nat}{fz:List Nat}{f:Dl.Env->Option D}{ρ:aq}{l:List Int}(hA:f (aG ρ)=some (ao l))(hF:f (aY (hand fz 0 ρ))=some (ao l)):Dl.aH i fz f ρ=some (.nx (ρ.set i (.val (ao l)))):=by
 have hs:Dl.lM (ao l)=false:=rfl;simp?[Dl.aH,hA,hF,zA,hs,yM,qM,zB,Ob,xF]
structure WI(s k:Int)(W:List Wy):Prop where
 mem:∀w∈W,∃j:Int,0<=j/\j < k/\w.1=j / s/\w.2.1=j % s/\1<=w.2.2/\w.2.2<=9
 VX:Ia W
 len:(W.length:Int)<=k
def PJ{a b s:Int}(hs:1<=s/\s<=4)(h:a < b):a / s < b / s\/(a / s=b / s/\a % s < b % s):=by
 have:s=1\/s=2\/s=3\/s=4:=by lia
 rcases this with rfl|rfl|rfl|rfl<;>lia
def OD{k m s:Int}(hs:1<=s/\s<=4)(hm:1<=m/\m<=4)(h0:0<=k)(h:k < m * s):(0<=k / s/\k / s < m)/\0<=k % s/\k % s < s:=by
 have a:s=1\/s=2\/s=3\/s=4:=by lia
 have b:m=1\/m=2\/m=3\/m=4:=by lia
 rcases a with rfl|rfl|rfl|rfl<;>rcases b with rfl|rfl|rfl|rfl<;>lia
def WI.next{ns:List Int}{a s k:Int}{W:List Wy}(hl:ns.length<=63)(hs:1<=s/\s<=4)(hk:0<=k)(h:WI s k W):WI s (k+1) (W++[(k / s,k % s,1+dr ns a 9)]):=by
 have g1:=IM (ns:=ns) a 9 hl (by decide);have g2:=IP (ns:=ns) a 9 hl (by decide);refine⟨λw hw=>?_,?_,?_⟩
 ·rcases List.mem_append.mp hw with hw|hw
  ·let⟨j,a,b,c⟩:=h.mem w hw;exact⟨j,a,by lia,c⟩
  ·rw[yI] at hw;subst hw;exact⟨k,hk,by lia,rfl,rfl,by simp only;lia,by simp only;lia⟩
 ·refine List.pairwise_append.mpr ⟨h.VX,List.pairwise_singleton _ _,λa ha b hb=>?_⟩;rw[yI] at hb;subst hb;let⟨j,_,b,c1,c2,_⟩:=h.mem a ha;rw[c1,c2];exact PJ hs b
 ·have:=h.len;rw[zN,xA];lia
def WI.skip{s k:Int}{W:List Wy}(h:WI s k W):WI s (k+1) W:=⟨λw hw=>by
 let⟨j,a,b,c⟩:=h.mem w hw;exact⟨j,a,by lia,c⟩,h.VX,by have:=h.len;lia⟩
def NK:aq->Option Out:=(fu (fB (f2 aX (ai 3 ak (ae (aa 0) (ae (f2 aw (f2 aw (aa 1) (fC (.int 2))) (aa 5)) (ae (fC (.int 2)) ag)))) (fC (.int 0)))) (i4 4 [0,1,3,5] (bc (ae (f2 la (aa 5) (aa 3)) (ae (f2 jd (aa 5) (aa 3)) (ae (f2 aw (fC (.int 1)) (ai 3 ak (ae (aa 0) (ae (f2 aw (f2 aw (aa 1) (fC (.int 20))) (aa 5)) (ae (fC (.int 9)) ag))))) ag))))) eM)
abbrev sw(ns:List Int)(a:Int)(m s:Nat)(x4 x5 x6 x7 x8 x9 x10 x11:Slot):aq:=[.val (gT ns),.val (.int a),.val (nD m),.val (nD s),x4,x5,x6,x7,x8,x9,x10,x11]
def NG:aq->Option Out:=(av (aH 8 [4,7] (aW bU (ae (cm (ay 1 [7] (aZ (aa 4)) (fG 0) (fB (f2 aX (f2 aC (aa 0) (fC (.int 0))) (aa 1))) (f2 aC (aa 0) (fC (.int 1))))) ag))) (av (aH 9 [0,1,7,8] (ai 3 ak (ae (aa 0) (ae (f2 aw (f2 aw (aa 1) (fC (.int 40))) (aa 7)) (ae (f2 aw (aW bD (ae (aa 8) ag)) (fC (.int 1))) ag))))) (i4 6 [0,1,7,8,9] (bc (ae (ai 3 ak (ae (aa 0) (ae (f2 aw (f2 aw (aa 1) (fC (.int 44))) (aa 7)) (ae (fC (.int 10)) ag)))) (ae (f2 aw (aP bf (aa 8) (bX (aa 9)) aN) (f1 uU (aP bf (aa 8) aN (bX (aa 9))))) ag))))))
def OS:aq->Option Out:=(av (aH 8 [4,11] (aW bU (ae (cm (ay 1 [11] (aZ (aa 4)) (fG 0) (fB (f2 aX (f2 aC (aa 0) (fC (.int 1))) (aa 1))) (f2 aC (aa 0) (fC (.int 0))))) ag))) (av (aH 9 [0,1,8,11] (ai 3 ak (ae (aa 0) (ae (f2 aw (f2 aw (aa 1) (fC (.int 50))) (aa 11)) (ae (f2 aw (aW bD (ae (aa 8) ag)) (fC (.int 1))) ag))))) (i4 10 [0,1,8,9,11] (bc (ae (ai 3 ak (ae (aa 0) (ae (f2 aw (f2 aw (aa 1) (fC (.int 54))) (aa 11)) (ae (fC (.int 10)) ag)))) (ae (f2 aw (aP bf (aa 8) (bX (aa 9)) aN) (f1 uU (aP bf (aa 8) aN (bX (aa 9))))) ag))))))
section
variable {ns:List Int}{a:Int}{m s:Nat}
def FN(hl:ns.length<=63)(hs:1<=s/\s<=4){k:Nat}{W:List Wy}(hk:k < 16)(h:WI s k W):∃W',NK (sw ns a m s (.own (W.map aB)) (.val (nD k)) .Qb .Qb .Qb .Qb .Qb .Qb)=some (.nx (sw ns a m s (.own (W'.map aB)) (.val (nD k)) .Qb .Qb .Qb .Qb .Qb .Qb))/\WI s ((k+1:Nat):Int) W':=by
 have e2:=Eo (ns:=ns) (a+2+((k:Nat):Int)) 2 hl (by decide);have e9:=Eo (ns:=ns) (a+20+((k:Nat):Int)) 9 hl (by decide);have c:∀ρ:Dl.Env,aa 0 ρ=some (gT ns)->aa 1 ρ=some (.int a)->aa 5 ρ=some (nD k)->(fB (f2 aX (ai 3 ak (ae (aa 0) (ae (f2 aw (f2 aw (aa 1) (fC (.int 2))) (aa 5)) (ae (fC (.int 2)) ag)))) (fC (.int 0)))) ρ=some (decide (dr ns (a+2+((k:Nat):Int)) 2=0)):=λρ h0 h1 h5=>aL (ar (eX _ _) (call_of e2 (cons_of h0 (cons_of (ar (az _ _) (ar (az _ _) h1 rfl) h5) (cons_of rfl rfl))) rfl) rfl);unfold NK;cases hc:decide (dr ns (a+2+((k:Nat):Int)) 2=0) with
 | false=>exact⟨W,cI ((c _ rfl rfl rfl).trans (by rw[hc])),by have:=h.skip;rwa [show ((k:Int)+1)=((k+1:Nat):Int) by lia] at this⟩
 | true =>
  refine⟨W++[(((k:Nat):Int) / s,((k:Nat):Int) % s,1+dr ns (a+20+((k:Nat):Int)) 9)],?_,by have:=h.next (a:=a+20+((k:Nat):Int)) hl (by lia) (by lia);rwa [show ((k:Int)+1)=((k+1:Nat):Int) by lia] at this⟩;refine (dJ ((c _ rfl rfl rfl).trans (by rw[hc]))).trans ?_;have hw:W.length<=16:=by have:=h.len;lia
  have ev:∀ρ:Dl.Env,aa 0 ρ=some (gT ns)->aa 1 ρ=some (.int a)->aa 3 ρ=some (nD s)->aa 5 ρ=some (nD k)->(bc (ae (f2 la (aa 5) (aa 3)) (ae (f2 jd (aa 5) (aa 3)) (ae (f2 aw (fC (.int 1)) (ai 3 ak (ae (aa 0) (ae (f2 aw (f2 aw (aa 1) (fC (.int 20))) (aa 5)) (ae (fC (.int 9)) ag))))) ag)))) ρ=some (aB (((k:Nat):Int) / s,((k:Nat):Int) % s,1+dr ns (a+20+((k:Nat):Int)) 9)):=λρ h0 h1 h3 h5=>tup_is (ds:=[.int (((k:Nat):Int) / s),.int (((k:Nat):Int) % s),.int (1+dr ns (a+20+((k:Nat):Int)) 9)]) (cons_of (ar (gZ ⟨by lia,by lia⟩) h5 h3) (cons_of (ar (fZ (by lia)) h5 h3) (cons_of (ar (az _ _) rfl (call_of e9 (cons_of h0 (cons_of (ar (az _ _) (ar (az _ _) h1 rfl) h5) (cons_of rfl rfl))) rfl)) rfl))) (by simp);refine (vZ (ds:=W.map aB) (ev _ rfl rfl rfl rfl) (ev _ rfl rfl rfl rfl) rfl rfl (by rw[zD];lia)).trans ?_;rw[qV];rfl
structure PI(F:Nat->List Int)(k:Nat)(G:List Pl):Prop where
 len:G.length=k
 am:∀p∈G,0<=p.1/\p.1<=9
 lk:∀ (i:Nat) (p:Pl),G[i]?=some p->p.2.Perm (F i)
def Bz(r:List Int)(t:Nat):(r.drop t++(r.take t).reverse).Perm r:=by
 refine (List.perm_append_comm).trans ?_;refine ((List.reverse_perm _).append_right _).trans ?_;rw[List.take_append_drop]
def PI.next{F:Nat->List Int}{k:Nat}{G:List Pl}(h:PI F k G){c:Int}(hc:0<=c/\c<=9)(t:Nat):PI F (k+1) (G++[(c,(F k).drop t++((F k).take t).reverse)]):=by
 refine⟨by rw[zN,h.len];rfl,λp hp=>?_,λi p hp=>?_⟩
 ·rcases List.mem_append.mp hp with hp|hp
  ·exact h.am p hp
  ·rw[List.mem_singleton.mp hp];exact hc
 ·rw[List.getElem?_append] at hp;split at hp
  ·exact h.lk i p hp
  ·rename_i hi;have hi:i=G.length:=by
    have:=(List.getElem?_eq_some_iff.mp hp).1;simp at this;lia
   subst hi;rw[Nat.sub_self] at hp;cases hp;rw[h.len];exact Bz _ _
def Ip{r:List Int}{t:Nat}{c:Int}{fa f8 f9:Dl.Env->Option D}{ρ:Dl.Env}(hr:r.length<=100)(ha:fa ρ=some (.int c))(h8:f8 ρ=some (ao r))(h9:f9 ρ=some (nD t)):(bc (ae fa (ae (f2 aw (aP bf f8 (bX f9) aN) (f1 uU (aP bf f8 aN (bX f9)))) ag))) ρ=some (cg (c,r.drop t++(r.take t).reverse)):=by
 refine tup_is (ds:=[.int c,ao (r.drop t++(r.take t).reverse)]) (cons_of ha (cons_of ?_ rfl)) (by simp);have e1:=K2 (k:=t) h8 h9;have e2:f1 uU (aP bf f8 aN (bX f9)) ρ=some (.tuple ((r.map PyData.int).take t).reverse):=by
  unfold f1;rw[J3 (k:=t) h8 h9];rfl
 refine ar ((ye ?_).trans ?_) e1 e2
 ·rw[zN,qF,List.length_reverse,jS,zD];lia
 ·unfold ao;rw[qV,List.map_drop,List.map_reverse,List.map_take]
def Ho(W:List Wy)(i:Int):(mU W i).length<=W.length:=by
 rw[mU,zD];exact xN _ _
def HM(W:List Wy)(i:Int):(ofT W i).length<=W.length:=by
 rw[ofT,zD];exact xN _ _
def Gb(hl:ns.length<=63){W:List Wy}(hw:W.length<=16){k:Nat}{G:List Pl}(hk:k < 4)(h:PI (λi=>mU W i) k G){x5:Slot}:∃G' y8 y9,NG (sw ns a m s (.own (W.map aB)) x5 (.own (G.map cg)) (.val (nD k)) x8 x9 .Qb .Qb)=some (.nx (sw ns a m s (.own (W.map aB)) x5 (.own (G'.map cg)) (.val (nD k)) y8 y9 .Qb .Qb))/\PI (λi=>mU W i) (k+1) G':=by
 have hr:=Ho W k;let⟨d1,p1,q1⟩:=dy (ns:=ns) (a+40+((k:Nat):Int)) (((mU W k).length:Int)+1) hl (by lia);let⟨d2,p2,q2⟩:=dy (ns:=ns) (a+44+((k:Nat):Int)) 10 hl (by decide);obtain⟨t,ht⟩:∃t:Nat,dr ns (a+40+((k:Nat):Int)) (((mU W k).length:Int)+1)=((t:Nat):Int):=⟨_,(Int.toNat_of_nonneg p1).symm⟩
 rw[ht] at d1;refine⟨G++[(dr ns (a+44+((k:Nat):Int)) 10,(mU W k).drop t++((mU W k).take t).reverse)],.val (ao (mU W k)),.val (nD t),?_,h.next (by lia) t⟩;have er:∀ρ:Dl.Env,aa 4 ρ=some (.list (W.map aB))->(ρ[7]?).getD none=some (nD k)->(aW bU (ae (cm (ay 1 [7] (aZ (aa 4)) (fG 0) (fB (f2 aX (f2 aC (aa 0) (fC (.int 0))) (aa 1))) (f2 aC (aa 0) (fC (.int 1))))) ag)) ρ=some (ao (mU W k)):=λρ h4 h7=>by
  have c:=iE (cs:=[7]) (tt:=fB (f2 aX (f2 aC (aa 0) (fC (.int 0))) (aa 1))) (te:=f2 aC (aa 0) (fC (.int 1))) (g:=aB) (f:=λw=>.int w.2.1) (q:=λw=>decide (w.1=((k:Nat):Int))) (l:=W) (c4 h4) (by lia) λw _=>⟨by
   simp?[zI,yS,h7];exact aL (ar (eX w.1 k) (ar (zk w) rfl rfl) rfl),λ_=>ar (xp w) rfl rfl⟩
  rw[cH (fN c),gE];unfold ao mU;rw[zM];rfl
 unfold NG;refine (aj (pq (er _ rfl rfl) (er _ rfl rfl))).trans ?_;refine (aj (bg (d:=nD t) (call_of d1 (cons_of rfl (cons_of (ar (az _ _) (ar (az _ _) rfl rfl) rfl) (cons_of (ar (az _ _) (ll (l:=mU W k) (k:=PyData.int) rfl) rfl) rfl))) rfl) rfl)).trans ?_;have ep:∀ρ:Dl.Env,aa 0 ρ=some (gT ns)->aa 1 ρ=some (.int a)->aa 7 ρ=some (nD k)->aa 8 ρ=some (ao (mU W k))->aa 9 ρ=some (nD t)->_:=λρ h0 h1 h7 h8 h9=>Ip (r:=mU W k) (t:=t) (c:=dr ns (a+44+((k:Nat):Int)) 10) (fa:=ai 3 ak (ae (aa 0) (ae (f2 aw (f2 aw (aa 1) (fC (.int 44))) (aa 7)) (ae (fC (.int 10)) ag)))) (f8:=aa 8) (f9:=aa 9) (ρ:=ρ) (by lia) (call_of d2 (cons_of h0 (cons_of (ar (az _ _) (ar (az _ _) h1 rfl) h7) (cons_of rfl rfl))) rfl) h8 h9;refine (vZ (ds:=G.map cg) (ep _ rfl rfl rfl rfl rfl) (ep _ rfl rfl rfl rfl rfl) rfl rfl (by rw[zD,h.len];lia)).trans ?_;rw[qV];rfl
def Hz(hl:ns.length<=63){W:List Wy}(hw:W.length<=16){k:Nat}{G:List Pl}(hk:k < 4)(h:PI (λi=>ofT W i) k G){x6 x7 x8 x9:Slot}{x5:Slot}:∃G' y8 y9,OS (sw ns a m s (.own (W.map aB)) x5 x6 x7 x8 x9 (.own (G.map cg)) (.val (nD k)))=some (.nx (sw ns a m s (.own (W.map aB)) x5 x6 x7 y8 y9 (.own (G'.map cg)) (.val (nD k))))/\PI (λi=>ofT W i) (k+1) G':=by
 have hr:=HM W k;let⟨d1,p1,q1⟩:=dy (ns:=ns) (a+50+((k:Nat):Int)) (((ofT W k).length:Int)+1) hl (by lia);let⟨d2,p2,q2⟩:=dy (ns:=ns) (a+54+((k:Nat):Int)) 10 hl (by decide);obtain⟨t,ht⟩:∃t:Nat,dr ns (a+50+((k:Nat):Int)) (((ofT W k).length:Int)+1)=((t:Nat):Int):=⟨_,(Int.toNat_of_nonneg p1).symm⟩
 rw[ht] at d1;refine⟨G++[(dr ns (a+54+((k:Nat):Int)) 10,(ofT W k).drop t++((ofT W k).take t).reverse)],.val (ao (ofT W k)),.val (nD t),?_,h.next (by lia) t⟩;have er:∀ρ:Dl.Env,aa 4 ρ=some (.list (W.map aB))->(ρ[11]?).getD none=some (nD k)->(aW bU (ae (cm (ay 1 [11] (aZ (aa 4)) (fG 0) (fB (f2 aX (f2 aC (aa 0) (fC (.int 1))) (aa 1))) (f2 aC (aa 0) (fC (.int 0))))) ag)) ρ=some (ao (ofT W k)):=λρ h4 h7=>by
  have c:=iE (cs:=[11]) (tt:=fB (f2 aX (f2 aC (aa 0) (fC (.int 1))) (aa 1))) (te:=f2 aC (aa 0) (fC (.int 0))) (g:=aB) (f:=λw=>.int w.1) (q:=λw=>decide (w.2.1=((k:Nat):Int))) (l:=W) (c4 h4) (by lia) λw _=>⟨by
   simp?[zI,yS,h7];exact aL (ar (eX w.2.1 k) (ar (xp w) rfl rfl) rfl),λ_=>ar (zk w) rfl rfl⟩
  rw[cH (fN c),gE];unfold ao ofT;rw[zM];rfl
 unfold OS;refine (aj (pq (er _ rfl rfl) (er _ rfl rfl))).trans ?_;refine (aj (bg (d:=nD t) (call_of d1 (cons_of rfl (cons_of (ar (az _ _) (ar (az _ _) rfl rfl) rfl) (cons_of (ar (az _ _) (ll (l:=ofT W k) (k:=PyData.int) rfl) rfl) rfl))) rfl) rfl)).trans ?_;have ep:∀ρ:Dl.Env,aa 0 ρ=some (gT ns)->aa 1 ρ=some (.int a)->aa 11 ρ=some (nD k)->aa 8 ρ=some (ao (ofT W k))->aa 9 ρ=some (nD t)->_:=λρ h0 h1 h7 h8 h9=>Ip (r:=ofT W k) (t:=t) (c:=dr ns (a+54+((k:Nat):Int)) 10) (fa:=ai 3 ak (ae (aa 0) (ae (f2 aw (f2 aw (aa 1) (fC (.int 54))) (aa 11)) (ae (fC (.int 10)) ag)))) (f8:=aa 8) (f9:=aa 9) (ρ:=ρ) (by lia) (call_of d2 (cons_of h0 (cons_of (ar (az _ _) (ar (az _ _) h1 rfl) h7) (cons_of rfl rfl))) rfl) h8 h9;refine (vZ (ds:=G.map cg) (ep _ rfl rfl rfl rfl rfl) (ep _ rfl rfl rfl rfl rfl) rfl rfl (by rw[zD,h.len];lia)).trans ?_;rw[qV];rfl
def Jt(hl:ns.length<=63)(a:Int):∃G T W,fv [gT ns,.int a]=some (aR G T W)/\Wd G T W:=by
 have em:=dy (ns:=ns) a 4 hl (by decide);have es:=dy (ns:=ns) (a+1) 4 hl (by decide);let⟨m,hm⟩:=kW (show 0<=1+dr ns a 4 by lia);let⟨s,hs⟩:=kW (show 0<=1+dr ns (a+1) 4 by lia);have m1:1<=m/\m<=4:=by lia
 have s1:1<=s/\s<=4:=by lia
 have hms:m * s<=16:=vI m1.2 s1.2;let⟨ρ',f1,W,x5,rfl,I⟩:=dG (tgt:=gn 5) (gb:=NK) nD (λk ρ=>∃W x5,ρ=sw ns a m s (.own (W.map aB)) x5 .Qb .Qb .Qb .Qb .Qb .Qb/\WI s ((k:Nat):Int) W) (m * s) 0 (sw ns a m s (.own []) .Qb .Qb .Qb .Qb .Qb .Qb .Qb)
  (λk ρ _ hk Rc=>by
   let⟨W,x5,rfl,h⟩:=Rc;let⟨W',e,h'⟩:=FN (a:=a) (m:=m) hl s1 (by lia) h;exact⟨_,_,rfl,e,W',_,rfl,h'⟩) ⟨[],_,rfl,λw hw=>(by cases hw),List.Pairwise.nil,by decide⟩
 rw[qZ] at I;rw[<- yG] at f1;have hw:W.length<=16:=by have:=I.len;lia
 let⟨ρ',RY,G,x7,x8,x9,rfl,IG⟩:=dG (tgt:=gn 7) (gb:=NG) nD (λk ρ=>∃G x7 x8 x9,ρ=sw ns a m s (.own (W.map aB)) x5 (.own (G.map cg)) x7 x8 x9 .Qb .Qb/\PI (λi=>mU W i) k G) m 0 (sw ns a m s (.own (W.map aB)) x5 (.own []) .Qb .Qb .Qb .Qb .Qb)
  (λk ρ _ hk Rc=>by
   let⟨G,x7,x8,x9,rfl,h⟩:=Rc;let⟨G',y8,y9,e,h'⟩:=Gb (a:=a) (m:=m) (s:=s) hl hw (by lia) h (x8:=x8) (x9:=x9) (x5:=x5);exact⟨_,_,rfl,e,G',_,_,_,rfl,h'⟩) ⟨[],_,_,_,rfl,rfl,λp hp=>(by cases hp),λi p hp=>(by cases hp)⟩
 rw[qZ] at IG;rw[<- yG] at RY;let⟨ρ',f3,T,x11,y8,y9,rfl,IT⟩:=dG (tgt:=gn 11) (gb:=OS) nD (λk ρ=>∃T x11 x8 x9,ρ=sw ns a m s (.own (W.map aB)) x5 (.own (G.map cg)) x7 x8 x9 (.own (T.map cg)) x11/\PI (λi=>ofT W i) k T) s 0 (sw ns a m s (.own (W.map aB)) x5 (.own (G.map cg)) x7 x8 x9 (.own []) .Qb)
  (λk ρ _ hk Rc=>by
   let⟨T,x11,x8,x9,rfl,h⟩:=Rc;let⟨T',y8,y9,e,h'⟩:=Hz (a:=a) (m:=m) (s:=s) hl hw (by lia) h (x6:=.own (G.map cg)) (x7:=x7) (x8:=x8) (x9:=x9) (x5:=x5);exact⟨_,_,rfl,e,T',_,_,_,rfl,h'⟩) ⟨[],_,_,_,rfl,rfl,λp hp=>(by cases hp),λi p hp=>(by cases hp)⟩
 rw[qZ] at IT;rw[<- yG] at f3;refine⟨G,T,W,?_,?_⟩
 ·unfold fv;refine bj ?_;show ie [.val (gT ns),.val (.int a),.Qb,.Qb,.Qb,.Qb,.Qb,.Qb,.Qb,.Qb,.Qb,.Qb]=_;unfold ie;have h2:∀ρ:Dl.Env,aa 0 ρ=some (gT ns)->aa 1 ρ=some (.int a)->f2 aw (fC (.int 1)) (ai 3 ak (ae (aa 0) (ae (aa 1) (ae (fC (.int 4)) ag)))) ρ=some (nD m):=λρ h0 h1=>ar ((az _ _).trans (by rw[hm])) rfl (call_of em.1 (cons_of h0 (cons_of h1 (cons_of rfl rfl))) rfl);have h3:∀ρ:Dl.Env,aa 0 ρ=some (gT ns)->aa 1 ρ=some (.int a)->f2 aw (fC (.int 1)) (ai 3 ak (ae (aa 0) (ae (f2 aw (aa 1) (fC (.int 1))) (ae (fC (.int 4)) ag)))) ρ=some (nD s):=λρ h0 h1=>ar ((az _ _).trans (by rw[hs])) rfl (call_of es.1 (cons_of h0 (cons_of (ar (az _ _) h1 rfl) (cons_of rfl rfl))) rfl);refine (aj (bg (d:=nD m) (h2 _ rfl rfl) rfl)).trans ?_;refine (aj (bg (d:=nD s) (h3 _ rfl rfl) rfl)).trans ?_;refine (aj (b8 (ds:=[]) (jc rfl (by simp)) rfl)).trans ?_;have hr:∀ρ:Dl.Env,aa 2 ρ=some (nD m)->aa 3 ρ=some (nD s)->cZ (ae (f2 ft (aa 2) (aa 3)) ag) ρ=some ((List.range (m * s)).map nD):=λρ h2 h3=>nX (cons_of (ar ((eW (lh (by lia))).trans (by rw[<- Int.natCast_mul])) h2 h3) rfl) (by lia);refine (aj (ba f1 (hr _ rfl rfl) rfl)).trans ?_;refine (aj (b8 (ds:=[]) (jc rfl (by simp)) rfl)).trans ?_;refine (aj (ba RY (nX (cons_of rfl rfl) (by lia)) rfl)).trans ?_;refine (aj (b8 (ds:=[]) (jc rfl (by simp)) rfl)).trans ?_;refine (aj (ba f3 (nX (cons_of rfl rfl) (by lia)) rfl)).trans ?_;exact bA (tup_is (ds:=[.tuple (G.map cg),.tuple (T.map cg),.tuple (W.map aB)]) (cons_of ((cH rfl).trans (gE _)) (cons_of ((cH rfl).trans (gE _)) (cons_of ((cH rfl).trans (gE _)) rfl))) (by simp))
 ·refine⟨by rw[IG.len];exact m1.1,by rw[IG.len];exact m1.2,by rw[IT.len];exact s1.1,by rw[IT.len];exact s1.2,IG.am,IT.am,IG.lk,IT.lk,λw hw=>?_,I.VX,hw⟩;let⟨j,j0,jk,ea,b,c1,c2⟩:=I.mem w hw;have:=OD (s:=s) (m:=m) (by lia) (by lia) j0 (by rw[<- Int.natCast_mul];exact jk);rw[ea,b,IG.len,IT.len];exact⟨this.1,this.2,c1,c2⟩
end
abbrev tl(x:Str):List Nat:=x.cps.toList
def tS(l:List Nat):Str:=⟨l.toArray⟩
def bH(l:List Nat):tl (tS l)=l:=by simp[tl,tS]
def Cs(x:Str):tS (tl x)=x:=by cases x;simp[tl,tS]
def vo{x y:Str}(h:tl x=tl y):x=y:=by rw[<- Cs x,<- Cs y,h]
def fJ(x:Str):(tl x).length=x.length:=by simp[tl,Str.length]
def rh(x y:Str):tl (x++y)=tl x++tl y:=by
 show (Str.append x y).cps.toList=_;simp[Str.append,tl]
def fR(c:Nat):List Nat->List (List Nat)
 | []=>[[]]
 | x::r=>if x=c then []::fR c r else match fR c r with
  | p::ps=>(x::p)::ps
  | []=>[[x]]
def jn(c:List Nat):List (List Nat)->List Nat
 | []=>[]
 | [p]=>p
 | p::q::r=>p++(c++jn c (q::r))
def ur:∀ {l:List Nat},c∉l->fR c l=[l]
 | [],_=>rfl
 | x::r,h=>by
  have h1:x≠c:=λz=>h (by rw[z];exact zE);rw[fR,yL h1,ur λz=>h (zC _ z)]
def mO:∀ {p r:List Nat},c∉p->fR c (p++c::r)=p::fR c r
 | [],r,_=>by rw[xM,fR,yJ rfl]
 | x::p,r,h=>by
  have h1:x≠c:=λz=>h (by rw[z];exact zE);rw[xD,fR,yL h1,mO λz=>h (zC _ z)]
def Ej:∀ {ps:List (List Nat)},ps≠[]->(∀p∈ps,c∉p)->fR c (jn [c] ps)=ps
 | [],h,_=>absurd rfl h
 | [p],_,h=>by rw[jn];exact ur (h p zE)
 | p::q::r,_,h=>by
  rw[jn];show fR c (p++c::jn [c] (q::r))=_;rw[mO (h p zE),Ej (by simp) λz hz=>h z (zC _ hz)]
def rS:∀l:List Nat,fR c l≠[]
 | []=>by simp[fR]
 | x::r=>by
  unfold fR;split
  ·simp
  ·split<;>simp
def sg(sep:Str):∀ps:List Str,tl (sep.join ps)=jn (tl sep) (ps.map tl)
 | []=>rfl
 | [p]=>rfl
 | p::q::r=>by
  have e:sep.join (p::q::r)=p++sep++sep.join (q::r):=rfl;rw[e,rh,rh,sg sep (q::r),List.append_assoc];rfl
def Co(sep:Str)(ps:List Str):tl (Txt.join sep ps)=jn (tl sep) (ps.map tl):=by
 unfold Txt.join;rw[StrLaws.glued_eq_join,sg]
def B5(x y:Str):Txt.split x y≠[]:=by
 unfold Txt.split;split
 ·simp
 ·split
  ·simp
  ·rw[StrLaws.partsBetween_eq];let⟨p,r,e⟩:=StrLaws.partsFrom_ne x y.length 0 (Builtin.Str.occurrences x y 0 x.length (x.length+1));rw[e];simp
def ET(x:Str)(c:Nat):(Txt.split x ⟨#[c]⟩).map tl=fR c (tl x):=by
 have h:=sg ⟨#[c]⟩ (Txt.split x ⟨#[c]⟩);rw[StrLaws.join_split] at h;rw[h];refine (Ej ?_ λp hp=>?_).symm
 ·intro z;exact B5 x ⟨#[c]⟩ (List.map_eq_nil_iff.mp z)
 ·let⟨q,hq,rfl⟩:=List.mem_map.mp hp;exact StrLaws.split_free x c q hq
def kc(x:Str)(c:Nat):Txt.split x ⟨#[c]⟩=(fR c (tl x)).map tS:=by
 rw[<- ET,zM]
 conv=>lhs;rw[<- List.map_id (Txt.split x ⟨#[c]⟩)]
 exact yH λy _=>(Cs y).symm
def GT(sep:Str)(ps:List (List Nat)):Txt.join sep (ps.map tS)=tS (jn (tl sep) ps):=by
 refine vo ?_;rw[Co,bH,zM]
 congr 1
 conv=>rhs;rw[<- List.map_id ps]
 exact yH λy _=>bH y
def tv:("\n":Str)=⟨#[10]⟩:=by decide +kernel
def Mw:("0123456789":Str)=⟨#[48,49,50,51,52,53,54,55,56,57]⟩:=by decide +kernel
def zw:("":Str)=⟨#[]⟩:=by decide +kernel
def HG{n:Nat}(h:n < 10):((toString (n:Int):String):Str)=⟨#[48+n]⟩:=by
 match n,h with
 | 0,_|1,_|2,_|3,_|4,_|5,_|6,_|7,_|8,_|9,_=>decide +kernel
def ya:∀l:List Nat,(fR c l).length<=l.length+1
 | []=>by simp[fR]
 | x::r=>by
  have ih:=ya (c:=c) r;unfold fR;split
  ·simp;lia
  ·split
   ·rename_i p ps e;rw[e] at ih;simp at ih ⊢;lia
   ·simp
def gq{a:Str}(h:PyData.strOk a=true):SeqAt.shaped (.str a)=true:=by simp[SeqAt.shaped,PyData.canLay0,PyData.depth,h]
def zj(a b:Str):PyData.eqv (.str a) (.str b)=(a == b):=by simp[PyData.eqv]
def eq_str{a b:Str}(ha:PyData.strOk a=true)(hb:PyData.strOk b=true):aX (.str a) (.str b)=some (.bool (a == b)):=by
 unfold aX Fh;rw[yJ ⟨gq ha,gq hb⟩,zj];rfl
def ne_str{a b:Str}(ha:PyData.strOk a=true)(hb:PyData.strOk b=true):bN (.str a) (.str b)=some (.bool (!(a == b))):=by
 unfold bN FH;rw[yJ ⟨gq ha,gq hb⟩,zj];rfl
def oF{x:Str}{c:Nat}(hz:x.length+1<=sizeLine):ck (.str x) (.str ⟨#[c]⟩)=some ((Txt.split x ⟨#[c]⟩).map PyData.str):=by
 show (if ((⟨#[c]⟩:Str).length == 0)=false/\x.length<=sizeLine/\(Txt.split x ⟨#[c]⟩).length<=sizeLine then some ((Txt.split x ⟨#[c]⟩).map PyData.str) else none)=_;refine yJ ⟨rfl,by lia,?_⟩;rw[kc,zD];have:=ya (c:=c) (tl x);rw[fJ] at this;lia
def jr:∀ {l p:List Nat},p∈fR c l->p.length<=l.length
 | [],p,h=>by
  rw[fR,yI] at h;rw[h];exact yK _
 | x::r,p,h=>by
  unfold fR at h;split at h
  ·rcases List.mem_cons.mp h with rfl|h
   ·exact xS _
   ·have:=jr h;rw[zL];lia
  ·split at h
   ·rename_i q ps e;rcases List.mem_cons.mp h with rfl|h
    ·have:=jr (c:=c) (l:=r) (p:=q) (by rw[e];exact zE);rw[zL,zL];lia
    ·have:=jr (c:=c) (l:=r) (p:=p) (by rw[e];exact zC _ h);rw[zL];lia
   ·rename_i e;exact absurd e (rS r)
def uu{α:Type}(xs:List α):cut xs none (some (-1))=xs.dropLast:=by
 unfold cut;have e1:HT.bp xs.length 0 none=0:=rfl;have e2:HT.bp xs.length xs.length (some (-1))=xs.length - 1:=by
  show (if (-1:Int) < 0 then ((-1:Int)+(xs.length:Int)).toNat else min (-1:Int).toNat xs.length)=_;rw[yJ (by decide)];lia
 rw[e1,e2,List.drop_zero,Nat.sub_zero,List.dropLast_eq_take]
def mZ{α:Type}{xs:List α}{a:α}:jj (xs++[a]) (-1)=some a:=by
 unfold jj C8;rw[yL (by decide),yJ (by rw[zN];simp;lia)];show (xs++[a])[_]?=_;rw[show ((-1:Int)+((xs++[a]).length:Int)).toNat=xs.length by rw[zN];simp;lia];simp
abbrev sD(l:List Nat):D:=.str (tS l)
abbrev lv(x:Str)(ps:List D):aq:=[Slot.val (.str x),Slot.val (.list ps)]
def lK{x:Str}(hz:x.length+1<=sizeLine):aH 1 [0] (cm (iG ck (aa 0) (fC (.str "\n")))) [Slot.val (.str x),.Qb]=some (.nx (lv x ((fR 10 (tl x)).map sD))):=by
 have e:∀r,cm (iG ck (aa 0) (fC (.str "\n"))) (some (.str x)::r)=some (.list ((fR 10 (tl x)).map sD)):=λr=>by
  have:iG ck (aa 0) (fC (.str "\n")) (some (.str x)::r)=some ((fR 10 (tl x)).map sD):=by
   show ck (.str x) (.str "\n")=_;rw[tv,oF hz,kc,zM];rfl
  unfold cm;rw[this];rfl
 unfold aH;rw[show aG [Slot.val (.str x),.Qb]=[some (.str x),none] from rfl,e,zA,yL (by simp[Dl.lM])];rw[show aY (hand [0] 0 [Slot.val (.str x),.Qb])=[some (.str x),none] from rfl,e];rfl
def yw{sep:Str}{ps:List (List Nat)}(h:ps.length * 100+ps.length * sep.length<=16777216)(hp:∀p∈ps,p.length<=100):iT (.str sep) (.list (ps.map sD))=some (sD (jn (tl sep) ps)):=by
 have e:strsOf (ps.map sD)=some (ps.map tS):=by
  have:=oM (ps.map tS);rw[zM] at this;exact this
 show ((strsOf (ps.map sD)).bind λxs=>if JoinOk sep xs=true then some (PyData.str (Txt.join sep xs)) else none)=_;rw[e,zA,yJ ?_,GT];unfold JoinOk;rw[StrLaws.joinFits (B:=100) (λy hy=>?_) (by rw[zD];exact h)]
 ·rfl
 ·let⟨p,Td,rfl⟩:=List.mem_map.mp hy;rw[<- fJ,bH];exact hp p Td
def Au(ls:List (List Nat)):List Nat:=jn [] (ls.map λl=>l++[10])
def r8:∀ {ls:List (List Nat)},(∀l∈ls,10∉l)->fR 10 (Au ls)=ls++[[]]
 | [],_=>rfl
 | [l],h=>by
  show fR 10 (l++10::[])=_;rw[mO (h l zE)];rfl
 | l::q::r,h=>by
  have e:Au (l::q::r)=l++10::Au (q::r):=by
   show (l++[10])++([]++jn [] ((q::r).map λl=>l++[10]))=_;rw[xM,List.append_assoc];rfl
  rw[e,mO (h l zE),r8 λz hz=>h z (zC _ hz)];rfl
structure Gd(l:List Nat):Prop where
 s:∀c∈l,c < 1114112
 n:l.length<=10000
def mV:∀ {l p:List Nat},p∈fR c l->∀y∈p,y∈l
 | [],p,h,y,hy=>by
  rw[List.mem_singleton.mp (show p∈[[]] from h)] at hy;exact hy
 | x::r,p,h,y,hy=>by
  unfold fR at h;split at h
  ·rcases List.mem_cons.mp h with rfl|h
   ·cases hy
   ·exact zC _ (mV h y hy)
  ·split at h
   ·rename_i q qs e;rcases List.mem_cons.mp h with rfl|h
    ·rcases List.mem_cons.mp hy with rfl|hy
     ·exact zE
     ·exact zC _ (mV (c:=c) (l:=r) (p:=q) (by rw[e];exact zE) y hy)
    ·exact zC _ (mV (c:=c) (l:=r) (p:=p) (by rw[e];exact zC _ h) y hy)
   ·rw[List.mem_singleton.mp h] at hy;rw[List.mem_singleton.mp hy];exact zE
def Gd.sk{l:List Nat}(g:Gd l):PyData.strOk (tS l)=true:=by
 show Array.all (List.toArray l) _=true;rw[List.all_toArray,xE];intro c hc;exact zZ (g.s c hc)
def Gd.part{l p:List Nat}(g:Gd l)(h:p∈fR c l):Gd p:=⟨λy hy=>g.s y (mV h y hy),yC (jr h) g.n⟩
def Jg:20000<=sizeLine:=by decide
def Gd.z{l:List Nat}(g:Gd l):l.length+1<=sizeLine:=by
 have:=g.n;have:=Jg;lia
def Gd.zt{l:List Nat}(g:Gd l):(tS l).length+1<=sizeLine:=by
 rw[<- fJ,bH];exact g.z
def DZ:∀ls:List (List Nat),jn [] ls=ls.flatten
 | []=>rfl
 | [l]=>by simp[jn]
 | l::q::r=>by
  show l++([]++jn [] (q::r))=_;rw[xM,DZ (q::r)];rfl
def oq(ls:List (List Nat)):Au ls=(ls.map λl=>l++[10]).flatten:=DZ _
def xk{ls:List (List Nat)}(h:∀l∈ls,l.length<=99):(Au ls).length<=100 * ls.length:=by
 rw[oq]
 induction ls with
 | nil=>exact yK _
 | cons l r ih =>
  rw[zI,qK,zN,zN,xA,zL];have:=h l zE;have:=ih λq hq=>h q (zC _ hq);lia
def Hs{ls:List (List Nat)}{c:Nat}(h:c∈Au ls):c=10\/∃l∈ls,c∈l:=by
 rw[oq,List.mem_flatten] at h;let⟨q,hq,hc⟩:=h;let⟨l,hl,rfl⟩:=List.mem_map.mp hq;rcases List.mem_append.mp hc with hc|hc
 ·exact .inr ⟨l,hl,hc⟩
 ·exact .inl (List.mem_singleton.mp hc)
def B9{c:Nat}{sep:List Nat}:∀ {ps:List (List Nat)},c∈jn sep ps->c∈sep\/∃p∈ps,c∈p
 | [],h=>by cases h
 | [p],h=>.inr ⟨p,zE,h⟩
 | p::q::r,h=>by
  have h:c∈p++(sep++jn sep (q::r)):=h;rcases List.mem_append.mp h with h|h
  ·exact .inr ⟨p,zE,h⟩
  ·rcases List.mem_append.mp h with h|h
   ·exact .inl h
   ·rcases B9 h with h|⟨z,hz,h⟩
    ·exact .inl h
    ·exact .inr ⟨z,zC _ hz,h⟩
def si{a b:List Nat}(h:a.length+b.length<=20000):bZ (sD a) (sD b)=some (sD (a++b)):=by
 show (if (tS a).length+(tS b).length<=sizeLine then some (PyData.str (tS a++tS b)) else none)=_;rw[yJ (by rw[<- fJ,<- fJ,bH,bH];exact yC h Jg)];have:tS a++tS b=tS (a++b):=vo (by rw[rh,bH,bH,bH]);rw[this]
def B7{a:List Nat}(h:a.length<=20000)(lo hi:Option Int):bR (sD a) lo hi=some (sD (cut a lo hi)):=by
 show (if (tS a).length<=sizeLine then some (PyData.str (nN (tS a) lo hi)) else none)=_;rw[yJ (by rw[<- fJ,bH];exact yC h Jg)];rfl
def qy{x:Str}{ls:List (List Nat)}(hz:x.length+1<=sizeLine)(h:fR 10 (tl x)=ls++[[]]):bY [.str x]=some (.list (ls.map sD)):=by
 have s:=lK hz;rw[h,qV] at s;have t:fB (f2 bN (f2 aC (aa 1) (f1 gW (fC (.int 1)))) (fC (.str ""))) [some (.str x),some (.list (ls.map sD++[[]].map sD))]=some false:=by
  refine aL (ar (a:=sD []) (b:=.str "") ?_ ?_ rfl)
  ·rw[ne_str (by decide +kernel) (by decide +kernel)];rfl
  ·show jj (ls.map sD++[sD []]) (-1)=_;exact mZ
 unfold bY jf;refine bj ?_;refine (aj s).trans ?_;refine (aj (cI (ρ:=lv x (ls.map sD++[[]].map sD)) t)).trans (bA ?_);show some (PyData.list (cut (ls.map sD++[[]].map sD) none (some (-1))))=_;rw[uu];simp
def E3{n:Nat}(h:n < 10):tq [.int ((n:Nat):Int)]=some (sD [48+n]):=by
 show (if ((n:Nat):Int).natAbs.log2 < 1920 then some (PyData.str (toString ((n:Nat):Int))) else none)=_;rw[yJ (by
  have:((n:Nat):Int).natAbs=n:=by simp
  rw[this]
  match n,h with
  | 0,_|1,_|2,_|3,_|4,_|5,_|6,_|7,_|8,_|9,_=>decide),HG h]
 rfl
def J6{ls:List (List Nat)}(h:∀l∈ls,l.length<=99)(hl:ls.length<=100):cM [.list (ls.map sD)]=some (sD (Au ls)):=by
 have c:=iE (cs:=[]) (tt:=λ_=>some true) (te:=f2 bZ (aa 0) (fC (.str "\n"))) (g:=sD) (f:=λl=>sD (l++[10])) (q:=λ_=>true) (l:=ls) (fi:=aZ (aa 0)) (ρ:=[some (.list (ls.map sD))]) (c4 rfl) (by lia) λl hm=>⟨rfl,λ_=>ar (a:=sD l) (b:=sD [10]) (si (by have:=h l hm;rw[xA];lia)) rfl (by rw[tv];rfl)⟩
 rw[show ls.filter (λ_=>true)=ls by simp] at c;unfold cM gR;refine bj (bA (ar (a:=.str "") (b:=.list ((ls.map λl=>l++[10]).map sD)) ?_ rfl ((fN c).trans (by rw[zM];rfl))));rw[yw,zw]
 ·rfl
 ·rw[zD,zw];show ls.length * 100+ls.length * 0<=_;lia
 ·intro p hp;let⟨l,hm,rfl⟩:=List.mem_map.mp hp;rw[zN];exact Nat.succ_le_succ (h l hm)
structure Dg(ns:List Nat):Prop where
 d:∀n∈ns,n < 10
 l:ns.length<=17
section
variable {G T:List Pl}{W:List Wy}
def toN{x:Int}(h:0<=x):((x.toNat:Nat):Int)=x:=Int.toNat_of_nonneg h
end
def ib(a b:List Nat):(tS a == tS b)=decide (a=b):=by
 by_cases h:a=b
 ·subst h;simp
 ·rw[zY h];cases e:tS a == tS b with
  | false=>rfl
  | true =>
   have:=qY tl (eq_of_beq e);rw[bH,bH] at this;exact absurd this h
section
variable {G T:List Pl}{W:List Wy}
end
def DU(a x b:Nat):List Nat:=[48+a,32,45,48+x,62,32,48+b]
def js{f:Dl.Env->Option D}{fs:List (Dl.Env->Option D)}{acc l:List Nat}{ρ:Dl.Env}(h:f ρ=some (sD l))(hl:acc.length+l.length<=20000):Gs (f::fs) (tS acc) ρ=Gs fs (tS (acc++l)) ρ:=by
 have e:tS acc++tS l=tS (acc++l):=vo (by rw[rh,bH,bH,bH]);show ((f ρ).bind λd=>(Kb d).bind λy=>if (tS acc++y).length<=sizeLine then Gs fs (tS acc++y) ρ else none)=_;rw[h];show (if (tS acc++tS l).length<=sizeLine then Gs fs (tS acc++tS l) ρ else none)=_;rw[e,yJ (by rw[<- fJ,bH,zN];exact yC hl Jg)]
def Cv{f:Dl.Env->Option D}{ρ:Dl.Env}{n:Nat}(h:f ρ=some (nD n))(hn:n < 10):f1 Bh f ρ=some (sD [48+n]):=by
 unfold f1;rw[h];exact E3 hn
def KR{a b x:Nat}{l:Int}(ha:a < 10)(hb:b < 10)(hx:x < 10):bJ [aB (((a:Nat):Int),((b:Nat):Int),l),nD x]=some (sD (DU a x b)):=by
 unfold bJ;refine bj ?_;show hV [.val (aB (((a:Nat):Int),((b:Nat):Int),l)),.val (nD x),.Qb,.Qb]=_;unfold hV;refine (aj (bg (d:=nD a) (ar (zk _) rfl rfl) rfl)).trans ?_;refine (aj (bg (d:=nD b) (ar (xp _) rfl rfl) rfl)).trans (bA ?_);have m1:(PyData.str " -":D)=sD [32,45]:=by rw[show (" -":Str)=tS [32,45] by decide +kernel]
 have m2:(PyData.str "> ":D)=sD [62,32]:=by rw[show ("> ":Str)=tS [62,32] by decide +kernel]
 rw[show Str.empty=tS [] from rfl,js (Cv (n:=a) rfl ha) (by simp),js (l:=[32,45]) (by rw[m1];rfl) (by simp),js (Cv (n:=x) rfl hx) (by simp),js (l:=[62,32]) (by rw[m2];rfl) (by simp),js (Cv (n:=b) rfl hb) (by simp)];rfl
section
variable {G T:List Pl}{W:List Wy}{P:List Int}
def mK(W:List Wy)(i x:Nat):List Nat:=DU (bz W i).1.toNat x (bz W i).2.1.toNat
def sT(h:Wd G T W){i:Nat}(hi:i < W.length):aB (bz W i)=aB ((((bz W i).1.toNat:Nat):Int),(((bz W i).2.1.toNat:Nat):Int),(bz W i).2.2)/\(bz W i).1.toNat < 10/\(bz W i).2.1.toNat < 10/\1<=(bz W i).2.2/\(bz W i).2.2<=9:=by
 have a:=h.wr _ (eY hi);have:=h.g4;have:=h.t4;refine⟨?_,by lia,by lia,a.2.2⟩;rw[toN a.1.1,toN a.2.1.1]
def xv(h:Wd G T W){i x:Nat}(hi:i < W.length)(hx:x < 10):bJ [aB (bz W i),nD x]=some (sD (mK W i x)):=by
 let⟨e,a,b,_⟩:=sT h hi;rw[e];exact KR a b hx
def rm(h:Wd G T W){i j x y:Nat}(hi:i < W.length)(hj:j < W.length)(e:mK W i x=mK W j y):i=j/\x=y:=by
 unfold mK DU at e;injection e with e1 e
 injection e with _ e
 injection e with _ e
 injection e with e2 e
 injection e with _ e
 injection e with _ e
 injection e with e3 _
 have a:=h.wr _ (eY hi);have b:=h.wr _ (eY hj);refine⟨?_,by lia⟩;have hp:=h.wp;rcases Nat.lt_trichotomy i j with z|z|z
 ·have:=List.pairwise_iff_getElem.mp hp i j hi hj z;rw[ia hi,ia hj] at this;lia
 ·exact z
 ·have:=List.pairwise_iff_getElem.mp hp j i hj hi z;rw[ia hi,ia hj] at this;lia
def Lb{ks:List (Str×List Int)}{z z':Str}{ns:List Int}(h:(ks.any λp=>decide (p.1=z))=false):ji (ks++[(z,ns)]) z'=if z=z' then some ns else ji ks z':=by
 unfold ji;rw[List.find?_append];by_cases e:z=z'
 ·subst e;rw[yJ rfl,List.find?_eq_none.mpr (λp hp=>by
   rw[List.any_eq_false] at h;exact h p hp)]
  simp
 ·rw[yL e];cases ks.find? λp=>decide (p.1=z') with
  | none=>simp[e]
  | some q=>rfl
def wM{z z':Str}{ns:List Int}:∀ {ks:List (Str×List Int)},(ks.any λp=>decide (p.1=z))=true->ji (ks.map λp=>if p.1=z then (p.1,ns) else p) z'=if z=z' then some ns else ji ks z'
 | [],h=>by cases h
 | p::r,h=>by
  unfold ji;rw[zI,List.find?_cons,List.find?_cons];by_cases e:p.1=z
  ·subst e;rw[yJ rfl];by_cases e':p.1=z'
   ·subst e';simp
   ·rw[yL e'];rw[show (decide ((p.1,ns).1=z'))=false from zY e'];dsimp only;cases hr:r.any λq=>decide (q.1=p.1) with
    | true =>
     have:=wM (z':=z') (ns:=ns) hr;unfold ji at this;rw[this,yL e']
    | false =>
     have:(r.map λq=>if q.1=p.1 then (q.1,ns) else q)=r:=by
      conv=>rhs;rw[<- List.map_id r]
      refine yH λq hq=>?_;rw[List.any_eq_false] at hr;have:=hr q hq;simp?[zJ] at this;rw[yL this];rfl
     rw[this]
  ·rw[yL e];have hr:(r.any λq=>decide (q.1=z))=true:=by
    rw[kP,zY e,Bool.false_or] at h;exact h
   have ih:=wM (z':=z') (ns:=ns) hr;unfold ji at ih;by_cases e':p.1=z'
   ·rw[zZ e',yL (λw=>e (e'.trans w.symm))]
   ·rw[zY e'];exact ih
def DQ(ks:List (Str×List Int))(z z':Str)(ns:List Int):ji (mC ks z ns) z'=if z=z' then some ns else ji ks z':=by
 unfold mC;split
 ·rename_i h;exact wM h
 ·rename_i h;exact Lb (by rw[Bool.not_eq_true] at h;exact h)
def He(ks:List (Str×List Int))(z:Str)(ns:List Int):(mC ks z ns).length<=ks.length+1:=by
 unfold mC;split
 ·rw[zD];lia
 ·rw[zN];exact yK _
structure Kn(W:List Wy)(i k:Nat)(ks:List (Str×List Int)):Prop where
 all:∀j x:Nat,j < W.length->1<=x->(x:Int)<=(bz W j).2.2->(j < i\/(j=i/\x<=k))->ji ks (tS (mK W j x))=some [((j:Nat):Int),((x:Nat):Int)]
 len:ks.length<=9 * i+k
def Kn.next(h:Wd G T W){i k:Nat}{ks:List (Str×List Int)}(hi:i < W.length)(K:Kn W i k ks):Kn W i (k+1) (mC ks (tS (mK W i (k+1))) [((i:Nat):Int),((k+1:Nat):Int)]):=by
 refine⟨λj x hj h1 h2 hc=>?_,?_⟩
 ·rw[DQ];by_cases e:mK W i (k+1)=mK W j x
  ·let⟨rfl,rfl⟩:=rm h hi hj e;rw[yJ rfl]
  ·rw[yL λz=>e (by have:=qY tl z;rwa [bH,bH] at this)];refine K.all j x hj h1 h2 ?_;rcases hc with hc|⟨rfl,hc⟩
   ·exact .inl hc
   ·refine .inr ⟨rfl,?_⟩;by_cases z:x=k+1
    ·subst z;exact absurd rfl e
    ·lia
 ·have:=He ks (tS (mK W i (k+1))) [((i:Nat):Int),((k+1:Nat):Int)];have:=K.len;lia
abbrev pQ(G T:List Pl)(W:List Wy)(x1 x2 x3 x4:Slot):aq:=[.val (aR G T W),x1,x2,x3,x4]
def Ep:aq->Option Out:=uC 1 (ai 2 bJ (ae (aa 3) (ae (aa 4) ag))) (bc (ae (aa 2) (ae (aa 4) ag)))
def OY:aq->Option Out:=dh [3] (fw (ae (fC (.int 1)) (ae (f2 aw (f2 aC (aa 3) (fC (.int 2))) (fC (.int 1))) ag))) (gn 4) Ep
def tupI(l:List Int):kj (ao l)=some l:=by
 have:∀l:List Int,intsOf (l.map PyData.int)=some l:=λl=>by
  induction l with
  | nil=>rfl
  | cons x r ih=>rw[zI,intsOf,ih];rfl
 exact this l
def za(h:Wd G T W){i k:Nat}{ks:List (Str×List Int)}(hi:i < W.length)(hk:k < 9)(K:Kn W i k ks):Ep (pQ G T W (.Qk ks) (.val (nD i)) (.val (aB (bz W i))) (.val (nD (k+1))))=some (.nx (pQ G T W (.Qk (mC ks (tS (mK W i (k+1))) [((i:Nat):Int),((k+1:Nat):Int)])) (.val (nD i)) (.val (aB (bz W i))) (.val (nD (k+1))))):=by
 have e1:(bc (ae (aa 2) (ae (aa 4) ag))) (aY (pQ G T W (.Qk ks) (.val (nD i)) (.val (aB (bz W i))) (.val (nD (k+1)))))=some (ao [((i:Nat):Int),((k+1:Nat):Int)]):=tup_is (ds:=[nD i,nD (k+1)]) rfl (by simp);have e2:(ai 2 bJ (ae (aa 3) (ae (aa 4) ag))) (aY (pQ G T W (.Qk ks) (.val (nD i)) (.val (aB (bz W i))) (.val (nD (k+1)))))=some (sD (mK W i (k+1))):=call_of (xv h hi (by lia)) rfl rfl;have hl:ks.length < sizeLine:=by
  have:=K.len;have:=h.wl;have:=Jg;lia
 unfold Ep uC;rw[e1,zA,tupI,zA,e2,zA];show (if ks.length < sizeLine then _ else none)=_;rw[yJ hl];rfl
def FK(h:Wd G T W):∃ks,br [aR G T W]=some (dD ks)/\∀j x:Nat,j < W.length->1<=x->(x:Int)<=(bz W j).2.2->ji ks (tS (mK W j x))=some [((j:Nat):Int),((x:Nat):Int)]:=by
 let⟨ρ',f,ks,x2,x3,x4,rfl,K⟩:=dG (tgt:=iQ 2 3) (gb:=OY) (λi=>.tuple [nD i,aB (bz W i)]) (λi ρ=>∃ks x2 x3 x4,ρ=pQ G T W (.Qk ks) x2 x3 x4/\Kn W i 0 ks) W.length 0 (pQ G T W (.Qk []) .Qb .Qb .Qb)
  (λi ρ _ hi Rc=>by
   let⟨ks,x2,x3,x4,rfl,K⟩:=Rc;have hi:i < W.length:=by lia
   let⟨_,_,_,l1,l9⟩:=sT h hi;let⟨m,hm⟩:=kW (show 0<=(bz W i).2.2 by lia);let⟨ρ',f,Xj,y4,rfl,K'⟩:=dG (tgt:=gn 4) (gb:=Ep) (λk=>nD (k+1)) (λk ρ=>∃ks x4,ρ=pQ G T W (.Qk ks) (.val (nD i)) (.val (aB (bz W i))) x4/\Kn W i k ks) m 0 (pQ G T W (.Qk ks) (.val (nD i)) (.val (aB (bz W i))) x4)
    (λk ρ _ hk Rc=>by
     let⟨ks,x4,rfl,K⟩:=Rc;exact⟨_,_,rfl,za h hi (by lia) K,_,_,rfl,K.next h hi⟩) ⟨ks,_,rfl,K⟩
   rw[qZ] at K';rw[<- yG] at f;have hr:fw (ae (fC (.int 1)) (ae (f2 aw (f2 aC (aa 3) (fC (.int 2))) (fC (.int 1))) ag)) (aY (pQ G T W (.Qk ks) (.val (nD i)) (.val (aB (bz W i))) x4))=some ((List.range m).map λk=>nD (k+1)):=by
    have e:ae (fC (.int 1)) (ae (f2 aw (f2 aC (aa 3) (fC (.int 2))) (fC (.int 1))) ag) (aY (pQ G T W (.Qk ks) (.val (nD i)) (.val (aB (bz W i))) x4))=some [.int 1,.int (((m:Nat):Int)+1)]:=cons_of rfl (cons_of (ar (az _ _) (ar ((sG (bz W i)).trans (by rw[hm])) rfl rfl) rfl) rfl);have Xl:m4 (((m:Nat):Int)+1)=true:=kh (m:=m+1) (by lia);unfold fw;rw[e,zA];show (if (m4 1&&m4 (((m:Nat):Int)+1))=true then some ((List.range (((m:Nat):Int)+1 - 1).toNat).map λk=>PyData.int (1+((k:Nat):Int))) else none)=_;rw[Xl,yJ (by decide),show (((m:Nat):Int)+1 - 1).toNat=m by lia];refine qY some (yH λk _=>?_);show PyData.int (1+((k:Nat):Int))=PyData.int ((k+1:Nat):Int);rw[show (1:Int)+((k:Nat):Int)=((k+1:Nat):Int) by lia]
   refine⟨_,_,rfl,ba f hr rfl,Xj,_,_,_,rfl,⟨λj x hj h1 h2 hc=>K'.all j x hj h1 h2 ?_,?_⟩⟩
   ·rcases hc with hc|⟨_,hc⟩
    ·by_cases z:j=i
     ·subst z;exact .inr ⟨rfl,by lia⟩
     ·exact .inl (by lia)
    ·lia
   ·have:=K'.len;lia) ⟨[],_,_,_,rfl,⟨λj x _ h1 _ hc=>by rcases hc with hc|⟨_,hc⟩<;>lia,xS _⟩⟩
 rw[qZ] at K;refine⟨ks,?_,λj x hj h1 h2=>K.all j x hj h1 h2 (.inl hj)⟩;unfold br;refine bj ?_;show cJ [.val (aR G T W),.Qb,.Qb,.Qb,.Qb]=_;unfold cJ;refine (aj (show qa 1 [.val (aR G T W),.Qb,.Qb,.Qb,.Qb]=some (.nx (pQ G T W (.Qk []) .Qb .Qb .Qb)) from rfl)).trans ?_;refine (aj (ba f ?_ rfl)).trans (bA rfl);have e:f2 aC (aa 0) (fC (.int 2)) (aY (pQ G T W (.Qk []) .Qb .Qb .Qb))=some (.tuple (W.map aB)):=ar (d9 G T W) rfl rfl;rw[<- iL];unfold cE;rw[cons_of e rfl];rfl
end
section
variable {G T:List Pl}{W:List Wy}{P:List Int}
def mJ(W:List Wy)(P:List Int):List Nat:=(List.range W.length).filter λi=>decide (0 < P.getD i 0)
def i8(W:List Wy)(P:List Int)(i:Nat):List Nat:=mK W i (P.getD i 0).toNat
abbrev iO(W:List Wy)(P:List Int):List Nat:=Au ((mJ W P).map (i8 W P))
def eA{i:Nat}:i∈mJ W P↔i < W.length/\0 < P.getD i 0:=by
 unfold mJ;rw[List.mem_filter,zS,zJ]
def m6:(mJ W P).length<=W.length:=by
 unfold mJ;exact yC (xN _ _) (by rw[zR];exact yK _)
def Pn.Vu(h:Wd G T W)(p:Pn G T W P){i:Nat}(hi:i < W.length):0<=P.getD i 0/\P.getD i 0<=(bz W i).2.2/\P.getD i 0<=9:=by
 have:=p.bd i hi;have:=(h.wr _ (eY hi)).2.2.2;lia
def i9(h:Wd G T W)(p:Pn G T W P){i:Nat}(hi:i < W.length):(i8 W P i).length<=99/\10∉i8 W P i/\∀c∈i8 W P i,c < 200:=by
 let⟨_,a,b,_⟩:=sT h hi;have c:=p.Vu h hi;unfold i8;have hy:(P.getD i 0).toNat < 10:=by lia
 generalize (P.getD i 0).toNat=y at hy;unfold mK DU;refine⟨by simp,λz=>?_,λx hx=>?_⟩
 ·simp at z;lia
 ·simp at hx;lia
def lN(h:Wd G T W)(p:Pn G T W P):Gd (iO W P):=by
 refine⟨λc hc=>?_,?_⟩
 ·rcases Hs hc with rfl|⟨l,hl,hc⟩
  ·decide
  ·let⟨i,hi,rfl⟩:=List.mem_map.mp hl;have:=(i9 h p (eA.mp hi).1).2.2 c hc;lia
 ·have:=xk (ls:=(mJ W P).map (i8 W P)) λl hl=>by
   let⟨i,hi,rfl⟩:=List.mem_map.mp hl;exact (i9 h p (eA.mp hi).1).1
  rw[zD] at this;have:=m6 (W:=W) (P:=P);have:=h.wl;show (Au ((mJ W P).map (i8 W P))).length<=10000;lia
def mW(h:Wd G T W)(p:Pn G T W P):bb [aR G T W,ao P]=some (sD (iO W P)):=by
 have hw:=h.wl;have hz:∀ρ:Dl.Env,aa 0 ρ=some (aR G T W)->aa 1 ρ=some (ao P)->dQ (ae (f2 aC (aa 0) (fC (.int 2))) (ae (aa 1) ag)) ρ=some ((List.range W.length).map λi=>.tuple [aB (bz W i),.int (P.getD i 0)]):=λρ h0 h1=>by
  rw[<- lJ p.len];unfold dQ;rw[cons_of (ar (d9 G T W) h0 rfl) (cons_of h1 rfl)];rfl
 have c:=gc (cs:=[]) (tt:=fB (f2 D1 (aa 1) (fC (.int 0)))) (te:=ai 2 bJ (ae (aa 0) (ae (aa 1) ag))) (p:=λi=>decide (0 < P.getD i 0)) (h:=λi=>sD (i8 W P i)) (hz (aG [.val (aR G T W),.val (ao P)]) rfl rfl) (by lia) λi hi=>⟨aL (ar (Ak _ _) rfl rfl),λ_=>by
  have a:=p.Vu h hi;have e:(PyData.int (P.getD i 0):D)=nD (P.getD i 0).toNat:=qY PyData.int (toN a.1).symm;refine call_of (xv h hi (x:=(P.getD i 0).toNat) (by lia)) ?_ rfl;rw[<- e];rfl⟩
 unfold bb;refine bj ?_;show eK [.val (aR G T W),.val (ao P)]=_;unfold eK;have t:=J6 (ls:=(mJ W P).map (i8 W P)) (λl hl=>by
  let⟨i,hi,rfl⟩:=List.mem_map.mp hl;exact (i9 h p (eA.mp hi).1).1) (by rw[zD];have:=m6 (W:=W) (P:=P);lia)
 rw[zM] at t;exact bA (call_of t (cons_of (fN c) rfl) rfl)
def zf:aq->Option Out:=(av (fu (fB (f2 mG (aa 4) (aa 2))) BJ eM) (av (aH 5 [2,4] (f2 l5 (aa 2) (aa 4))) (oX 3 [5] (f2 aC (aa 5) (fC (.int 0))) (f2 aC (aa 5) (fC (.int 1))))))
abbrev s7(G T:List Pl)(W:List Wy)(t:List Nat)(ks:List (Str×List Int))(x3 x4 x5:Slot):aq:=[.val (aR G T W),.val (sD t),.val (dD ks),x3,x4,x5,.Qb]
def rf{t l:List Nat}{ks:List (Str×List Int)}{N:List Int}{i:Nat}{y:Int}{x5:Slot}(hl:ji ks (tS l)=some [((i:Nat):Int),y])(hi:i < N.length):zf (s7 G T W t ks (.own (N.map PyData.int)) (.val (sD l)) x5)=some (.nx (s7 G T W t ks (.own ((N.set i y).map PyData.int)) (.val (sD l)) (.val (ao [((i:Nat):Int),y])))):=by
 have e:Bb (dE ks) (tS l)=some (ao [((i:Nat):Int),y]):=by rw[nu,hl];rfl
 unfold zf;refine (aj (cI (aL (show f2 mG (aa 4) (aa 2) (aG (s7 G T W t ks (.own (N.map PyData.int)) (.val (sD l)) x5))=some (.bool false) by
  show some (PyData.bool (!(Bb (dE ks) (tS l)).isSome))=_;rw[e];rfl)))).trans ?_
 have e5:∀ρ:Dl.Env,aa 2 ρ=some (dD ks)->aa 4 ρ=some (sD l)->f2 l5 (aa 2) (aa 4) ρ=some (ao [((i:Nat):Int),y]):=λρ h2 h4=>ar (a:=dD ks) (b:=sD l) e h2 h4;refine (aj (bG (e5 _ rfl rfl) (e5 _ rfl rfl) rfl)).trans ?_;refine (p5 (d:=.int y) (k:=i) (ds:=N.map PyData.int) rfl rfl rfl rfl (by rw[zD];exact hi)).trans ?_;rw[List.map_set];rfl
def fills(P:List Int):List Nat->List Int->List Int
 | [],N=>N
 | i::r,N=>fills P r (N.set i (P.getD i 0))
def pE:∀ (is:List Nat) (N:List Int),(fills P is N).length=N.length
 | [],N=>rfl
 | i::r,N=>by rw[fills,pE r,yB]
def uP:∀ (is:List Nat) (N:List Int) (j:Nat),j < N.length->(fills P is N).getD j 0=if j∈is then P.getD j 0 else N.getD j 0
 | [],N,j,_=>by simp[fills]
 | i::r,N,j,h=>by
  rw[fills,uP r _ j (by rw[yB];exact h)];by_cases hr:j∈r
  ·rw[yJ hr,yJ (zC _ hr)]
  ·rw[yL hr];by_cases e:j=i
   ·subst e;rw[yJ zE];simp[h]
   ·rw[yL (λz=>by rcases List.mem_cons.mp z with z|z;exact e z;exact hr z)];simp?[zG,kH (jJ e)]
def HH(h:Wd G T W)(p:Pn G T W P):fills P (mJ W P) (List.replicate W.length 0)=P:=by
 refine jD (by rw[pE,xJ,p.len]) λj h1 h2=>?_;have hj:j < W.length:=by rw[<- p.len];exact h2
 have a:=uP (P:=P) (mJ W P) (List.replicate W.length 0) j (by rw[xJ];exact hj);have e1:(fills P (mJ W P) (List.replicate W.length 0)).getD j 0=(fills P (mJ W P) (List.replicate W.length 0))[j]:=by simp[h1]
 have e2:P.getD j 0=P[j]:=by simp[h2]
 rw[<- e1,a,<- e2];split
 ·rfl
 ·rename_i hn;have:¬ 0 < P.getD j 0:=λz=>hn (eA.mpr ⟨hj,z⟩);have:=(p.Vu h hj).1;have z:P.getD j 0=0:=by lia
  rw[z];simp[hj]
def uz(h:Wd G T W)(p:Pn G T W P):cw [aR G T W,sD (iO W P)]=some (ao P):=by
 have hw:=h.wl;have g:=lN h p;let⟨ks,ek,hk⟩:=FK h;have e0:=qy (x:=tS (iO W P)) (ls:=(mJ W P).map (i8 W P)) g.zt (by
  rw[bH];refine r8 λl hl=>?_;let⟨i,hi,rfl⟩:=List.mem_map.mp hl;exact (i9 h p (eA.mp hi).1).2.1)
 rw[zM] at e0;unfold cw;refine bj ?_;show cn [.val (aR G T W),.val (sD (iO W P)),.Qb,.Qb,.Qb,.Qb,.Qb]=_;unfold cn;refine (aj (jh (call_of (dI h) rfl rfl))).trans ?_;refine (aj (bG (call_of ek rfl rfl) (call_of ek rfl rfl) rfl)).trans ?_;have ez:ay 1 [] (aZ (f2 aC (aa 0) (fC (.int 2)))) (fG 0) (λ_=>some true) (fC (.int 0)) (aY (s7 G T W (iO W P) ks .Qb .Qb .Qb))=some ((List.replicate W.length (0:Int)).map PyData.int):=by
  have:=zeros (fi:=aZ (f2 aC (aa 0) (fC (.int 2)))) (ρ:=aY (s7 G T W (iO W P) ks .Qb .Qb .Qb)) (ds:=W.map aB) (rD (ar (d9 G T W) rfl rfl)) (by rw[zD];lia);rw[zD] at this;exact this
 refine (aj (b8 ez rfl)).trans ?_;obtain⟨ρ',f,x4,x5,rfl⟩:∃ρ',cC (gn 4) zf ((mJ W P).map λi=>sD (i8 W P i)) (s7 G T W (iO W P) ks (.own ((List.replicate W.length (0:Int)).map PyData.int)) .Qb .Qb)=some (.nx ρ')/\∃x4 x5,ρ'=s7 G T W (iO W P) ks (.own ((fills P (mJ W P) (List.replicate W.length 0)).map PyData.int)) x4 x5:=by
  have key:∀ (is:List Nat) (N:List Int) (x4 x5:Slot),(∀i∈is,i∈mJ W P)->N.length=W.length->∃ρ',cC (gn 4) zf (is.map λi=>sD (i8 W P i)) (s7 G T W (iO W P) ks (.own (N.map PyData.int)) x4 x5)=some (.nx ρ')/\∃x4 x5,ρ'=s7 G T W (iO W P) ks (.own ((fills P is N).map PyData.int)) x4 x5:=λis=>by
   induction is with
   | nil=>intro N x4 x5 _ _;exact⟨_,rfl,_,_,rfl⟩
   | cons i r ih =>
    intro N x4 x5 hm hn;let⟨hi,SJ⟩:=eA.mp (hm i zE);have a:=p.Vu h hi;have hl:=hk i (P.getD i 0).toNat hi (by lia) (by lia);rw[toN a.1] at hl;have hl:ji ks (tS (i8 W P i))=some [((i:Nat):Int),P.getD i 0]:=hl;let⟨ρ',e1,e2⟩:=ih (N.set i (P.getD i 0)) (.val (sD (i8 W P i))) (.val (ao [((i:Nat):Int),P.getD i 0])) (λj hj=>hm j (zC _ hj)) (by rw[yB];exact hn);refine⟨ρ',?_,e2⟩;rw[zI,cC,show gn 4 (s7 G T W (iO W P) ks (.own (N.map PyData.int)) x4 x5) (sD (i8 W P i))=some (s7 G T W (iO W P) ks (.own (N.map PyData.int)) (.val (sD (i8 W P i))) x5) from rfl,zA,rf hl (by lia)];exact e1
  exact key _ _ _ _ (λi hi=>hi) (by rw[xJ])
 refine (aj (ba f (c4 (call_of e0 rfl rfl)) rfl)).trans ?_;rw[HH h p];have et:∀ρ:Dl.Env,aa 3 ρ=some (.list (P.map PyData.int))->aW bU (ae (aa 3) ag) ρ=some (ao P):=λρ h3=>(cH h3).trans (gE _);refine (aj (pq (et _ rfl) (et _ rfl))).trans ?_;refine (aj (cI (K4 (cB (b:=true) (aL (call_of (iU h p) rfl rfl))) (aL (ar (a:=sD (iO W P)) (b:=sD (iO W P)) ?_ (call_of (mW h p) rfl rfl) rfl))))).trans (bA rfl);rw[ne_str g.sk g.sk];simp
def mi(h:Wd G T W)(p:Pn G T W P):cT [aR G T W,ao P]=some (sD (iO W P)):=by
 unfold cT md;refine bj ?_;exact (aj (ρ:=[.val (aR G T W),.val (ao P)]) (jh (call_of (qx h p) rfl rfl))).trans (bA (call_of (mW h p) rfl rfl))
end
section
variable {G T:List Pl}{W:List Wy}{P:List Int}
def Kc(W:List Wy)(ks:List (Str×List Int)):Prop:=∀z v,ji ks z=some v->∃j x:Nat,j < W.length/\1<=x/\(x:Int)<=(bz W j).2.2/\z=tS (mK W j x)/\v=[((j:Nat):Int),((x:Nat):Int)]
def Kc.next{i k:Nat}{ks:List (Str×List Int)}(C:Kc W ks)(hi:i < W.length)(hk:((k+1:Nat):Int)<=(bz W i).2.2):Kc W (mC ks (tS (mK W i (k+1))) [((i:Nat):Int),((k+1:Nat):Int)]):=λz v e=>by
 rw[DQ] at e;by_cases q:tS (mK W i (k+1))=z
 ·rw[yJ q] at e;cases e;exact⟨i,k+1,hi,by lia,hk,q.symm,rfl⟩
 ·rw[yL q] at e;exact C z v e
def uG(h:Wd G T W):∃ks,br [aR G T W]=some (dD ks)/\(∀j x:Nat,j < W.length->1<=x->(x:Int)<=(bz W j).2.2->ji ks (tS (mK W j x))=some [((j:Nat):Int),((x:Nat):Int)])/\∀z v,ji ks z=some v->∃j x:Nat,j < W.length/\1<=x/\(x:Int)<=(bz W j).2.2/\z=tS (mK W j x)/\v=[((j:Nat):Int),((x:Nat):Int)]:=by
 let⟨ρ',f,ks,x2,x3,x4,rfl,K,C⟩:=dG (tgt:=iQ 2 3) (gb:=OY) (λi=>.tuple [nD i,aB (bz W i)]) (λi ρ=>∃ks x2 x3 x4,ρ=pQ G T W (.Qk ks) x2 x3 x4/\Kn W i 0 ks/\Kc W ks) W.length 0 (pQ G T W (.Qk []) .Qb .Qb .Qb)
  (λi ρ _ hi Rc=>by
   let⟨ks,x2,x3,x4,rfl,K,C⟩:=Rc;have hi:i < W.length:=by lia
   let⟨_,_,_,l1,l9⟩:=sT h hi;let⟨m,hm⟩:=kW (show 0<=(bz W i).2.2 by lia);let⟨ρ',f,Xj,y4,rfl,K',C'⟩:=dG (tgt:=gn 4) (gb:=Ep) (λk=>nD (k+1)) (λk ρ=>∃ks x4,ρ=pQ G T W (.Qk ks) (.val (nD i)) (.val (aB (bz W i))) x4/\Kn W i k ks/\Kc W ks) m 0 (pQ G T W (.Qk ks) (.val (nD i)) (.val (aB (bz W i))) x4)
    (λk ρ _ hk Rc=>by
     let⟨ks,x4,rfl,K,C⟩:=Rc;exact⟨_,_,rfl,za h hi (by lia) K,_,_,rfl,K.next h hi,C.next hi (by lia)⟩) ⟨ks,_,rfl,K,C⟩
   rw[qZ] at K';rw[<- yG] at f;have hr:fw (ae (fC (.int 1)) (ae (f2 aw (f2 aC (aa 3) (fC (.int 2))) (fC (.int 1))) ag)) (aY (pQ G T W (.Qk ks) (.val (nD i)) (.val (aB (bz W i))) x4))=some ((List.range m).map λk=>nD (k+1)):=by
    have e:ae (fC (.int 1)) (ae (f2 aw (f2 aC (aa 3) (fC (.int 2))) (fC (.int 1))) ag) (aY (pQ G T W (.Qk ks) (.val (nD i)) (.val (aB (bz W i))) x4))=some [.int 1,.int (((m:Nat):Int)+1)]:=cons_of rfl (cons_of (ar (az _ _) (ar ((sG (bz W i)).trans (by rw[hm])) rfl rfl) rfl) rfl);have Xl:m4 (((m:Nat):Int)+1)=true:=kh (m:=m+1) (by lia);unfold fw;rw[e,zA];show (if (m4 1&&m4 (((m:Nat):Int)+1))=true then some ((List.range (((m:Nat):Int)+1 - 1).toNat).map λk=>PyData.int (1+((k:Nat):Int))) else none)=_;rw[Xl,yJ (by decide),show (((m:Nat):Int)+1 - 1).toNat=m by lia];refine qY some (yH λk _=>?_);show PyData.int (1+((k:Nat):Int))=PyData.int ((k+1:Nat):Int);rw[show (1:Int)+((k:Nat):Int)=((k+1:Nat):Int) by lia]
   refine⟨_,_,rfl,ba f hr rfl,Xj,_,_,_,rfl,⟨λj x hj h1 h2 hc=>K'.all j x hj h1 h2 ?_,?_⟩,C'⟩
   ·rcases hc with hc|⟨_,hc⟩
    ·by_cases z:j=i
     ·subst z;exact .inr ⟨rfl,by lia⟩
     ·exact .inl (by lia)
    ·lia
   ·have:=K'.len;lia) ⟨[],_,_,_,rfl,⟨λj x _ h1 _ hc=>by rcases hc with hc|⟨_,hc⟩<;>lia,xS _⟩,λz v e=>by cases e⟩
 rw[qZ] at K;refine⟨ks,?_,λj x hj h1 h2=>K.all j x hj h1 h2 (.inl hj),C⟩;unfold br;refine bj ?_;show cJ [.val (aR G T W),.Qb,.Qb,.Qb,.Qb]=_;unfold cJ;refine (aj (show qa 1 [.val (aR G T W),.Qb,.Qb,.Qb,.Qb]=some (.nx (pQ G T W (.Qk []) .Qb .Qb .Qb)) from rfl)).trans ?_;refine (aj (ba f ?_ rfl)).trans (bA rfl);have e:f2 aC (aa 0) (fC (.int 2)) (aY (pQ G T W (.Qk []) .Qb .Qb .Qb))=some (.tuple (W.map aB)):=ar (d9 G T W) rfl rfl;rw[<- iL];unfold cE;rw[cons_of e rfl];rfl
end
section
variable {G T:List Pl}{W:List Wy}{P:List Int}{t l:List Nat}{ls:List (List Nat)}
def tm{g1 g2:aq->Option Out}{ρ:aq}(h:g1 ρ=none):av g1 g2 ρ=none:=by
 unfold av;rw[h];rfl
structure Nm(W:List Wy)(N:List Int):Prop where
 len:N.length=W.length
 bd:∀x∈N,0<=x/\x<=9
def Nm.set{N:List Int}(h:Nm W N){i:Nat}{y:Int}(hy:0<=y/\y<=9):Nm W (N.set i y):=⟨by rw[yB];exact h.len,λx hx=>by
 rcases List.mem_or_eq_of_mem_set hx with z|z
 ·exact h.bd x z
 ·rw[z];exact hy⟩
def Nm.sm{N:List Int}(h:Nm W N):Sm N:=λk=>by
 by_cases hk:k < N.length
 ·have e:N.getD k 0=N[k]:=by simp[hk]
  have:=h.bd _ (xY hk);rw[e];lia
 ·rw[uH (by lia)];lia
def C0(h:Wd G T W){ks:List (Str×List Int)}(C:Kc W ks):∀ (ls:List (List Nat)) (N:List Int) (x4 x5:Slot),Nm W N ->
  (cC (gn 4) zf (ls.map sD) (s7 G T W t ks (.own (N.map PyData.int)) x4 x5)=none/\∃l∈ls,ji ks (tS l)=none)\/∃M y4 y5,Nm W M/\cC (gn 4) zf (ls.map sD) (s7 G T W t ks (.own (N.map PyData.int)) x4 x5)=some (.nx (s7 G T W t ks (.own (M.map PyData.int)) y4 y5))
 | [],N,x4,x5,hN=>.inr ⟨N,x4,x5,hN,rfl⟩
 | l::r,N,x4,x5,hN=>by
  have es:gn 4 (s7 G T W t ks (.own (N.map PyData.int)) x4 x5) (sD l)=some (s7 G T W t ks (.own (N.map PyData.int)) (.val (sD l)) x5):=rfl;cases e:ji ks (tS l) with
  | none =>
   refine .inl ⟨?_,l,zE,e⟩;rw[zI,cC,es,zA];have:zf (s7 G T W t ks (.own (N.map PyData.int)) (.val (sD l)) x5)=none:=by
    have c:fB (f2 mG (aa 4) (aa 2)) (aG (s7 G T W t ks (.own (N.map PyData.int)) (.val (sD l)) x5))=some true:=aL (show some (PyData.bool (!(Bb (dE ks) (tS l)).isSome))=_ by rw[nu,e];rfl);unfold zf av;rw[dJ c];rfl
   rw[this];rfl
  | some v =>
   let⟨j,x,hj,h1,h2,_,rfl⟩:=C _ _ e;have h9:=(h.wr _ (eY hj)).2.2.2;have run:=rf (G:=G) (T:=T) (W:=W) (t:=t) (N:=N) (x5:=x5) e (by rw[hN.len];exact hj);rcases C0 h C r (N.set j ((x:Nat):Int)) (.val (sD l)) (.val (ao [((j:Nat):Int),((x:Nat):Int)])) (hN.set (by lia)) with ⟨a,q,hq,hn⟩|⟨M,y4,y5,hM,a⟩
   ·refine .inl ⟨?_,q,zC _ hq,hn⟩;rw[zI,cC,es,zA,run];exact a
   ·refine .inr ⟨M,y4,y5,hM,?_⟩;rw[zI,cC,es,zA,run];exact a
def F9(h:Wd G T W)(g:Gd t)(hn:∀P,Pn G T W P->t≠iO W P)(e:fR 10 t=ls++[[]]):cw [aR G T W,sD t]=none:=by
 have hw:=h.wl;let⟨ks,ek,hk,C⟩:=uG h;have e0:=qy (x:=tS t) (ls:=ls) g.zt (by rw[bH];exact e);have key:cn [.val (aR G T W),.val (sD t),.Qb,.Qb,.Qb,.Qb,.Qb]=none:=by
  unfold cn;refine (aj (jh (call_of (dI h) rfl rfl))).trans ?_;refine (aj (bG (call_of ek rfl rfl) (call_of ek rfl rfl) rfl)).trans ?_;have ez:ay 1 [] (aZ (f2 aC (aa 0) (fC (.int 2)))) (fG 0) (λ_=>some true) (fC (.int 0)) (aY (s7 G T W t ks .Qb .Qb .Qb))=some ((List.replicate W.length (0:Int)).map PyData.int):=by
   have:=zeros (fi:=aZ (f2 aC (aa 0) (fC (.int 2)))) (ρ:=aY (s7 G T W t ks .Qb .Qb .Qb)) (ds:=W.map aB) (rD (ar (d9 G T W) rfl rfl)) (by rw[zD];lia);rw[zD] at this;exact this
  refine (aj (b8 ez rfl)).trans ?_;have h0:Nm W (List.replicate W.length (0:Int)):=⟨by rw[xJ],λx hx=>by rw[List.eq_of_mem_replicate hx];lia⟩
  rcases C0 (t:=t) h C ls (List.replicate W.length 0) .Qb .Qb h0 with ⟨a,_⟩|⟨M,y4,y5,hM,a⟩
  ·exact tm (ba a (c4 (call_of e0 rfl rfl)) rfl)
  ·refine (aj (ba a (c4 (call_of e0 rfl rfl)) rfl)).trans ?_;have et:∀ρ:Dl.Env,aa 3 ρ=some (.list (M.map PyData.int))->aW bU (ae (aa 3) ag) ρ=some (ao M):=λρ h3=>(cH h3).trans (gE _);refine (aj (pq (et _ rfl) (et _ rfl))).trans ?_;have ip:=iN h hM.len hM.sm;have no:∀ {c:Dl.Env->Option Bool}{g2:aq->Option Out}{ρ:aq},c (aG ρ)=some true->av (fu c BJ eM) g2 ρ=none:=λ{c g2 ρ} hc=>by
    unfold av;rw[dJ hc];rfl
   refine no ?_;cases hb:BK G T W M with
   | false =>
    rw[hb] at ip;have n1:=cB (b:=false) (aL (call_of (n:=2) (fs:=ae (aa 0) (ae (aa 6) ag)) (ρ:=aG [.val (aR G T W),.val (sD t),.val (dD ks),.own (M.map PyData.int),y4,y5,.val (ao M)]) ip rfl rfl));unfold dk;exact (qY (λo=>Option.bind o _) n1).trans rfl
   | true =>
    rw[hb] at ip;have p:=(jt hM.len).mp hb;have n1:=cB (b:=true) (aL (call_of (n:=2) (fs:=ae (aa 0) (ae (aa 6) ag)) (ρ:=aG [.val (aR G T W),.val (sD t),.val (dD ks),.own (M.map PyData.int),y4,y5,.val (ao M)]) ip rfl rfl));have n2:fB (f2 bN (ai 2 bb (ae (aa 0) (ae (aa 6) ag))) (aa 1)) (aG [.val (aR G T W),.val (sD t),.val (dD ks),.own (M.map PyData.int),y4,y5,.val (ao M)])=some true:=by
     refine aL (ar (a:=sD (iO W M)) (b:=sD t) ((ne_str (lN h p).sk g.sk).trans ?_) (call_of (mW h p) rfl rfl) rfl);rw[ib,zY (λz=>hn M p z.symm)];rfl
    unfold dk;exact (qY (λo=>Option.bind o _) n1).trans n2
 show (cn [.val (aR G T W),.val (sD t),.Qb,.Qb,.Qb,.Qb,.Qb]).map _=_;rw[key];rfl
end
open  Ex
section
variable {G T:List Pl}{W:List Wy}{P:List Int}{t l:List Nat}{ls:List (List Nat)}
abbrev LJ:Str:="NoText"
def um{g:aq->Option Out}{x:aq->Option Str}{ρ ρ':aq}(h:g ρ=some (.nx ρ')):rV g x ρ=x ρ':=by
 unfold rV;rw[h];rfl
def B1{xh x:aq->Option Str}{g:aq->Option Out}{ρ ρ':aq}(h0:xh ρ=none)(h:g ρ=some (.nx ρ')):ke xh g x ρ=x ρ':=by
 unfold ke;rw[h0];exact um h
def EG{xh x:aq->Option Str}{g:aq->Option Out}{ρ:aq}{c:Str}(h0:xh ρ=some c):ke xh g x ρ=some c:=by
 unfold ke;rw[h0]
def tL(t:List Nat):∃ls l,fR 10 t=ls++[l]:=⟨_,_,(List.dropLast_concat_getLast (rS t)).symm⟩
def A6(g:Gd t)(h:fR 10 t=ls++[l])(hl:l≠[]):Pb bY dz [sD t] LJ:=by
 have s:=lK (x:=tS t) g.zt;rw[bH,h,qV] at s;have gl:Gd l:=g.part (c:=10) (by rw[h];exact yD _ zE);have c:fB (f2 bN (f2 aC (aa 1) (f1 gW (fC (.int 1)))) (fC (.str ""))) (aG (lv (tS t) (ls.map sD++[l].map sD)))=some true:=by
  refine aL (ar (a:=sD l) (b:=sD []) ?_ ?_ (by rw[show sD []=PyData.str "" by rw[zw];rfl];rfl))
  ·rw[ne_str gl.sk (by decide +kernel),ib,zY hl];rfl
  ·show jj (ls.map sD++[sD l]) (-1)=_;exact mZ
 constructor
 ·unfold bY jf;refine runN ((aj s).trans ?_);unfold av;rw[dJ c];rfl
 ·show dP [Slot.val (sD t),.Qb]=_;unfold dP;exact (um s).trans (NC c)
def wA(g:Gd t)(h:fR 10 t=ls++[[]]):dz [sD t]=none:=by
 have s:=lK (x:=tS t) g.zt;rw[bH,h,qV] at s;have c:fB (f2 bN (f2 aC (aa 1) (f1 gW (fC (.int 1)))) (fC (.str ""))) (aG (lv (tS t) (ls.map sD++[[]].map sD)))=some false:=by
  refine aL (ar (a:=sD []) (b:=.str "") ?_ ?_ rfl)
  ·rw[ne_str (by decide +kernel) (by decide +kernel)];rfl
  ·show jj (ls.map sD++[sD []]) (-1)=_;exact mZ
 show dP [Slot.val (sD t),.Qb]=_;unfold dP;exact (um s).trans (Gn c)
def Mt:aq->Option Str:=BL (fB (f2 mG (aa 4) (aa 2))) (II "NoText") n9
def zd(h:Wd G T W){ks:List (Str×List Int)}(C:Kc W ks):∀ (ls:List (List Nat)) (N:List Int) (x4 x5:Slot),Nm W N ->
  (cC (gn 4) zf (ls.map sD) (s7 G T W t ks (.own (N.map PyData.int)) x4 x5)=none/\nL (gn 4) zf Mt (ls.map sD) (s7 G T W t ks (.own (N.map PyData.int)) x4 x5)=some LJ)\/∃M y4 y5,Nm W M/\cC (gn 4) zf (ls.map sD) (s7 G T W t ks (.own (N.map PyData.int)) x4 x5)=some (.nx (s7 G T W t ks (.own (M.map PyData.int)) y4 y5))/\nL (gn 4) zf Mt (ls.map sD) (s7 G T W t ks (.own (N.map PyData.int)) x4 x5)=none
 | [],N,x4,x5,hN=>.inr ⟨N,x4,x5,hN,rfl,rfl⟩
 | l::r,N,x4,x5,hN=>by
  have es:gn 4 (s7 G T W t ks (.own (N.map PyData.int)) x4 x5) (sD l)=some (s7 G T W t ks (.own (N.map PyData.int)) (.val (sD l)) x5):=rfl;cases e:ji ks (tS l) with
  | none =>
   have c:fB (f2 mG (aa 4) (aa 2)) (aG (s7 G T W t ks (.own (N.map PyData.int)) (.val (sD l)) x5))=some true:=aL (show some (PyData.bool (!(Bb (dE ks) (tS l)).isSome))=_ by rw[nu,e];rfl);refine .inl ⟨?_,?_⟩
   ·rw[zI,cC,es,zA];have:zf (s7 G T W t ks (.own (N.map PyData.int)) (.val (sD l)) x5)=none:=by
     unfold zf av;rw[dJ c];rfl
    rw[this];rfl
   ·rw[zI,nL,es,zA,show Mt (s7 G T W t ks (.own (N.map PyData.int)) (.val (sD l)) x5)=some LJ from NC c]
  | some v =>
   let⟨j,x,hj,h1,h2,_,rfl⟩:=C _ _ e;have h9:=(h.wr _ (eY hj)).2.2.2;have run:=rf (G:=G) (T:=T) (W:=W) (t:=t) (N:=N) (x5:=x5) e (by rw[hN.len];exact hj);have c:fB (f2 mG (aa 4) (aa 2)) (aG (s7 G T W t ks (.own (N.map PyData.int)) (.val (sD l)) x5))=some false:=aL (show some (PyData.bool (!(Bb (dE ks) (tS l)).isSome))=_ by rw[nu,e];rfl);have cx:Mt (s7 G T W t ks (.own (N.map PyData.int)) (.val (sD l)) x5)=none:=Gn c;rcases zd h C r (N.set j ((x:Nat):Int)) (.val (sD l)) (.val (ao [((j:Nat):Int),((x:Nat):Int)])) (hN.set (by lia)) with ⟨a,b⟩|⟨M,y4,y5,hM,a,b⟩
   ·refine .inl ⟨?_,?_⟩
    ·rw[zI,cC,es,zA,run];exact a
    ·rw[zI,nL,es,zA,cx,run];exact b
   ·refine .inr ⟨M,y4,y5,hM,?_,?_⟩
    ·rw[zI,cC,es,zA,run];exact a
    ·rw[zI,nL,es,zA,cx,run];exact b
def ud{fz:List Nat}{fi:Dl.Env->Option (List D)}{tgt:aq->D->Option aq}{gb:aq->Option Out}{xb:aq->Option Str}{ρ:aq}{ds:List D}(hi:fi (aY ρ)=some ds)(hh:hand fz 0 ρ=ρ):tP fz fi tgt gb xb ρ=nL tgt gb xb ds ρ:=by
 unfold tP;rw[hh,hi];rfl
def GB{fi:Dl.Env->Option (List D)}{tgt:aq->D->Option aq}{gb:aq->Option Out}{xb:aq->Option Str}{fz:List Nat}{ρ:aq}(hi:fi (aY (hand fz 0 ρ))=none):dh fz fi tgt gb ρ=none:=by
 unfold dh;rw[hi];rfl
def JR(h:Wd G T W)(g:Gd t)(hn:∀P,Pn G T W P->t≠iO W P):Pb cw d4 [aR G T W,sD t] LJ:=by
 have hw:=h.wl;let⟨ls,l,e⟩:=tL t;let⟨ks,ek,hk,C⟩:=uG h;have ez:ay 1 [] (aZ (f2 aC (aa 0) (fC (.int 2)))) (fG 0) (λ_=>some true) (fC (.int 0)) (aY (s7 G T W t ks .Qb .Qb .Qb))=some ((List.replicate W.length (0:Int)).map PyData.int):=by
  have:=zeros (fi:=aZ (f2 aC (aa 0) (fC (.int 2)))) (ρ:=aY (s7 G T W t ks .Qb .Qb .Qb)) (ds:=W.map aB) (rD (ar (d9 G T W) rfl rfl)) (by rw[zD];lia);rw[zD] at this;exact this
 have s1:aH 2 [0] (ai 1 br (ae (aa 0) ag)) [.val (aR G T W),.val (sD t),.Qb,.Qb,.Qb,.Qb,.Qb]=some (.nx (s7 G T W t ks .Qb .Qb .Qb)):=bG (call_of ek rfl rfl) (call_of ek rfl rfl) rfl;have s2:aS 3 [0] (ay 1 [] (aZ (f2 aC (aa 0) (fC (.int 2)))) (fG 0) (λ_=>some true) (fC (.int 0))) (s7 G T W t ks .Qb .Qb .Qb)=some (.nx (s7 G T W t ks (.own ((List.replicate W.length (0:Int)).map PyData.int)) .Qb .Qb)):=b8 ez rfl;have ok:=(PX h).one (ρ:=[.val (aR G T W),.val (sD t),.Qb,.Qb,.Qb,.Qb,.Qb]) (fs:=ae (aa 0) ag) (n:=1) rfl rfl;by_cases hl:l=[]
 ·subst hl;refine⟨F9 h g hn e,?_⟩;have e0:=qy (x:=tS t) (ls:=ls) g.zt (by rw[bH];exact e);have x0:=wA g e;show bT [.val (aR G T W),.val (sD t),.Qb,.Qb,.Qb,.Qb,.Qb]=_;unfold bT;refine (B1 ok.2 ok.1).trans ?_;refine (um s1).trans ?_;refine (um s2).trans ?_;have h0:Nm W (List.replicate W.length (0:Int)):=⟨by rw[xJ],λx hx=>by rw[List.eq_of_mem_replicate hx];lia⟩
  have xl:mL (zv 1 dz (ae (aa 1) ag)) (s7 G T W t ks (.own ((List.replicate W.length (0:Int)).map PyData.int)) .Qb .Qb)=none:=O7 x0 rfl;rcases zd (t:=t) h C ls (List.replicate W.length 0) .Qb .Qb h0 with ⟨a,b⟩|⟨M,y4,y5,hM,a,b⟩
  ·refine EG ?_;unfold Jp;rw[xl];exact (ud (c4 (call_of e0 rfl rfl)) rfl).trans b
  ·refine (B1 ?_ (ba a (c4 (call_of e0 rfl rfl)) rfl)).trans ?_
   ·unfold Jp;rw[xl];exact (ud (c4 (call_of e0 rfl rfl)) rfl).trans b
   ·have et:∀ρ:Dl.Env,aa 3 ρ=some (.list (M.map PyData.int))->aW bU (ae (aa 3) ag) ρ=some (ao M):=λρ h3=>(cH h3).trans (gE _);refine (um (pq (et _ rfl) (et _ rfl))).trans (NC ?_);have ip:=iN h hM.len hM.sm;cases hb:BK G T W M with
    | false =>
     rw[hb] at ip;have n1:=cB (b:=false) (aL (call_of (n:=2) (fs:=ae (aa 0) (ae (aa 6) ag)) (ρ:=aG [.val (aR G T W),.val (sD t),.val (dD ks),.own (M.map PyData.int),y4,y5,.val (ao M)]) ip rfl rfl));unfold dk;exact (qY (λo=>Option.bind o _) n1).trans rfl
    | true =>
     rw[hb] at ip;have p:=(jt hM.len).mp hb;have n1:=cB (b:=true) (aL (call_of (n:=2) (fs:=ae (aa 0) (ae (aa 6) ag)) (ρ:=aG [.val (aR G T W),.val (sD t),.val (dD ks),.own (M.map PyData.int),y4,y5,.val (ao M)]) ip rfl rfl));have n2:fB (f2 bN (ai 2 bb (ae (aa 0) (ae (aa 6) ag))) (aa 1)) (aG [.val (aR G T W),.val (sD t),.val (dD ks),.own (M.map PyData.int),y4,y5,.val (ao M)])=some true:=by
      refine aL (ar (a:=sD (iO W M)) (b:=sD t) ((ne_str (lN h p).sk g.sk).trans ?_) (call_of (mW h p) rfl rfl) rfl);rw[ib,zY (λz=>hn M p z.symm)];rfl
     unfold dk;exact (qY (λo=>Option.bind o _) n1).trans n2
 ·let⟨b1,b2⟩:=A6 g e hl;constructor
  ·unfold cw cn;refine runN ((aj ok.1).trans ((aj s1).trans ((aj s2).trans (tm ?_))));refine GB (xb:=Mt) ?_;show aZ (ai 1 bY (ae (aa 1) ag)) _=none;unfold aZ;rw[Iz b1 rfl];rfl
  ·show bT [.val (aR G T W),.val (sD t),.Qb,.Qb,.Qb,.Qb,.Qb]=_;unfold bT;refine (B1 ok.2 ok.1).trans ((um s1).trans ((um s2).trans (EG ?_)));unfold Jp;rw[show mL (zv 1 dz (ae (aa 1) ag)) (s7 G T W t ks (.own ((List.replicate W.length (0:Int)).map PyData.int)) .Qb .Qb)=some LJ from O3 b2 rfl rfl]
def EL(h:Wd G T W)(p:Pn G T W P):aV [aR G T W,sD (iO W P)]=some (ao P):=by
 unfold aV dZ;refine bj (gJ (Na (ρ:=[.val (aR G T W),.val (sD (iO W P)),.Qb,.Qb]) (bA (call_of (uz h p) rfl rfl))))
def Ha(h:Wd G T W)(g:Gd t)(hn:∀P,Pn G T W P->t≠iO W P):aV [aR G T W,sD t]=some .none:=by
 have B:=JR h g hn;unfold aV dZ;refine bj (gJ (KP (ρ:=[.val (aR G T W),.val (sD t),.Qb,.Qb]) (c:=LJ) ?_ ?_ (by unfold FJ;exact yJ (by decide +kernel))))
 ·unfold aO;rw[Iz B.n rfl];rfl
 ·exact O3 B.x rfl rfl
end
open  Ex
section
variable {G T:List Pl}{W:List Wy}{P:List Int}{t l:List Nat}{ls:List (List Nat)}
def IW:Dl.Env->Option Bool:=dk (fB (f2 bN (aW ju (ae (aa 5) ag)) (fC (.int 7)))) (dk (fB (f2 bN (aP bR (aa 5) (bX (fC (.int 1))) (bX (fC (.int 3)))) (fC (.str " -")))) (dk (fB (f2 bN (aP bR (aa 5) (bX (fC (.int 4))) (bX (fC (.int 6)))) (fC (.str "> ")))) (fB (f2 aX (f2 dR (aa 5) (fC (.int 3))) (fC (.str "0"))))))
def OA:Dl.Env->Option Bool:=fB (f2 bN (cm (ay 1 [] (pD (f2 bZ (f2 bZ (f2 dR (aa 5) (fC (.int 0))) (f2 dR (aa 5) (fC (.int 3)))) (f2 dR (aa 5) (fC (.int 6))))) (fG 0) (fB (f2 (λx y=>(v7 x y).map PyData.bool) (aa 0) (fC (.str "0123456789")))) (aa 0))) (cm (cP ag)))
def M4:Dl.Env->Option (List D):=ay 2 [5] (cE (ae (f2 aC (aa 0) (fC (.int 2))) ag)) (k6 0 1) (fB (f2 aX (aP bf (aa 1) aN (bX (fC (.int 2)))) (bc (ae (aW iS (ae (f2 dR (aa 2) (fC (.int 0))) ag)) (ae (aW iS (ae (f2 dR (aa 2) (fC (.int 6))) ag)) ag))))) (aa 0)
def M9:Dl.Env->Option Bool:=dk (fB (f2 aX (aa 6) (cm (cP ag)))) (fB (f2 sQ (f2 aC (aa 6) (fC (.int 0))) (aa 3)))
def LL:aq->Option Out:=av (fu IW (aO (fC .none)) eM) (av (fu OA (aO (fC .none)) eM) (av (aS 6 [0,5] M4) (av (fu M9 (aO (fC .none)) eM) (av (aH 3 [6] (f2 aC (aa 6) (fC (.int 0)))) (oX 2 [5] (aa 3) (aW iS (ae (f2 dR (aa 5) (fC (.int 3))) ag)))))))
abbrev s8(G T:List Pl)(W:List Wy)(t:List Nat)(N:List Int)(z:Int)(ps:List D)(x5 x6:Slot):aq:=[.val (aR G T W),.val (sD t),.own (N.map PyData.int),.val (.int z),.val (.list ps),x5,x6,.Qb]
def lA(hl:l.length<=20000)(i:Int):dR (sD l) (.int i)=(jj l i).map λc=>sD [c]:=by
 show (if (tS l).length<=sizeLine then (jj (tl (tS l)) i).map λc=>PyData.str ⟨#[c]⟩ else none)=_;rw[yJ (by rw[<- fJ,bH];exact yC hl Jg),bH];rfl
def K8(c:Nat):(fB (f2 (λx y=>(v7 x y).map PyData.bool) (aa 0) (fC (.str "0123456789")))) [some (sD [c])]=some (!decide (48<=c/\c < 58)):=by
 have e2:(fB (f2 (λx y=>(v7 x y).map PyData.bool) (aa 0) (fC (.str "0123456789")))) [some (sD [c])]=some (!(!(Builtin.Str.occurrences ("0123456789":Str) ⟨#[c]⟩ 0 ("0123456789":Str).length 1).isEmpty)):=rfl;rw[e2,StrLaws.found_one];have hd:("0123456789":Str).cps.toList=[48,49,50,51,52,53,54,55,56,57]:=by rw[Mw]
 rw[hd];by_cases hc:48<=c/\c < 58
 ·have:c∈[48,49,50,51,52,53,54,55,56,57]:=by
   let⟨a,b⟩:=hc;simp?[zQ,yE,xR];lia
  simp[hc,this]
 ·have:c∉[48,49,50,51,52,53,54,55,56,57]:=by
   simp?[zQ,yE,xR];lia
  simp[hc,this]
def wo{n:Nat}(hn:n < 10):iS [sD [48+n]]=some (.int ((n:Nat):Int)):=by
 show (if (tS [48+n]).length<=640 then (PySem.intText? (tS [48+n])).map PyData.int else none)=_;have e:PySem.intText? (tS [48+n])=some ((n:Nat):Int):=by
  match n,hn with
  | 0,_|1,_|2,_|3,_|4,_|5,_|6,_|7,_|8,_|9,_=>decide +kernel
 rw[yJ (by rw[<- fJ,bH];exact (by decide:1<=640)),e];rfl
def Gd.sub(g:Gd l)(h:∀x∈t,x∈l)(hl:t.length<=10000):Gd t:=⟨λc hc=>g.s c (h c hc),hl⟩
def vb(hl:l.length<=20000){f:Dl.Env->Option D}{ρ:Dl.Env}(h:f ρ=some (sD l)):aW ju (ae f ag) ρ=some (.int ((l.length:Nat):Int)):=by
 refine (cH h).trans ?_;show (if (tS l).length<=sizeLine then some (PyData.int (((tS l).length:Nat):Int)) else none)=_;rw[<- fJ,bH,yJ (yC hl Jg)]
def J0{ρ:Dl.Env}(g:Gd l)(h5:aa 5 ρ=some (sD l))(hn:l.length≠7):IW ρ=some true:=by
 have e1:fB (f2 bN (aW ju (ae (aa 5) ag)) (fC (.int 7))) ρ=some true:=by
  refine aL (ar ((uN _ 7).trans ?_) (vb (by have:=g.n;lia) h5) rfl);rw[zY (by lia)];rfl
 unfold IW dk;rw[e1];rfl
def IQ{f:Dl.Env->Option D}{ρ:Dl.Env}(hl:l.length<=20000)(h:f ρ=some (sD l))(a b:Int):aP bR f (bX (fC (.int a))) (bX (fC (.int b))) ρ=some (sD (cut l (some a) (some b))):=by
 unfold aP;rw[h];exact B7 hl _ _
def D6{ρ:Dl.Env}{a b c d e f k:Nat}(hl:l=[a,b,c,d,e,f,k])(g:Gd l)(h5:aa 5 ρ=some (sD l)):IW ρ=some (!decide (b=32/\c=45/\e=62/\f=32/\d≠48)):=by
 have l7:l.length<=20000:=by rw[hl];simp
 have m1:(PyData.str " -":D)=sD [32,45]:=by rw[show (" -":Str)=tS [32,45] by decide +kernel]
 have m2:(PyData.str "> ":D)=sD [62,32]:=by rw[show ("> ":Str)=tS [62,32] by decide +kernel]
 have m3:(PyData.str "0":D)=sD [48]:=by rw[show ("0":Str)=tS [48] by decide +kernel]
 have gs:∀u:List Nat,(∀x∈u,x∈l)->u.length<=7->Gd u:=λu h1 h2=>g.sub h1 (by lia);have e0:fB (f2 bN (aW ju (ae (aa 5) ag)) (fC (.int 7))) ρ=some false:=by
  refine aL (ar ((uN _ 7).trans ?_) (vb l7 h5) rfl);rw[hl];rfl
 have e1:fB (f2 bN (aP bR (aa 5) (bX (fC (.int 1))) (bX (fC (.int 3)))) (fC (.str " -"))) ρ=some (!decide ([b,c]=[32,45])):=by
  have z:=IQ l7 h5 1 3;rw[show cut l (some 1) (some 3)=[b,c] by rw[hl];rfl] at z;refine aL (ar (a:=sD [b,c]) (b:=sD [32,45]) ?_ z (by rw[<- m1];rfl));rw[ne_str (gs [b,c] (by simp[hl]) (by simp)).sk (by decide +kernel),ib]
 have e2:fB (f2 bN (aP bR (aa 5) (bX (fC (.int 4))) (bX (fC (.int 6)))) (fC (.str "> "))) ρ=some (!decide ([e,f]=[62,32])):=by
  have z:=IQ l7 h5 4 6;rw[show cut l (some 4) (some 6)=[e,f] by rw[hl];rfl] at z;refine aL (ar (a:=sD [e,f]) (b:=sD [62,32]) ?_ z (by rw[<- m2];rfl));rw[ne_str (gs [e,f] (by simp[hl]) (by simp)).sk (by decide +kernel),ib]
 have e3:fB (f2 aX (f2 dR (aa 5) (fC (.int 3))) (fC (.str "0"))) ρ=some (decide ([d]=[48])):=by
  refine aL (ar (a:=sD [d]) (b:=sD [48]) ?_ (ar ((lA l7 3).trans (by rw[hl];rfl)) h5 rfl) (by rw[<- m3];rfl));rw[eq_str (gs [d] (by simp[hl]) (by simp)).sk (by decide +kernel),ib]
 unfold IW dk;rw[e0];show ((fB (f2 bN (aP bR (aa 5) (bX (fC (.int 1))) (bX (fC (.int 3)))) (fC (.str " -"))) ρ).bind _)=_;rw[e1];by_cases z1:[b,c]=[32,45]
 ·rw[zZ z1];show ((fB (f2 bN (aP bR (aa 5) (bX (fC (.int 4))) (bX (fC (.int 6)))) (fC (.str "> "))) ρ).bind _)=_;rw[e2];by_cases z2:[e,f]=[62,32]
  ·rw[zZ z2];show fB (f2 aX (f2 dR (aa 5) (fC (.int 3))) (fC (.str "0"))) ρ=_;rw[e3];simp at z1 z2;simp[z1,z2]
  ·rw[zY z2];simp at z2;simp;lia
 ·rw[zY z1];simp at z1;simp;lia
def AF{cs:List Nat}(h:∀c∈cs,c < 1114112)(hl:cs.length<=100):SeqAt.shaped (.list (cs.map λc=>sD [c]))=true:=by
 have hh:∀cs:List Nat,(∀c∈cs,c < 1114112)->PyData.canLayAll0 (cs.map λc=>sD [c])=true/\PyData.depthAll (cs.map λc=>sD [c])<=1:=λcs h=>by
  induction cs with
  | nil=>exact⟨by simp[PyData.canLayAll0],by simp[PyData.depthAll]⟩
  | cons b bs ih =>
   let⟨i1,i2⟩:=ih λc hc=>h c (zC _ hc);have hb:PyData.strOk (tS [b])=true:=Gd.sk ⟨λc hc=>by rw[List.mem_singleton.mp hc];exact h b zE,by simp⟩;exact⟨by simp[PyData.canLayAll0,PyData.canLay0,hb,i1],by simp[PyData.depthAll,PyData.depth];lia⟩
 have:=hh cs h;unfold SeqAt.shaped;rw[zF];exact⟨by simp[PyData.canLay0,this.1],by simp[PyData.depth];lia⟩
def Dm{ρ:Dl.Env}{a b c d e f k:Nat}(hl:l=[a,b,c,d,e,f,k])(g:Gd l)(h5:aa 5 ρ=some (sD l)):OA ρ=some (!decide ((48<=a/\a < 58)/\(48<=d/\d < 58)/\48<=k/\k < 58)):=by
 have l7:l.length<=20000:=by rw[hl];simp
 have ic:∀ (i:Int) (x:Nat),jj l i=some x->f2 dR (aa 5) (fC (.int i)) ρ=some (sD [x]):=λi x hx=>ar ((lA l7 i).trans (by rw[hx];rfl)) h5 rfl;have z:pD (f2 bZ (f2 bZ (f2 dR (aa 5) (fC (.int 0))) (f2 dR (aa 5) (fC (.int 3)))) (f2 dR (aa 5) (fC (.int 6)))) ρ=some ([a,d,k].map λc=>sD [c]):=by
  unfold pD;rw[ar (a:=sD [a,d]) (b:=sD [k]) (si (by simp)) (ar (a:=sD [a]) (b:=sD [d]) (si (by simp)) (ic 0 a (by rw[hl];rfl)) (ic 3 d (by rw[hl];rfl))) (ic 6 k (by rw[hl];rfl))];rfl
 have cc:=iE (cs:=[]) (tt:=fB (f2 (λx y=>(v7 x y).map PyData.bool) (aa 0) (fC (.str "0123456789")))) (te:=aa 0) (g:=λc=>sD [c]) (f:=λc=>sD [c]) (q:=λc=>!decide (48<=c/\c < 58)) (l:=[a,d,k]) z (by simp) λx _=>⟨K8 x,λ_=>rfl⟩
 have hs:SeqAt.shaped (.list (([a,d,k].filter λc=>!decide (48<=c/\c < 58)).map λc=>sD [c]))=true:=AF (λc hc=>by
  have:=(List.mem_filter.mp hc).1;refine g.s c ?_;rw[hl];simp at this ⊢;rcases this with rfl|rfl|rfl<;>simp) (yC (xN _ _) (by simp))
 have ne:∀ds:List D,SeqAt.shaped (.list ds)=true->bN (.list ds) (.list [])=some (.bool (!ds.isEmpty)):=λds hs=>by
  have h0:SeqAt.shaped (.list [])=true:=by decide
  simp?[bN,FH,hs,h0,jL,xF,zB];cases ds<;>simp[PyData.eqv,PyData.eqvAll]
 refine aL (ar ((ne _ hs).trans ?_) (fN cc) (fN (jc rfl (by simp))))
 congr 2
 by_cases z1:48<=a/\a < 58
 ·by_cases z2:48<=d/\d < 58
  ·by_cases z3:48<=k/\k < 58
   ·simp[z1,z2,z3]
   ·simp[z1,z2,z3]
  ·simp[z1,z2]
 ·simp[z1]
end
open  Ex
def Ny(W:List Wy)(l:List Nat)(z:Int)(j x:Nat):Prop:=j < W.length/\1<=x/\x<=9/\l=mK W j x/\z < j
inductive Rl(W:List Wy):Int->List (List Nat)->List Int->List Int->Prop
 | nil {z:Int}{N:List Int}:Rl W z [] N N
 | cons {z:Int}{N M:List Int}{l:List Nat}{r:List (List Nat)}{j x:Nat}:Ny W l z j x->Rl W ((j:Nat):Int) r (N.set j ((x:Nat):Int)) M->Rl W z (l::r) N M
section
variable {G T:List Pl}{W:List Wy}{P:List Int}{t l:List Nat}{ls:List (List Nat)}
def uZ(W:List Wy)(a b:Nat):List Nat:=(List.range W.length).filter λi=>decide ([(bz W i).1,(bz W i).2.1]=[((a:Nat):Int),((b:Nat):Int)])
def FQ{ρ:Dl.Env}{a x b:Nat}(hw:W.length<=16)(ha:a < 10)(hb:b < 10)(h0:aa 0 ρ=some (aR G T W))(h5:(ρ[5]?).getD none=some (sD (DU a x b))):M4 ρ=some ((uZ W a b).map nD):=by
 have l7:(DU a x b).length<=20000:=by simp[DU]
 have he:cE (ae (f2 aC (aa 0) (fC (.int 2))) ag) ρ=some ((List.range W.length).map λi=>.tuple [nD i,aB (bz W i)]):=by
  unfold cE;rw[cons_of (ar (d9 G T W) h0 rfl) rfl,yG,<- iL];rfl
 unfold M4 uZ;refine gc he (by lia) λi hi=>⟨?_,λ_=>rfl⟩
 simp?[zI,yS,h5];refine aL (ar (a:=ao [(bz W i).1,(bz W i).2.1]) (b:=ao [((a:Nat):Int),((b:Nat):Int)]) (ig _ _) ?_ ?_)
 ·rfl
 ·refine tup_is (ds:=[.int ((a:Nat):Int),.int ((b:Nat):Int)]) (cons_of ((cH (ar ((lA l7 0).trans rfl) rfl rfl)).trans (wo ha)) (cons_of ((cH (ar ((lA l7 6).trans rfl) rfl rfl)).trans (wo hb)) rfl)) (by simp)
def Dc{a b i:Nat}:i∈uZ W a b↔i < W.length/\(bz W i).1=a/\(bz W i).2.1=b:=by
 unfold uZ;rw[List.mem_filter,zS,zJ];simp
def Cf(h:Wd G T W)(g:Gd l){N:List Int}(hN:N.length=W.length){z:Int}{ps:List D}{x6:Slot} :
  (∃j x,Ny W l z j x/\∃y6,LL (s8 G T W t N z ps (.val (sD l)) x6)=some (.nx (s8 G T W t (N.set j ((x:Nat):Int)) ((j:Nat):Int) ps (.val (sD l)) y6)))\/((∀j x,¬ Ny W l z j x)/\LL (s8 G T W t N z ps (.val (sD l)) x6)=some (.rt .none)):=by
 have hw:=h.wl;have Vv:IW (aG (s8 G T W t N z ps (.val (sD l)) x6))=some true->LL (s8 G T W t N z ps (.val (sD l)) x6)=some (.rt .none):=λc=>gJ ((dJ c).trans (bA rfl));by_cases hl:l.length≠7
 ·refine .inr ⟨λj x ⟨_,_,_,e,_⟩=>hl (by rw[e];rfl),Vv (J0 g rfl hl)⟩
 have hl:l.length=7:=by lia
 obtain⟨a,b,c,d,e,f,k,hs⟩:∃a b c d e f k,l=[a,b,c,d,e,f,k]:=by
  match l,hl with
  | [a,b,c,d,e,f,k],_=>exact⟨a,b,c,d,e,f,k,rfl⟩
 have c1:=D6 (ρ:=aG (s8 G T W t N z ps (.val (sD l)) x6)) hs g rfl;have c2:=Dm (ρ:=aG (s8 G T W t N z ps (.val (sD l)) x6)) hs g rfl;by_cases q1:¬ (b=32/\c=45/\e=62/\f=32/\d≠48)
 ·rw[zY q1] at c1;refine .inr ⟨λj x ⟨h1,h2,h3,h4,_⟩=>q1 ?_,Vv c1⟩;rw[hs] at h4;unfold mK DU at h4;simp at h4;lia
 have q1:=Decidable.not_not.mp q1;rw[zZ q1] at c1;have s1:fu IW (aO (fC .none)) eM (s8 G T W t N z ps (.val (sD l)) x6)=some (.nx (s8 G T W t N z ps (.val (sD l)) x6)):=cI c1;by_cases q2:¬ ((48<=a/\a < 58)/\(48<=d/\d < 58)/\48<=k/\k < 58)
 ·rw[zY q2] at c2;refine .inr ⟨λj x ⟨h1,h2,h3,h4,_⟩=>q2 ?_,(aj s1).trans (gJ ((dJ c2).trans (bA rfl)))⟩;let⟨_,w1,w2,_⟩:=sT h h1;rw[hs] at h4;unfold mK DU at h4;simp at h4;lia
 have q2:=Decidable.not_not.mp q2;rw[zZ q2] at c2;have s2:fu OA (aO (fC .none)) eM (s8 G T W t N z ps (.val (sD l)) x6)=some (.nx (s8 G T W t N z ps (.val (sD l)) x6)):=cI c2;obtain⟨A,rfl⟩:∃A,a=48+A:=⟨a - 48,by lia⟩
 obtain⟨X,rfl⟩:∃X,d=48+X:=⟨d - 48,by lia⟩
 obtain⟨B,rfl⟩:∃B,k=48+B:=⟨k - 48,by lia⟩
 have Rt:l=DU A X B:=by rw[hs,q1.1,q1.2.1,q1.2.2.1,q1.2.2.2.1];rfl
 have er:M4 (aY (s8 G T W t N z ps (.val (sD l)) x6))=some ((uZ W A B).map nD):=FQ (x:=X) hw (by lia) (by lia) rfl (by rw[<- Rt];rfl);have s3:aS 6 [0,5] M4 (s8 G T W t N z ps (.val (sD l)) x6)=some (.nx (s8 G T W t N z ps (.val (sD l)) (.own ((uZ W A B).map nD)))):=b8 er (by cases x6<;>rfl);have own:∀j x,Ny W l z j x->j∈uZ W A B/\x=X:=λj x ⟨h1,h2,h3,h4,_⟩=>by
  rw[Rt] at h4;unfold mK DU at h4;have:=h.wr _ (eY h1);simp at h4;refine⟨Dc.mpr ⟨h1,?_,?_⟩,by lia⟩<;>lia
 have t3:fB (f2 aX (aa 6) (cm (cP ag))) (aG (s8 G T W t N z ps (.val (sD l)) (.own ((uZ W A B).map nD))))=some (decide (uZ W A B=[])):=aL (ar (BC _) rfl (fN (jc rfl (by simp))));have Vw:M9 (aG (s8 G T W t N z ps (.val (sD l)) (.own ((uZ W A B).map nD))))=some true->LL (s8 G T W t N z ps (.val (sD l)) x6)=some (.rt .none):=λc=>(aj s1).trans ((aj s2).trans ((aj s3).trans (gJ ((dJ c).trans (bA rfl)))));cases hr:uZ W A B with
 | nil =>
  rw[zZ hr] at t3;refine .inr ⟨λj x hj=>?_,Vw ?_⟩
  ·have:=(own j x hj).1;rw[hr] at this;cases this
  ·unfold M9 dk;rw[t3];rfl
 | cons j r =>
  rw[zY (by rw[hr];simp)] at t3;have hj:=Dc.mp (show j∈uZ W A B by rw[hr];exact zE);have e6:f2 aC (aa 6) (fC (.int 0)) (aG (s8 G T W t N z ps (.val (sD l)) (.own ((uZ W A B).map nD))))=some (nD j):=by
   rw[hr];exact ar (Py (nD j) (r.map nD)) rfl rfl
  have t4:fB (f2 sQ (f2 aC (aa 6) (fC (.int 0))) (aa 3)) (aG (s8 G T W t N z ps (.val (sD l)) (.own ((uZ W A B).map nD))))=some (decide (((j:Nat):Int)<=z)):=aL (ar (a:=nD j) (b:=.int z) (by simp[sQ,qt]) e6 rfl);have ky:l=mK W j X:=by
   rw[Rt];unfold mK;rw[hj.2.1,hj.2.2];rfl
  have c3:M9 (aG (s8 G T W t N z ps (.val (sD l)) (.own ((uZ W A B).map nD))))=some (decide (((j:Nat):Int)<=z)):=by
   unfold M9 dk;rw[t3];exact t4
  by_cases hz:((j:Nat):Int)<=z
  ·rw[zZ hz] at c3;refine .inr ⟨λj' x' SR=>?_,Vw c3⟩;have e:=(rm h SR.1 hj.1 (SR.2.2.2.1.symm.trans ky)).1;have:=SR.2.2.2.2;rw[e] at this;lia
  ·rw[zY hz] at c3;refine .inl ⟨j,X,⟨hj.1,by lia,by lia,ky,by lia⟩,.own ((uZ W A B).map nD),?_⟩;refine (aj s1).trans ((aj s2).trans ((aj s3).trans ((aj (cI c3)).trans ((aj (bg (d:=nD j) e6 rfl)).trans ?_))));refine (p5 (d:=.int ((X:Nat):Int)) (k:=j) (ds:=N.map PyData.int) ?_ rfl rfl rfl (by rw[zD,hN];exact hj.1)).trans ?_
   ·exact (cH (ar (a:=sD l) (b:=.int 3) ((lA (by rw[hs];simp) 3).trans (by rw[hs];rfl)) rfl rfl)).trans (wo (by lia))
   ·unfold s8;rw[List.map_set];rfl
def Rl.len{W:List Wy}{z:Int}{ls:List (List Nat)}{N M:List Int}(h:Rl W z ls N M):M.length=N.length:=by
 induction h with
 | nil=>rfl
 | cons _ _ ih=>rw[ih,yB]
def Rl.bd{W:List Wy}{z:Int}{ls:List (List Nat)}{N M:List Int}(h:Rl W z ls N M):(∀x∈N,0<=x/\x<=9)->∀x∈M,0<=x/\x<=9:=by
 induction h with
 | nil=>exact id
 | cons hl _ ih =>
  intro hb;refine ih λx hx=>?_;rcases List.mem_or_eq_of_mem_set hx with q|q
  ·exact hb x q
  ·have:=hl.2.1;have:=hl.2.2.1;rw[q];lia
def zp(h:Wd G T W){ps:List D}:∀ (ls:List (List Nat)) (N:List Int) (z:Int) (x5 x6:Slot),(∀l∈ls,Gd l)->N.length=W.length ->
  (∃M z' y5 y6,Rl W z ls N M/\cC (gn 5) LL (ls.map sD) (s8 G T W t N z ps x5 x6)=some (.nx (s8 G T W t M z' ps y5 y6)))\/((∀M,¬ Rl W z ls N M)/\cC (gn 5) LL (ls.map sD) (s8 G T W t N z ps x5 x6)=some (.rt .none))
 | [],N,z,x5,x6,_,_=>.inl ⟨N,z,x5,x6,.nil,rfl⟩
 | l::r,N,z,x5,x6,hg,hN=>by
  have es:gn 5 (s8 G T W t N z ps x5 x6) (sD l)=some (s8 G T W t N z ps (.val (sD l)) x6):=rfl;rcases Cf (t:=t) h (hg l zE) hN (z:=z) (ps:=ps) (x6:=x6) with ⟨j,x,hj,y6,e⟩|⟨hj,e⟩
  ·rcases zp h r (N.set j ((x:Nat):Int)) ((j:Nat):Int) (.val (sD l)) y6 (λq hq=>hg q (zC _ hq)) (by rw[yB];exact hN) with ⟨M,z',y5,y6',hr,e'⟩|⟨hr,e'⟩
   ·refine .inl ⟨M,z',y5,y6',.cons hj hr,?_⟩;rw[zI,cC,es,zA,e];exact e'
   ·refine .inr ⟨λM hM=>?_,?_⟩
    ·cases hM with
     | cons hl Rm =>
      rename_i j' x';let⟨rfl,rfl⟩:=rm h hl.1 hj.1 (hl.2.2.2.1.symm.trans hj.2.2.2.1);exact hr M Rm
    ·rw[zI,cC,es,zA,e];exact e'
  ·refine .inr ⟨λM hM=>?_,?_⟩
   ·cases hM with
    | cons hl _=>exact hj _ _ hl
   ·rw[zI,cC,es,zA,e];rfl
end
open  Ex
section
variable {G T:List Pl}{W:List Wy}{P:List Int}{t l:List Nat}{ls:List (List Nat)}
abbrev MW(W:List Wy)(P:List Int)(k m:Nat):List (List Nat):=((List.range' k m).filter λi=>decide (0 < P.getD i 0)).map (i8 W P)
def yv:(mJ W P).map (i8 W P)=MW W P 0 W.length:=by
 unfold mJ;rw[yG]
def CW{k:Nat}:∀ {m:Nat}{P:List Int},(∀i,k<=i->i < k+m->P.getD i 0=0)->MW W P k m=[]:=λ{m P} h=>by
 show ((List.range' k m).filter λi=>decide (0 < P.getD i 0)).map (i8 W P)=[]
 rw[List.filter_eq_nil_iff.mpr,yS];intro i hi;have:=List.mem_range'_1.mp hi;rw[h i this.1 this.2];decide
def Rl.low{z z':Int}{N M:List Int}(h:Rl W z ls N M)(hz:z'<=z):Rl W z' ls N M:=by
 cases h with
 | nil=>exact .nil
 | cons hl hr=>exact .cons ⟨hl.1,hl.2.1,hl.2.2.1,hl.2.2.2.1,by have:=hl.2.2.2.2;lia⟩ hr
def Rl.det(h:Wd G T W){z:Int}{N M:List Int}(a:Rl W z ls N M):∀ {M':List Int},Rl W z ls N M'->M=M':=by
 induction a with
 | nil=>intro M' b;cases b;rfl
 | cons hl hr ih =>
  intro M' b;cases b with
  | cons Yr Rm =>
   let⟨rfl,rfl⟩:=rm h Yr.1 hl.1 (Yr.2.2.2.1.symm.trans hl.2.2.2.1);exact ih Rm
def oC{N:List Int}{j i:Nat}{x:Int}(hj:j < N.length):(N.set j x).getD i 0=if i=j then x else N.getD i 0:=by
 by_cases e:i=j
 ·subst e;rw[yJ rfl];simp[hj]
 ·rw[yL e];simp?[zG,kH (jJ e)]
def Rl.is{z:Int}{N M:List Int}(a:Rl W z ls N M):∀k:Nat,z=(k:Int) - 1->k<=W.length->N.length=W.length->(∀i,k<=i->N.getD i 0=0)->(∀i,i < k->M.getD i 0=N.getD i 0)/\ls=MW W M k (W.length - k):=by
 induction a with
 | nil =>
  intro k _ _ _ h0;exact⟨λ_ _=>rfl,(CW λi h _=>h0 i h).symm⟩
 | @cons z N M l r j x hl hr ih =>
  intro k hz hk hN h0;let⟨h1,h2,h3,h4,h5⟩:=hl;have hkj:k<=j:=by lia
  let⟨i1,i2⟩:=ih (j+1) (by lia) (by lia) (by rw[yB];exact hN) (λi hi=>by rw[oC (by lia),yL (by lia)];exact h0 i (by lia));have mj:M.getD j 0=((x:Nat):Int):=by rw[i1 j (by lia),oC (by lia),yJ rfl]
  have ml:∀i,i < j->M.getD i 0=N.getD i 0:=λi hi=>by rw[i1 i (by lia),oC (by lia),yL (by lia)]
  refine⟨λi hi=>ml i (by lia),?_⟩;have er:List.range' k (W.length - k)=List.range' k (j - k)++(j::List.range' (j+1) (W.length - (j+1))):=by
   have a1:List.range' j (W.length - j)=j::List.range' (j+1) (W.length - (j+1)):=by
    rw[show W.length - j=(W.length - (j+1))+1 by lia,kS]
   rw[<- a1];have:=List.range'_append_1 (s:=k) (m:=j - k) (n:=W.length - j);rw[show k+(j - k)=j by lia] at this;rw[this]
   congr 1
   lia
  show _=((List.range' k (W.length - k)).filter λi=>decide (0 < M.getD i 0)).map (i8 W M);rw[er,List.filter_append,qV];have e0:MW W M k (j - k)=[]:=CW λi hi hi2=>by rw[ml i (by lia)];exact h0 i hi
  have ef:i8 W M j=l:=by
   unfold i8;rw[mj,h4];rfl
  rw[show ((List.range' k (j - k)).filter λi=>decide (0 < M.getD i 0)).map (i8 W M)=[] from e0,xM,jT,zZ (show 0 < M.getD j 0 by rw[mj];lia),yJ rfl,zI,ef]
  congr 1
def Oh{A B:List Int}(hl:A.length=B.length)(h:∀i,i < A.length->A.getD i 0=B.getD i 0):A=B:=jD hl λi h1 h2=>by
 have:=h i h1;simpa [h1,h2] using this
def Rl.of(hw:∀i,i < W.length->0<=P.getD i 0/\P.getD i 0<=9)(hp:P.length=W.length):∀ (m k:Nat) (N:List Int),k+m=W.length->N.length=W.length->(∀i,i < k->N.getD i 0=P.getD i 0)->(∀i,k<=i->N.getD i 0=0)->Rl W ((k:Int) - 1) (MW W P k m) N P
 | 0,k,N,hk,hN,h1,h2=>by
  have:N=P:=Oh (by lia) λi hi=>h1 i (by lia);subst this;exact .nil
 | m+1,k,N,hk,hN,h1,h2=>by
  have b:=hw k (by lia);show Rl W ((k:Int) - 1) (((List.range' k (m+1)).filter λi=>decide (0 < P.getD i 0)).map (i8 W P)) N P;rw[kS,jT];by_cases q:0 < P.getD k 0
  ·rw[zZ q,yJ rfl,zI];have e:(((P.getD k 0).toNat:Nat):Int)=P.getD k 0:=Int.toNat_of_nonneg b.1;refine .cons (j:=k) (x:=(P.getD k 0).toNat) ⟨by lia,by lia,by lia,rfl,by lia⟩ ?_;rw[e];have ih:=Rl.of hw hp m (k+1) (N.set k (P.getD k 0)) (by lia) (by rw[yB];exact hN) (λi hi=>by
    rw[oC (by lia)];split
    ·rename_i e;rw[e]
    ·exact h1 i (by lia)) (λi hi=>by rw[oC (by lia),yL (by lia)];exact h2 i (by lia))
   rw[show (((k+1:Nat):Int) - 1)=((k:Nat):Int) by lia] at ih;exact ih
  ·rw[zY q,yL (by simp)];have ih:=Rl.of hw hp m (k+1) N (by lia) hN (λi hi=>by
    by_cases e:i=k
    ·rw[e,h2 k (yK k)];lia
    ·exact h1 i (by lia)) (λi hi=>h2 i (by lia))
   exact ih.low (by lia)
def EX(c:Nat):∀t:List Nat,jn [c] (fR c t)=t
 | []=>rfl
 | x::r=>by
  have ih:=EX c r;unfold fR;split
  ·rename_i e;cases hs:fR c r with
   | nil=>exact absurd hs (rS r)
   | cons p ps =>
    show []++([c]++jn [c] (p::ps))=_;rw[<- hs,ih,e];rfl
  ·cases hs:fR c r with
   | nil=>exact absurd hs (rS r)
   | cons p ps =>
    rw[hs] at ih;cases ps with
    | nil =>
     show x::p=x::r;rw[show p=r from ih]
    | cons q qs =>
     show x::(p++([c]++jn [c] (q::qs)))=x::r;rw[show p++([c]++jn [c] (q::qs))=r from ih]
def B6:∀ls:List (List Nat),jn [10] (ls++[[]])=(ls.map λl=>l++[10]).flatten
 | []=>rfl
 | [l]=>by simp[jn]
 | l::q::r=>by
  have ih:=B6 (q::r);show l++([10]++jn [10] ((q::r)++[[]]))=_;rw[ih,zI,qK];simp
def Ll(h:fR 10 t=ls++[[]]):t=Au ls:=by
 rw[oq,<- B6,<- h,EX]
end
open  Ex
section
variable {G T:List Pl}{W:List Wy}{P:List Int}{t l:List Nat}{ls:List (List Nat)}
abbrev z0(W:List Wy):List Int:=List.replicate W.length 0
def Ij(i:Nat):(z0 W).getD i 0=0:=by
 by_cases h:i < W.length
 ·simp[z0,h]
 ·rw[uH (by rw[xJ];lia)]
def zz(h:Wd G T W)(g:Gd t)(e:fR 10 t=ls++[l]) :
  (∃M,Rl W (-1) ls (z0 W) M/\aI [aR G T W,sD t]=some (if (decide (l=[])&&BK G T W M)=true then ao M else .none))\/((∀M,¬ Rl W (-1) ls (z0 W) M)/\aI [aR G T W,sD t]=some .none):=by
 have hw:=h.wl;have gp:∀q∈ls++[l],Gd q:=λq hq=>g.part (c:=10) (by rw[e];exact hq);have s1:aS 2 [0] (pS (cP (ae (fC (.int 0)) ag)) (aW bD (ae (f2 aC (aa 0) (fC (.int 2))) ag))) [.val (aR G T W),.val (sD t),.Qb,.Qb,.Qb,.Qb,.Qb,.Qb]=some (.nx [.val (aR G T W),.val (sD t),.own ((z0 W).map PyData.int),.Qb,.Qb,.Qb,.Qb,.Qb]):=b8 (LB (n:=W.length) (ll (l:=W) (k:=aB) (ar (d9 G T W) rfl rfl)) (by lia)) rfl;have s2:aH 3 [] (f1 gW (fC (.int 1))) [.val (aR G T W),.val (sD t),.own ((z0 W).map PyData.int),.Qb,.Qb,.Qb,.Qb,.Qb]=some (.nx [.val (aR G T W),.val (sD t),.own ((z0 W).map PyData.int),.val (.int (-1)),.Qb,.Qb,.Qb,.Qb]):=bg (d:=.int (-1)) rfl rfl;have VY:∀ρ:Dl.Env,aa 1 ρ=some (sD t)->cm (iG ck (aa 1) (fC (.str "\n"))) ρ=some (.list ((ls++[l]).map sD)):=λρ h1=>by
  have:iG ck (aa 1) (fC (.str "\n")) ρ=some ((ls++[l]).map sD):=by
   unfold iG;rw[h1];show ck (sD t) (.str "\n")=_;rw[tv,oF g.zt,kc,bH,e,zM];rfl
  unfold cm;rw[this];rfl
 have s3:aH 4 [1] (cm (iG ck (aa 1) (fC (.str "\n")))) [.val (aR G T W),.val (sD t),.own ((z0 W).map PyData.int),.val (.int (-1)),.Qb,.Qb,.Qb,.Qb]=some (.nx (s8 G T W t (z0 W) (-1) ((ls++[l]).map sD) .Qb .Qb)):=bG (VY _ rfl) (VY _ rfl) rfl;have ei:aZ (aP bf (aa 4) aN (bX (f1 gW (fC (.int 1))))) (aY (s8 G T W t (z0 W) (-1) ((ls++[l]).map sD) .Qb .Qb))=some (ls.map sD):=by
  refine c4 ?_;show some (PyData.list (cut ((ls++[l]).map sD) none (some (-1))))=_;rw[uu,qV];simp
 have hd:hand [4] 0 (s8 G T W t (z0 W) (-1) ((ls++[l]).map sD) .Qb .Qb)=s8 G T W t (z0 W) (-1) ((ls++[l]).map sD) .Qb .Qb:=rfl;rcases zp (t:=t) h (ps:=(ls++[l]).map sD) ls (z0 W) (-1) .Qb .Qb (λq hq=>gp q (qG _ hq)) (by rw[xJ]) with ⟨M,z',y5,y6,hr,ef⟩|⟨hr,ef⟩
 ·refine .inl ⟨M,hr,?_⟩;have hM:Nm W M:=⟨by rw[hr.len,xJ],hr.bd λx hx=>by rw[List.eq_of_mem_replicate hx];lia⟩
  have et:∀ρ:Dl.Env,aa 2 ρ=some (.list (M.map PyData.int))->aW bU (ae (aa 2) ag) ρ=some (ao M):=λρ h3=>(cH h3).trans (gE _);have s5:aH 7 [2] (aW bU (ae (aa 2) ag)) (s8 G T W t M z' ((ls++[l]).map sD) y5 y6)=some (.nx ((s8 G T W t M z' ((ls++[l]).map sD) y5 y6).set 7 (.val (ao M)))):=pq (et _ rfl) (et _ rfl);have c1:fB (f2 aX (f2 aC (aa 4) (f1 gW (fC (.int 1)))) (fC (.str ""))) (aG ((s8 G T W t M z' ((ls++[l]).map sD) y5 y6).set 7 (.val (ao M))))=some (decide (l=[])):=by
   have gl:=gp l (yD _ zE);refine aL (ar (a:=sD l) (b:=sD []) ?_ ?_ (by rw[show sD []=PyData.str "" by rw[zw];rfl];rfl))
   ·rw[eq_str gl.sk (by decide +kernel),ib]
   ·show jj ((ls++[l]).map sD) (-1)=_;rw[qV];exact mZ
  have c2:fB (ai 2 cA (ae (aa 0) (ae (aa 7) ag))) (aG ((s8 G T W t M z' ((ls++[l]).map sD) y5 y6).set 7 (.val (ao M))))=some (BK G T W M):=aL (call_of (iN h hM.len hM.sm) rfl rfl);have c3:ow (fB (f2 aX (f2 aC (aa 4) (f1 gW (fC (.int 1)))) (fC (.str "")))) (fB (ai 2 cA (ae (aa 0) (ae (aa 7) ag)))) (aG ((s8 G T W t M z' ((ls++[l]).map sD) y5 y6).set 7 (.val (ao M))))=some (decide (l=[])&&BK G T W M):=by
   unfold ow;rw[c1];cases decide (l=[]) with
   | true=>exact c2
   | false=>rfl
  unfold aI;refine bj ?_;show cv [.val (aR G T W),.val (sD t),.Qb,.Qb,.Qb,.Qb,.Qb,.Qb]=_;unfold cv;refine (aj s1).trans ((aj s2).trans ((aj s3).trans ((aj (ba ef ei hd)).trans ((aj s5).trans (bA ?_)))));cases hc:(decide (l=[])&&BK G T W M) with
  | true =>
   rw[hc] at c3;exact sd c3 rfl
  | false =>
   rw[hc] at c3;exact wY c3 rfl
 ·refine .inr ⟨hr,?_⟩;unfold aI;refine bj ?_;show cv [.val (aR G T W),.val (sD t),.Qb,.Qb,.Qb,.Qb,.Qb,.Qb]=_;unfold cv;refine (aj s1).trans ((aj s2).trans ((aj s3).trans (gJ ?_)));exact ba ef ei hd
def uw(h:Wd G T W)(p:Pn G T W P):fR 10 (iO W P)=(mJ W P).map (i8 W P)++[[]]:=r8 λl hl=>by
 let⟨i,hi,rfl⟩:=List.mem_map.mp hl;exact (i9 h p (eA.mp hi).1).2.1
def Ht(h:Wd G T W)(p:Pn G T W P):Rl W (-1) ((mJ W P).map (i8 W P)) (z0 W) P:=by
 rw[yv];have:=Rl.of (P:=P) (W:=W) (λi hi=>by have:=p.Vu h hi;lia) p.len W.length 0 (z0 W) (by lia) (by rw[xJ]) (λi hi=>by lia) (λi _=>Ij i);exact this
def mP(h:Wd G T W)(p:Pn G T W P):aI [aR G T W,sD (iO W P)]=some (ao P):=by
 have r:=Ht h p;rcases zz h (lN h p) (uw h p) with ⟨M,hr,e⟩|⟨hr,_⟩
 ·obtain rfl:=r.det h hr;rw[e,(jt p.len).mpr p];rfl
 ·exact absurd r (hr P)
def J5(h:Wd G T W)(g:Gd t)(hn:∀P,Pn G T W P->t≠iO W P):aI [aR G T W,sD t]=some .none:=by
 let⟨ls,l,e⟩:=tL t;rcases zz h g e with ⟨M,hr,ed⟩|⟨_,ed⟩
 ·rw[ed];cases hc:(decide (l=[])&&BK G T W M) with
  | false=>rfl
  | true =>
   exfalso;rw[zF,zJ] at hc;let⟨rfl,hb⟩:=hc;have hl:M.length=W.length:=by rw[hr.len,xJ]
   have p:=(jt hl).mp hb;refine hn M p ?_;rw[Ll e];have:=(hr.is 0 (by lia) (by lia) (by rw[xJ]) (λi _=>Ij i)).2;show Au ls=Au ((mJ W M).map (i8 W M));rw[yv,this];rfl
 ·exact ed
def Do(h:Wd G T W)(g:Gd t):∃d,aV [aR G T W,sD t]=some d/\aI [aR G T W,sD t]=some d/\(d=.none\/∃P,d=ao P):=by
 by_cases hp:∃P,Pn G T W P/\t=iO W P
 ·let⟨P,p,rfl⟩:=hp;exact⟨_,EL h p,mP h p,.inr ⟨P,rfl⟩⟩
 ·have hn:∀P,Pn G T W P->t≠iO W P:=λP p e=>hp ⟨P,p,e⟩;exact⟨_,Ha h g hn,J5 h g hn,.inl rfl⟩
def FV(h:Wd G T W){Q:List Int}(p:Pn G T W P)(q:Pn G T W Q)(e:iO W P=iO W Q):P=Q:=by
 have a:=mP h p;have b:=mP h q;rw[e,b] at a;have c:=ig P Q;rw[<- xB a,ig] at c;have c:=PyData.bool.inj (xB c);rw[zZ rfl] at c;exact yO c.symm
end
open  Ex
section
variable {ρ:Dl.Env}{f g:Dl.Env->Option D}{n m a b:Nat}
structure Tb(t:List Nat)(n:Nat):Prop where
 s:∀c∈t,c < 1114112
 n:t.length<=n
def Tb.gd{t:List Nat}(h:Tb t n)(hn:n<=10000):Gd t:=⟨h.s,yC h.n hn⟩
def Tc(f:Dl.Env->Option D)(ρ:Dl.Env)(n:Nat):Prop:=∃t,f ρ=some (sD t)/\Tb t n
def D7{α:Type}{xs:List α}{lo hi:Option Int}{x:α}(h:x∈cut xs lo hi):x∈xs:=List.mem_of_mem_drop (List.mem_of_mem_take h)
def HB{α β:Type}(k:α->β)(xs:List α)(lo hi:Option Int):cut (xs.map k) lo hi=(cut xs lo hi).map k:=by
 unfold cut;rw[zD,List.map_take,List.map_drop]
def Tc.cut{fl fh:Dl.Env->Option (Option Int)}{lo hi:Option Int}(h:Tc f ρ n)(hl:fl ρ=some lo)(hh:fh ρ=some hi)(hn:n<=20000:=by decide):Tc (aP bR f fl fh) ρ n:=by
 let⟨t,e,b⟩:=h;refine⟨Dl.cut t lo hi,?_,λc hc=>b.s c (D7 hc),yC (mS _ _ _) b.n⟩;unfold aP;rw[e,zA,hl,zA,hh,zA];exact B7 (yC b.n hn) lo hi
def Tc.cat(h:Tc f ρ a)(h':Tc g ρ b)(hn:a+b<=20000:=by decide):Tc (f2 bZ f g) ρ (a+b):=by
 let⟨t,e,z⟩:=h;let⟨u,e',z'⟩:=h';have h1:=z.n;have h2:=z'.n;refine⟨t++u,ar (si (by lia)) e e',λc hc=>?_,by rw[zN];lia⟩;rcases List.mem_append.mp hc with hc|hc
 ·exact z.s c hc
 ·exact z'.s c hc
def f7{i:Int}(h:f ρ=some (.int i)):bX f ρ=some (some i):=by
 unfold bX;rw[h];rfl
def Lc(f:Dl.Env->Option D)(ρ:Dl.Env)(m:Nat):Prop:=∃ps:List (List Nat),f ρ=some (.list (ps.map sD))/\(∀p∈ps,Tb p 50)/\ps.length<=m
def Lc.cut{fl fh:Dl.Env->Option (Option Int)}{lo hi:Option Int}(h:Lc f ρ m)(hl:fl ρ=some lo)(hh:fh ρ=some hi):Lc (aP bf f fl fh) ρ m:=by
 let⟨ps,e,b,hm⟩:=h;refine⟨Dl.cut ps lo hi,?_,λp hp=>b p (D7 hp),yC (mS _ _ _) hm⟩;unfold aP;rw[e,zA,hl,zA,hh,zA];show some (PyData.list (Dl.cut (ps.map sD) lo hi))=_;rw[HB]
def Lc.Vx(h:Lc f ρ a)(h':Lc g ρ b)(hn:a+b<=1000:=by decide):∃ps:List (List Nat),iG cX f g ρ=some (ps.map sD)/\(∀p∈ps,Tb p 50)/\ps.length<=a+b:=by
 let⟨ps,e,z,hp⟩:=h;let⟨qs,e',z',hq⟩:=h';refine⟨ps++qs,?_,λp hp=>?_,by rw[zN];lia⟩
 ·unfold iG;rw[e,zA,e',zA];show small _=_;rw[bB (by rw[zN,zD,zD];lia),qV]
 ·rcases List.mem_append.mp hp with hp|hp
  ·exact z p hp
  ·exact z' p hp
def Lc.cat(h:Lc f ρ a)(h':Lc g ρ b)(hn:a+b<=1000:=by decide):Lc (cm (iG cX f g)) ρ (a+b):=by
 let⟨ps,e,z⟩:=h.Vx h' hn;exact⟨ps,fN e,z⟩
def Lc.rev(h:Lc f ρ m):Lc (f1 zr f) ρ m:=by
 let⟨ps,e,b,hm⟩:=h;refine⟨ps.reverse,?_,λp hp=>b p (List.mem_reverse.mp hp),by rw[List.length_reverse];exact hm⟩;unfold f1;rw[e,List.map_reverse];rfl
def Lc.one(h:Tc f ρ 50):Lc (cm (cP (ae f ag))) ρ 1:=by
 let⟨t,e,b⟩:=h;exact⟨[t],fN (jc (ds:=[sD t]) (cons_of e rfl) (by simp)),λp hp=>by rw[List.mem_singleton.mp hp];exact b,yK _⟩
def Dy:∀ {ps:List (List Nat)},(∀p∈ps,p.length<=50)->(jn [10] ps).length<=51 * ps.length
 | [],_=>yK _
 | [p],h=>by have:=h p zE;show p.length<=51 * 1;lia
 | p::q::r,h=>by
  have:=h p zE;have ih:=Dy (ps:=q::r) λz hz=>h z (zC _ hz);show (p++([10]++jn [10] (q::r))).length<=_;rw[zN,zN,xA,zL];lia
def Lc.join(h:Lc f ρ m)(hn:m<=100):Tc (f2 iT (fC (.str "\n")) f) ρ (51 * m):=by
 let⟨ps,e,b,hm⟩:=h;have ht:tl "\n"=[10]:=by rw[tv]
 refine⟨jn [10] ps,ar (a:=.str "\n") (b:=.list (ps.map sD)) ?_ rfl e,λc hc=>?_,yC (Dy λp hp=>(b p hp).n) (by lia)⟩
 ·rw[yw,ht]
  ·have:("\n":Str).length=1:=by decide +kernel
   rw[this];lia
  ·exactλp hp=>yC (b p hp).n (by decide)
 ·rcases B9 hc with hc|⟨p,hp,hc⟩
  ·rw[List.mem_singleton.mp hc];decide
  ·exact (b p hp).s c hc
def EN{i:Nat}{fz:List Nat}{f:Dl.Env->Option D}{ρ:aq}{d:D}{ds:List D}(hA:f (aG ρ)=some d)(hs:Dl.lM d=true)(ho:ρ[i]?=some (.own ds))(hl:ds.length < 4000):i4 i fz f ρ=some (.nx (ρ.set i (.own (ds++[d])))):=by
 have hz:ds.length < sizeLine:=zP hl (by decide);have hi:j1 fz f ρ=some (d,ρ):=by
  unfold j1;rw[hA,zA,yJ hs]
 unfold i4;rw[hi,zA];unfold pb;rw[ho];show ((if ds.length < sizeLine then some (ds++[d]) else none).map _)=_;rw[yJ hz];rfl
def tY(ds:List D)(n:Nat):Prop:=(∀d∈ds,∃t,d=sD t/\Gd t)/\ds.length<=n
def tY.app{ds es:List D}(h:tY ds a)(h':tY es b):tY (ds++es) (a+b):=⟨λd hd=>by
 rcases List.mem_append.mp hd with hd|hd
 ·exact h.1 d hd
 ·exact h'.1 d hd,by rw[zN];have:=h.2;have:=h'.2;lia⟩
def tY.nil:tY [] 0:=⟨λ_ h=>(by cases h),yK _⟩
def tY.cons{d:D}{ds:List D}{t:List Nat}(e:d=sD t)(g:Gd t)(h:tY ds n):tY (d::ds) (n+1):=⟨λx hx=>by
 rcases List.mem_cons.mp hx with rfl|hx
 ·exact⟨t,e,g⟩
 ·exact h.1 x hx,by rw[zL];have:=h.2;lia⟩
def Ac(fs:Dl.Env->Option (List D))(ρ:Dl.Env)(n:Nat):Prop:=∃ds,fs ρ=some ds/\tY ds n
def Ac.nil:Ac ag ρ 0:=⟨[],rfl,.nil⟩
def Ac.cons{fs:Dl.Env->Option (List D)}(h:Tc f ρ m)(h':Ac fs ρ n)(hm:m<=10000:=by decide):Ac (ae f fs) ρ (n+1):=by
 let⟨t,e,b⟩:=h;let⟨ds,e',z⟩:=h';exact⟨sD t::ds,cons_of e e',.cons rfl (b.gd hm) z⟩
def Ac.lst{fs:Dl.Env->Option (List D)}(h:Ac fs ρ n)(hn:n<=1000:=by decide):∃ds,cP fs ρ=some ds/\tY ds n:=by
 let⟨ds,e,z⟩:=h;exact⟨ds,jc e (yC z.2 hn),z⟩
def Ac.add{fs:Dl.Env->Option (List D)}{ds:List D}(h0:f ρ=some (.list ds))(z0:tY ds a)(h:Ac fs ρ n)(hn:a+n<=1000:=by decide):∃es,iG cX f (cm (cP fs)) ρ=some es/\tY es (a+n):=by
 let⟨es,e,z⟩:=h.lst (by lia);refine⟨ds++es,?_,z0.app z⟩;unfold iG;rw[h0,zA,fN e,zA];show small _=_;have h1:=z0.2;have h2:=z.2;exact bB (by rw[zN];lia)
end
open  Ex
namespace K82M
section
variable {ns:List Int}{G T:List Pl}{W:List Wy}{P O:List Int}{t:List Nat}{a c:Nat}
abbrev sE(ns:List Int)(G T:List Pl)(W:List Wy)(P O:List Int)(t:List Nat)(a c:Nat)(x7 x8 x9 x10 x11 x12 x13:Slot):aq:=[.val (gT ns),.val (aR G T W),.val (ao P),.val (ao O),.val (sD t),.val (nD a),.val (sD [c]),x7,x8,x9,x10,x11,x12,x13]
def OV:aq->Option Out:=fu (fB (f2 bN (ai 2 aV (ae (aa 1) (ae (aa 13) ag))) (ai 2 aI (ae (aa 1) (ae (aa 13) ag))))) (aO (fC (.bool false))) eM
def Dx(h:Wd G T W){x7 x8 x9 x10 x11 x12:Slot}:∀ (ds:List D) (x13:Slot),(∀d∈ds,∃u,d=sD u/\Gd u)->∃y,cC (gn 13) OV ds (sE ns G T W P O t a c x7 x8 x9 x10 x11 x12 x13)=some (.nx (sE ns G T W P O t a c x7 x8 x9 x10 x11 x12 y))
 | [],x13,_=>⟨x13,rfl⟩
 | d::r,x13,hd=>by
  let⟨u,rfl,gu⟩:=hd d zE;let⟨y,ih⟩:=Dx h r (.val (sD u)) (λe he=>hd e (zC _ he)) (x7:=x7) (x8:=x8) (x9:=x9) (x10:=x10) (x11:=x11) (x12:=x12);refine⟨y,?_⟩;let⟨q,e1,e2,hq⟩:=Do h gu;have en:bN q q=some (.bool false):=by
   rcases hq with rfl|⟨P,rfl⟩
   ·exact Ao
   ·exact BH P
  have st:OV (sE ns G T W P O t a c x7 x8 x9 x10 x11 x12 (.val (sD u)))=some (.nx (sE ns G T W P O t a c x7 x8 x9 x10 x11 x12 (.val (sD u)))):=cI (aL (ar en (call_of e1 rfl rfl) (call_of e2 rfl rfl)));rw[cC,show gn 13 (sE ns G T W P O t a c x7 x8 x9 x10 x11 x12 x13) (sD u)=some (sE ns G T W P O t a c x7 x8 x9 x10 x11 x12 (.val (sD u))) from rfl,zA,st];exact ih
def OR:aq->Option Out:=av (aH 12 [0,8,11] (f2 bZ (f2 bZ (aP bR (f2 aC (aa 8) (aa 11)) aN (bX (fC (.int 3)))) (aW tq (ae (ai 3 ak (ae (aa 0) (ae (f2 aw (fC (.int 120)) (aa 11)) (ae (fC (.int 10)) ag)))) ag))) (aP bR (f2 aC (aa 8) (aa 11)) (bX (fC (.int 4))) aN))) (i4 7 [8,11,12] (f2 iT (fC (.str "\n")) (cm (iG cX (cm (iG cX (aP bf (aa 8) aN (bX (aa 11))) (cm (cP (ae (aa 12) ag))))) (aP bf (aa 8) (bX (f2 aw (aa 11) (fC (.int 1)))) aN)))))
def GJ(hl:ns.length<=63){ps:List (List Nat)}(hp:∀p∈ps,Tb p 7)(hm:ps.length<=17){ds:List D}{n k:Nat}(hk:k < ps.length)(z:tY ds n)(hn:n<=1000){x9 x10 x12 x13:Slot}:∃es y,OR (sE ns G T W P O t a c (.own ds) (.val (.list (ps.map sD))) x9 x10 (.val (nD k)) x12 x13)=some (.nx (sE ns G T W P O t a c (.own es) (.val (.list (ps.map sD))) x9 x10 (.val (nD k)) y x13))/\tY es (n+1):=by
 let⟨d1,p1,q1⟩:=dy (ns:=ns) (120+((k:Nat):Int)) 10 hl (by decide);obtain⟨v,hv⟩:∃v:Nat,dr ns (120+((k:Nat):Int)) 10=((v:Nat):Int):=⟨_,(Int.toNat_of_nonneg p1).symm⟩
 rw[hv] at d1 q1;let ρ:=aG (sE ns G T W P O t a c (.own ds) (.val (.list (ps.map sD))) x9 x10 (.val (nD k)) x12 x13);have hx:ps[k]?=some ps[k]:=zK hk;have tk:Tc (f2 aC (aa 8) (aa 11)) ρ 7:=⟨ps[k],ar (Fm hx) rfl rfl,hp _ (xY hk)⟩
 have ts:Tc (aW tq (ae (ai 3 ak (ae (aa 0) (ae (f2 aw (fC (.int 120)) (aa 11)) (ae (fC (.int 10)) ag)))) ag)) ρ 1:=⟨[48+v],(cH (call_of d1 (cons_of rfl (cons_of (ar (az _ _) rfl rfl) (cons_of rfl rfl))) rfl)).trans (E3 (by lia)),λx hx=>by rw[List.mem_singleton.mp hx];lia,yK _⟩
 let⟨u,eu,bu⟩:=((tk.cut (fl:=aN) (fh:=bX (fC (.int 3))) rfl (f7 rfl)).cat ts).cat (tk.cut (fl:=bX (fC (.int 4))) (fh:=aN) (f7 rfl) rfl);have s1:aH 12 [0,8,11] (f2 bZ (f2 bZ (aP bR (f2 aC (aa 8) (aa 11)) aN (bX (fC (.int 3)))) (aW tq (ae (ai 3 ak (ae (aa 0) (ae (f2 aw (fC (.int 120)) (aa 11)) (ae (fC (.int 10)) ag)))) ag))) (aP bR (f2 aC (aa 8) (aa 11)) (bX (fC (.int 4))) aN)) (sE ns G T W P O t a c (.own ds) (.val (.list (ps.map sD))) x9 x10 (.val (nD k)) x12 x13)=some (.nx (sE ns G T W P O t a c (.own ds) (.val (.list (ps.map sD))) x9 x10 (.val (nD k)) (.val (sD u)) x13)):=bg (d:=sD u) eu rfl;let QU:=aG (sE ns G T W P O t a c (.own ds) (.val (.list (ps.map sD))) x9 x10 (.val (nD k)) (.val (sD u)) x13);have L:Lc (aa 8) QU 17:=⟨ps,rfl,λp h=>⟨(hp p h).s,yC (hp p h).n (by decide)⟩,hm⟩
 have U:Tc (aa 12) QU 50:=⟨u,rfl,bu.s,yC bu.n (by decide)⟩
 let⟨w,ew,bw⟩:=((((L.cut (fl:=aN) (fh:=bX (aa 11)) rfl (f7 rfl)).cat (.one U)).cat (L.cut (fl:=bX (f2 aw (aa 11) (fC (.int 1)))) (fh:=aN) (f7 (ar (az _ _) rfl rfl)) rfl))).join (by decide);refine⟨ds++[sD w],.val (sD u),?_,z.app (.cons rfl (bw.gd (by decide)) .nil)⟩;unfold OR;exact (aj s1).trans (EN ew rfl rfl (by have:=z.2;lia))
def Mi(b:Bool):bN (.bool b) (.bool b)=some (.bool false):=by
 cases b<;>simp[bN,FH,SeqAt.shaped,PyData.canLay0,PyData.depth,PyData.eqv]
def P3{r:Int}(h0:0<=r)(h1:r < 9):∃c,dR (.str "0123 \n->x") (.int r)=some (sD [c])/\c < 200:=by
 have e:("0123 \n->x":Str)=tS [48,49,50,51,32,10,45,62,120]:=by decide +kernel
 rw[e,lA (by simp)];have:r=0\/r=1\/r=2\/r=3\/r=4\/r=5\/r=6\/r=7\/r=8:=by lia
 rcases this with rfl|rfl|rfl|rfl|rfl|rfl|rfl|rfl|rfl<;>exact⟨_,rfl,by decide⟩
def cst(x:Str)(l:List Nat)(e:x=tS l)(b:Tb l n)(ρ:Dl.Env):Tc (fC (.str x)) ρ n:=⟨l,by rw[e];rfl,b⟩
def De:bF=l8:=rfl
def main(ns:List Int)(hl:ns.length<=63):eB [.list (ns.map PyData.int)]=some (.bool true):=by
 let⟨G,T,W,ew,h⟩:=Jt (ns:=ns) hl 0;have hw:=h.wl;obtain⟨P,eP,p⟩:∃P,bF [gT ns,.int 70,aR G T W]=some (ao P)/\Pn G T W P:=⟨_,by rw[De];exact nr hl h,xi hl h⟩
 obtain⟨O,eO,o⟩:∃P,bF [gT ns,.int 90,aR G T W]=some (ao P)/\Pn G T W P:=⟨_,by rw[De];exact nr hl h,xi hl h⟩
 have gp:=lN h p;have go:=lN h o;obtain⟨t,ht⟩:∃t,t=iO W P:=⟨_,rfl⟩
 rw[<- ht] at gp;have tl':t.length<=1600:=by
  have:=xk (ls:=(mJ W P).map (i8 W P)) λl hl=>by
   let⟨i,hi,rfl⟩:=List.mem_map.mp hl;exact (i9 h p (eA.mp hi).1).1
  rw[zD] at this;have:=m6 (W:=W) (P:=P);rw[ht];show (Au ((mJ W P).map (i8 W P))).length<=1600;lia
 have tb:Tb t 1600:=⟨gp.s,tl'⟩
 have VY:fR 10 t=(mJ W P).map (i8 W P)++[[]]:=by rw[ht];exact uw h p
 obtain⟨ps,Xm⟩:∃ps,ps=(mJ W P).map (i8 W P)++[[]]:=⟨_,rfl⟩
 have Vy:∀q∈ps,Tb q 7:=λq hq=>by
  rw[Xm] at hq;rcases List.mem_append.mp hq with hq|hq
  ·let⟨i,hi,rfl⟩:=List.mem_map.mp hq;exact⟨λc hc=>by have:=(i9 h p (eA.mp hi).1).2.2 c hc;lia,yK 7⟩
  ·rw[List.mem_singleton.mp hq];exact⟨λc hc=>(by cases hc),xS _⟩
 have QZ:1<=ps.length/\ps.length<=17:=by
  rw[Xm,zN,zD,xA];have:=m6 (W:=W) (P:=P);lia
 let⟨d1,p1,q1⟩:=dy (ns:=ns) 110 (((t.length:Nat):Int)+1) hl (by lia);obtain⟨a,ha⟩:∃v:Nat,dr ns 110 (((t.length:Nat):Int)+1)=((v:Nat):Int):=⟨_,(Int.toNat_of_nonneg p1).symm⟩
 rw[ha] at d1;let⟨d2,p2,q2⟩:=dy (ns:=ns) 111 9 hl (by decide);let⟨c,ec,hc⟩:=P3 p2 q2;let⟨d3,p3,q3⟩:=dy (ns:=ns) 112 ((ps.length:Nat):Int) hl (by lia);obtain⟨b,hb⟩:∃v:Nat,dr ns 112 ((ps.length:Nat):Int)=((v:Nat):Int):=⟨_,(Int.toNat_of_nonneg p3).symm⟩
 rw[hb] at d3;unfold eB;refine bj ?_;show iJ [.val (gT ns),.Qb,.Qb,.Qb,.Qb,.Qb,.Qb,.Qb,.Qb,.Qb,.Qb,.Qb,.Qb,.Qb]=_;unfold iJ;refine (aj (bG (call_of ew rfl rfl) (call_of ew rfl rfl) rfl)).trans ?_;refine (aj (bG (call_of eP rfl rfl) (call_of eP rfl rfl) rfl)).trans ?_;refine (aj (bG (call_of eO rfl rfl) (call_of eO rfl rfl) rfl)).trans ?_;have et:cT [aR G T W,ao P]=some (sD t):=by rw[ht];exact mi h p
 refine (aj (bg (d:=sD t) (call_of et rfl rfl) rfl)).trans ?_;have eb:(tS (iO W O) == tS t)=decide (O=P):=by
  rw[ib];by_cases z:O=P
  ·rw[zZ z,zZ (by rw[ht,z])]
  ·rw[zY z,zY (λy=>z (FV h o p (y.trans ht)))]
 refine (aj (cI (aL (ar (Mi (decide (O=P))) (ar (a:=sD (iO W O)) (b:=sD t) ((eq_str go.sk gp.sk).trans (by rw[eb])) (call_of (mi h o) rfl rfl) rfl) (ar (ig O P) rfl rfl))))).trans ?_;refine (aj (bg (d:=nD a) (call_of d1 (cons_of rfl (cons_of rfl (cons_of (ar (az _ _) (vb (by lia) rfl) rfl) rfl))) rfl) rfl)).trans ?_;refine (aj (bg (d:=sD [c]) (ar ec rfl (call_of d2 (cons_of rfl rfl) rfl)) rfl)).trans ?_;have tc:Tb [c] 1:=⟨λx hx=>by rw[List.mem_singleton.mp hx];lia,yK _⟩
 let VZ:=aY (sE ns G T W P O t a c .Qb .Qb .Qb .Qb .Qb .Qb .Qb);have T4:Tc (aa 4) VZ 1600:=⟨t,rfl,tb⟩
 have T6:Tc (aa 6) VZ 1:=⟨[c],rfl,tc⟩
 have a5:bX (aa 5) VZ=some (some ((a:Nat):Int)):=f7 rfl;have Xn:bX (f2 aw (aa 5) (fC (.int 1))) VZ=some (some (((a:Nat):Int)+1)):=f7 (ar (az _ _) rfl rfl);let⟨ds,e7,z7⟩:=(Ac.cons T4 (Ac.cons ((T4.cut (fl:=aN) rfl a5).cat (T4.cut (fh:=aN) Xn rfl)) (Ac.cons ((T4.cut (fl:=aN) rfl Xn).cat (T4.cut (fh:=aN) a5 rfl)) (Ac.cons (((T4.cut (fl:=aN) rfl a5).cat T6).cat (T4.cut (fh:=aN) Xn rfl)) .nil)))).lst;refine (aj (b8 e7 rfl)).trans ?_;let ρ1:=aY (sE ns G T W P O t a c (.val (.list ds)) .Qb .Qb .Qb .Qb .Qb .Qb);have T4:Tc (aa 4) ρ1 1600:=⟨t,rfl,tb⟩
 have T6:Tc (aa 6) ρ1 1:=⟨[c],rfl,tc⟩
 have a5:bX (aa 5) ρ1=some (some ((a:Nat):Int)):=f7 rfl;have x1:Tb [48,32,45,49,62,32,48,10] 8:=⟨by decide,by decide⟩
 have x2:Tb [48,32,45,48,62,32,48,10] 8:=⟨by decide,by decide⟩
 let⟨Ys,e72,z72⟩:=Ac.add (f:=aa 7) (ρ:=ρ1) rfl z7 (Ac.cons (((T4.cut (fl:=aN) rfl a5).cat T6).cat (T4.cut (fh:=aN) a5 rfl)) (Ac.cons (cst "" [] (by decide +kernel) ⟨by decide,yK 0⟩ ρ1) (Ac.cons (cst "0 -1> 0\n" _ (by decide +kernel) x1 ρ1) (Ac.cons (cst "0 -0> 0\n" _ (by decide +kernel) x2 ρ1) (Ac.cons (T4.cat (cst "0 -1> 0\n" _ (by decide +kernel) x1 ρ1)) (Ac.cons (T4.cut (fl:=aN) (fh:=bX (f1 gW (fC (.int 1)))) rfl (f7 (i:=-1) rfl)) .nil))))));refine (aj (r9 (ρ':=sE ns G T W P O t a c (.val (.list ds)) .Qb .Qb .Qb .Qb .Qb .Qb) rfl e72)).trans ?_;have Yt:∀ρ:Dl.Env,aa 4 ρ=some (sD t)->cm (iG ck (aa 4) (fC (.str "\n"))) ρ=some (.list (ps.map sD)):=λρ h1=>by
  have:iG ck (aa 4) (fC (.str "\n")) ρ=some (ps.map sD):=by
   unfold iG;rw[h1];show ck (sD t) (.str "\n")=_;rw[tv,oF gp.zt,kc,bH,VY,<- Xm,zM];rfl
  unfold cm;rw[this];rfl
 refine (aj (bG (Yt _ rfl) (Yt _ rfl) rfl)).trans ?_;have e9:∀ρ:Dl.Env,aa 8 ρ=some (.list (ps.map sD))->aW bD (ae (aa 8) ag) ρ=some (.int ((ps.length:Nat):Int)):=λρ h8=>by
  rw[cH h8];show some (PyData.int (((ps.map sD).length:Nat):Int))=_;rw[zD]
 refine (aj (bg (d:=nD b) (call_of d3 (cons_of rfl (cons_of rfl (cons_of (e9 _ rfl) rfl))) rfl) rfl)).trans ?_;let QU:=aY (sE ns G T W P O t a c (.val (.list Ys)) (.val (.list (ps.map sD))) (.val (nD b)) .Qb .Qb .Qb .Qb);have L:Lc (aa 8) QU 17:=⟨ps,rfl,λq hq=>⟨(Vy q hq).s,yC (Vy q hq).n (by decide)⟩,QZ.2⟩
 have b9:bX (aa 9) QU=some (some ((b:Nat):Int)):=f7 rfl;have Yu:bX (f2 aw (aa 9) (fC (.int 1))) QU=some (some (((b:Nat):Int)+1)):=f7 (ar (az _ _) rfl rfl);have Xo:bX (f2 aw (aa 9) (fC (.int 2))) QU=some (some (((b:Nat):Int)+2)):=f7 (ar (az _ _) rfl rfl);let⟨Vz,e73,Yv⟩:=Ac.add (f:=aa 7) (ρ:=QU) rfl z72 (Ac.cons (((L.cut (fl:=aN) rfl b9).cat (L.cut (fh:=aN) Yu rfl)).join (by decide)) (Ac.cons (((L.cut (fl:=aN) rfl Yu).cat (L.cut (fh:=aN) b9 rfl)).join (by decide)) .nil));refine (aj (r9 (ρ':=sE ns G T W P O t a c (.val (.list Ys)) (.val (.list (ps.map sD))) (.val (nD b)) .Qb .Qb .Qb .Qb) rfl e73)).trans ?_;let Rr:=aY (sE ns G T W P O t a c (.own Vz) (.val (.list (ps.map sD))) (.val (nD b)) .Qb .Qb .Qb .Qb);have L:Lc (aa 8) Rr 17:=⟨ps,rfl,λq hq=>⟨(Vy q hq).s,yC (Vy q hq).n (by decide)⟩,QZ.2⟩
 have b9:bX (aa 9) Rr=some (some ((b:Nat):Int)):=f7 rfl;have Xo:bX (f2 aw (aa 9) (fC (.int 2))) Rr=some (some (((b:Nat):Int)+2)):=f7 (ar (az _ _) rfl rfl);let⟨xs,e10,bx,lx⟩:=((L.cut (fl:=aN) rfl b9).cat (L.cut b9 Xo).rev).Vx (L.cut (fh:=aN) Xo rfl);refine (aj (b8 (ds:=xs.map sD) e10 rfl)).trans ?_;have L10:Lc (aa 10) (aG (sE ns G T W P O t a c (.own Vz) (.val (.list (ps.map sD))) (.val (nD b)) (.own (xs.map sD)) .Qb .Qb .Qb)) 51:=⟨xs,rfl,bx,lx⟩
 let⟨w,ew',bw⟩:=L10.join (by decide);refine (aj (EN ew' rfl rfl (by have:=Yv.2;lia))).trans ?_;have z74:tY (Vz++[sD w]) 13:=Yv.app (.cons rfl (bw.gd (by decide)) .nil);let⟨ρ',f,Xp,n4,x11,x12,rfl,z4,hn4⟩:=dG (tgt:=gn 11) (gb:=OR) nD (λk ρ=>∃es n x11 x12,ρ=sE ns G T W P O t a c (.own es) (.val (.list (ps.map sD))) (.val (nD b)) (.own (xs.map sD)) x11 x12 .Qb/\tY es n/\n<=13+k) (ps.length - 1) 0 (sE ns G T W P O t a c (.own (Vz++[sD w])) (.val (.list (ps.map sD))) (.val (nD b)) (.own (xs.map sD)) .Qb .Qb .Qb)
  (λk ρ _ hk Rc=>by
   let⟨es,n,x11,x12,rfl,z,hn⟩:=Rc;let⟨Uu,y,e,z'⟩:=GJ (G:=G) (T:=T) (W:=W) (P:=P) (O:=O) (t:=t) (a:=a) (c:=c) hl Vy QZ.2 (k:=k) (by lia) z (by lia) (x9:=.val (nD b)) (x10:=.own (xs.map sD)) (x12:=x12) (x13:=.Qb);exact⟨_,_,rfl,e,Uu,_,_,_,rfl,z',by lia⟩) ⟨_,_,_,_,rfl,z74,by lia⟩
 rw[<- yG] at f;have hr:cZ (ae (f2 Dl.ir (aW bD (ae (aa 8) ag)) (fC (.int 1))) ag) (aY (sE ns G T W P O t a c (.own (Vz++[sD w])) (.val (.list (ps.map sD))) (.val (nD b)) (.own (xs.map sD)) .Qb .Qb .Qb))=some ((List.range (ps.length - 1)).map nD):=by
  refine nX (n:=ps.length - 1) (cons_of (ar ((nh _ _).trans ?_) (e9 _ rfl) rfl) rfl) (by lia);rw[show ((ps.length:Nat):Int) - 1=((ps.length - 1:Nat):Int) by lia]
 refine (aj (ba f hr rfl)).trans ?_;let⟨y,fa⟩:=Dx (ns:=ns) (P:=P) (O:=O) (t:=t) (a:=a) (c:=c) h (x7:=.val (.list Xp)) (x8:=.val (.list (ps.map sD))) (x9:=.val (nD b)) (x10:=.own (xs.map sD)) (x11:=x11) (x12:=x12) Xp .Qb z4.1;refine (aj (ba (ρ1:=sE ns G T W P O t a c (.val (.list Xp)) (.val (.list (ps.map sD))) (.val (nD b)) (.own (xs.map sD)) x11 x12 .Qb) fa (c4 rfl) rfl)).trans ?_;have du:aI [aR G T W,sD t]=some (ao P):=by rw[ht];exact mP h p
 refine bA (ar ((ig P P).trans ?_) (call_of du rfl rfl) rfl);rw[zZ rfl]
end
end K82M
end Wm
namespace K82
open PySem L2 Dl PySem.Spec PyProof.Rows Pg Hd PySem.W Rg
def main(ns:List Int)(h:ns.length<=63):eB [.list (ns.map PyData.int)]=some (.bool true):=Wm.K82M.main ns h
def ins(P:Params){h:Heap}{mg:Str->Option Value}(X:(Kf P).In h)(G:h.Ns mainGlobals mg):KG (Kf P) mg:=⟨λ_ _ _=>by
 have B:∀x∈cK,mg x=none:=λx hx=>mg_none_of X G (Dl.JX (by kernel_rfl) x hx);have M:Ex.rE (Kf P) mg P0 Po:=Ex.F1 X G (by kernel_rfl);refine on (top 39) (f2 245 244 qb) ?_;refine P1 (top 38) (f2 240 239 qb) M ?_;refine on (top 37) (f3 233 232 qb) ?_;refine on (top 36) (f1 226 225 qb) ?_;refine on (top 35) (f2 221 220 qb) ?_;refine on (top 34) (f4 214 213 qb) ?_;refine on (top 33) (f2 209 208 qb) ?_;refine on (top 32) (f3 204 203 qb) ?_;refine on (top 31) (f2 197 196 qb) ?_;refine ox (top 29) (f2 190 189 yf) ?_;refine on (top 28) (f1 185 184 yf) ?_;refine on (top 27) (f2 178 177 yf) ?_;refine on (top 26) (f2 171 170 yf) ?_;refine on (top 25) (f2 166 165 yf) ?_;refine ox (top 24) (f1 159 158 yf) ?_;refine on (top 23) (f1 152 151 yf) ?_;refine on (top 21) (f2 147 146 kz) ?_;refine ox (top 20) (f1 140 139 kz) ?_;refine on (top 19) (f2 133 132 kz) ?_;refine on (top 18) (f3 128 127 kz) ?_;refine on (top 17) (f4 123 122 kz) ?_;refine on (top 16) (f1 118 117 kz) ?_;refine on (top 15) (f1 113 112 kz) ?_;refine on (top 14) (f3 108 107 kz) ?_;refine on (top 13) (f3 103 102 kz) ?_;refine on (top 12) (f2 96 95 kz) ?_;refine on (top 11) (f2 89 88 kz) ?_;refine on (top 10) (f3 84 83 kz) ?_;refine on (top 9) (f2 77 76 kz) ?_;refine on (top 8) (f3 70 69 kz) ?_;exact⟨Rf.NY,Ex.N9,(Rf.Ik ⟨257,mg_of X G (by kernel_rfl)⟩ (Rf.Ik ⟨259,mg_of X G (by kernel_rfl)⟩ Rf.On)),B,M.ok (by decide +kernel),⟨_,X,G⟩⟩,fX.mg (f1 252 251 qb) X G⟩
def PL(w:World):kn (Kf w.params) []=true:=by kernel_rfl
end K82
open PySem PySem.W PyProof.Rows
theorem PySem.Challenge.cw_stillflow_k82_whole_plans_read_holds : PySem.Challenge.rw_stillflow_k82_whole_plans_read.Holds := by
 refine holds_law K82.NW λk1=>?_
 refine holds_open (XP:=XL K82.vw []) (YP:=K82.hk.says) K82.left K82.hk.of K82.hk.keeps (λs e=>xl_of s (Bool.and_eq_true_iff.mp e).1) XL.keeps (by rfl) (by rfl) (by rfl) (λs e=>recFacts_of (Bool.and_eq_true_iff.mp e).2) (by rfl) k1 (by decide +kernel) ⟨rfl,rfl,rfl,rfl,rfl,by decide +kernel⟩ ?hw ?hc
 case hw=>w_witness2
 case hc=>exact K82.walk (l:=PySem.Challenge.rw_stillflow_k82_whole_plans_read) (K:=K82.Kf) (ts:=[]) rfl rfl rfl (λw h Y=>⟨Y.1,Y.2⟩) K82.PL (λw=>K82.ins w.params) K82.main
