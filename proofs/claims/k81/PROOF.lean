import PyProof.Rows.All
import Wide.All
import OpenK.AllK
import Wide.FinOn
import PyProof.EqAt
import PyProof.EqKinds
import PyProof.TupleCall
import Lean
import PyProof.Draws
import PyProof.ListRange
import PyProof.StrCalls2
import PyProof.StrCalls6
import PyProof.SliceStr2
import KE.KIntText
import KE.KIsAll
import PySem.Challenge.RW_stillflow_k81_whole_worlds_read
set_option Elab.async false
set_option linter.all false
set_option maxRecDepth 100000
set_option maxHeartbeats 4000000
abbrev _root_.zA:=@Option.bind_some
abbrev _root_.zB:=@Option.map_some
abbrev _root_.zC:=@List.mem_cons_of_mem
abbrev _root_.zD:=@List.length_map
abbrev _root_.zE:=@List.mem_cons_self
abbrev _root_.zF:=@Bool.and_eq_true
abbrev _root_.zG:=@List.getD_eq_getElem?_getD
abbrev _root_.zH:=@List.size_toArray
abbrev _root_.zI:=@List.map_cons
abbrev _root_.zJ:=@decide_eq_true_eq
abbrev _root_.zK:=@List.getElem?_eq_getElem
abbrev _root_.zL:=@List.length_cons
abbrev _root_.zM:=@List.map_map
abbrev _root_.zN:=@List.length_append
abbrev _root_.zO:=@List.getElem?_map
abbrev _root_.zP:=@Nat.lt_of_lt_of_le
abbrev _root_.zQ:=@List.mem_cons
abbrev _root_.zR:=@PySem.Heap.get?_push_of_some
abbrev _root_.zS:=@PySem.wpAny_bind
abbrev _root_.zT:=@PySem.wpAny_pure
abbrev _root_.zU:=@PySem.Heap.get?_push_size
abbrev _root_.zV:=@PySem.Heap.lt_size
abbrev _root_.zW:=@decide_eq_false
abbrev _root_.zX:=@decide_eq_true
abbrev _root_.zY:=@List.lookup_cons
abbrev _root_.zZ:=@List.length_set
abbrev _root_.yA:=@Nat.le_trans
abbrev _root_.yB:=@List.mem_append_right
abbrev _root_.yC:=@List.not_mem_nil
abbrev _root_.yD:=@Int.toNat_natCast
abbrev _root_.yE:=@List.range_eq_range'
abbrev _root_.yF:=@List.map_congr_left
abbrev _root_.yG:=@List.mem_singleton
abbrev _root_.yH:=@if_pos
abbrev _root_.yI:=@Nat.le_refl
abbrev _root_.yJ:=@if_neg
abbrev _root_.yK:=@Bool.false_eq_true
abbrev _root_.yL:=@Bool.not_eq_true'
abbrev _root_.yM:=@of_decide_eq_true
abbrev _root_.yN:=@Nat.ne_of_lt
abbrev _root_.yO:=@List.getElem?_append_left
abbrev _root_.yP:=@List.getElem?_append_right
abbrev _root_.yQ:=@List.map_nil
abbrev _root_.yR:=@List.set_cons_zero
abbrev _root_.yS:=@List.set_cons_succ
abbrev _root_.yT:=@List.getElem?_replicate
abbrev _root_.yU:=@List.getElem?_cons_succ
abbrev _root_.yV:=@Bool.false_ne_true
abbrev _root_.yW:=@PySem.wpAny_mono
abbrev _root_.yX:=@decide_eq_false_iff_not
abbrev _root_.yY:=@List.length_singleton
abbrev _root_.yZ:=@Option.some.inj
abbrev _root_.xA:=@List.replicate_succ
abbrev _root_.xB:=@List.cons_append
abbrev _root_.xC:=@List.all_eq_true
abbrev _root_.xD:=@if_true
abbrev _root_.xE:=@List.getElem?_set
abbrev _root_.xF:=@PySem.Heap.size_push
abbrev _root_.xG:=@List.length_nil
abbrev _root_.xH:=@List.length_replicate
abbrev _root_.xI:=@PySem.Heap.get?_update_other
abbrev _root_.xJ:=@List.nil_append
abbrev _root_.xK:=@List.length_filter_le
abbrev _root_.xM:=@List.getElem?_cons_zero
abbrev _root_.xO:=@PySem.wpAny_pyIter_tuple
abbrev _root_.xP:=@List.all_cons
abbrev _root_.xQ:=@or_false
abbrev _root_.xR:=@Nat.zero_le
abbrev _root_.xS:=@PySem.wpAny_truthy_bool
abbrev _root_.xU:=@PySem.wpAny_holding
abbrev _root_.xV:=@Bool.not_true
abbrev _root_.xW:=@Int.le_refl
abbrev _root_.xX:=@List.getElem_mem
abbrev _root_.xY:=@List.mem_of_getElem?
abbrev _root_.xZ:=@PySem.wpAny_callSpecial?_slot
abbrev _root_.qA:=@Array.getD_eq_getD_getElem?
abbrev _root_.qB:=@Nat.lt_irrefl
abbrev _root_.qC:=@List.append_nil
abbrev _root_.qD:=@Option.getD_some
abbrev _root_.qE:=@List.length_drop
abbrev _root_.qF:=@List.mem_append_left
abbrev _root_.qG:=@PySem.wpAny_pyIter_list
abbrev _root_.qH:=@PySem.wpAny_newObj_type
abbrev _root_.qJ:=@List.flatten_cons
abbrev _root_.qK:=@PySem.F.plainAttrs_list
abbrev _root_.qL:=@if_false
abbrev _root_.qM:=@List.getElem_of_mem
abbrev _root_.qN:=@PyProof.Rows.callWith_type1
abbrev _root_.qP:=@PySem.wpAny_field
abbrev _root_.qQ:=@PySem.wpAny_call_entry
abbrev _root_.qS:=@PySem.call_meets
abbrev _root_.qT:=@PySem.wpAny_Call_Name_kw
abbrev _root_.qU:=@List.map_append
abbrev _root_.qV:=@Bool.or_eq_true
abbrev _root_.qX:=@congrArg
abbrev _root_.qY:=@Nat.zero_add
abbrev _root_.qZ:=@List.pairwise_map
abbrev _root_.jA:=@PyProof.Rows.slot_tuple_getitem
abbrev _root_.jB:=@List.filterMap_cons
abbrev _root_.jC:=@Nat.ne_of_gt
abbrev _root_.jD:=@PySem.Calls.spliced_cons
abbrev _root_.jE:=@PySem.wpAny_passesOwn
abbrev _root_.jF:=@Bool.true_and
abbrev _root_.jG:=@Ne.symm
abbrev _root_.jH:=@Nat.lt_succ_of_lt
abbrev _root_.jI:=@decide_true
abbrev _root_.jJ:=@PySem.F.slot_tuple_iterator_next
abbrev _root_.jK:=@PySem.codeAny_mono
abbrev _root_.jL:=@Nat.le_of_lt
abbrev _root_.jM:=@Int.le_trans
abbrev _root_.jN:=@Nat.le_add_right
abbrev _root_.jO:=@List.length_take
abbrev _root_.jP:=@List.filter_cons
abbrev _root_.jQ:=@Array.getElem?_eq_getElem
abbrev _root_.jR:=@PySem.mem_of_lookup
abbrev _root_.jS:=@PySem.codeAny_builtin
abbrev _root_.jT:=@PySem.wpAny_seqItems
abbrev _root_.jU:=@PySem.Calls.spliced_nil
abbrev _root_.jV:=@PySem.SeqAt.canLay_of_shaped
abbrev _root_.jW:=@List.take_of_length_le
abbrev _root_.jX:=@Option.getD_none
abbrev _root_.jY:=@Nat.lt_succ_self
abbrev _root_.jZ:=@PySem.wpAny_attempt
abbrev _root_.kA:=@List.getElem?_set_ne
abbrev _root_.kC:=@List.cons.injEq
abbrev _root_.kE:=@Bool.and_false
abbrev _root_.kF:=@PySem.wpAny_setField_rec
abbrev _root_.kG:=@Int.emod_lt_of_pos
abbrev _root_.kH:=@List.drop_eq_getElem_cons
abbrev _root_.kJ:=@List.reverse_cons
abbrev _root_.kK:=@PySem.wpAny_standAt
abbrev _root_.kL:=@PySem.F.args_tuple_add_2
abbrev _root_.kM:=@PySem.F.entry_tuple_add
abbrev _root_.kN:=@List.pairwise_singleton
abbrev _root_.kO:=@Int.eq_ofNat_of_zero_le
abbrev _root_.kP:=@beq_iff_eq
abbrev _root_.kR:=@PySem.F.slot_tuple_add
abbrev _root_.kS:=@List.range_succ_eq_map
abbrev _root_.kU:=@PySem.wpAny_execs_nil
abbrev _root_.kW:=@Nat.not_lt_zero
abbrev _root_.kX:=@List.of_mem_zip
abbrev _root_.kY:=@Int.emod_nonneg
abbrev _root_.kZ:=@PySem.F.slot_zip_next
abbrev _root_.vA:=@PySem.F.slot_int_rmul
abbrev _root_.vB:=@List.getElem?_toArray
abbrev _root_.vC:=@Nat.mul_le_mul
abbrev _root_.vD:=@Bool.false_and
abbrev _root_.vE:=@PySem.codeAny_call_builtin
abbrev _root_.vF:=@List.getD_cons_zero
abbrev _root_.vG:=@List.getD_cons_succ
abbrev _root_.vH:=@Array.length_toList
abbrev _root_.vI:=@PySem.typeIs_int
abbrev _root_.vJ:=@PySem.F.args_tuple_mul_2
abbrev _root_.vK:=@PySem.Code.quiet_builtin
abbrev _root_.vL:=@PySem.Calls.Constant_str
abbrev _root_.vM:=@PySem.wpAny_typeOf
abbrev _root_.vN:=@PySem.concat_meets
abbrev _root_.vO:=@Nat.lt_trans
abbrev _root_.vP:=@PySem.wpAny_pyIter_enum
abbrev _root_.vQ:=@Function.comp_def
abbrev _root_.vR:=@PySem.F.entry_tuple_mul
local macro_rules|`(tactic|simp?[$t,*] $[$l:location]?)=>`(tactic|simp only[$t,*] $[$l]?)
local macro_rules|`(tactic|let ⟨$a,*⟩:=$e)=>do
 let rec f(n:Nat)(t:Lean.Syntax):Lean.MacroM (Lean.TSyntax `rcasesPat):=match n with
 |0=>Lean.Macro.throwUnsupported
 |n+1=>match t with
  |`(⟨$b,*⟩)=>do
    let c<-b.getElems.mapM fun x=>do `(Lean.Parser.Tactic.rcasesPatLo|$(<-f n x):rcasesPat)
    `(rcasesPat|⟨$c,*⟩)
  |`($x:ident)=>`(rcasesPat|$x:ident)
  |_=>`(rcasesPat|_)
 `(tactic|obtain $(<-f 9 (<-`(⟨$a,*⟩))):rcasesPat:=$e)
local macro_rules|`(tactic|lia)=>`(tactic|omega)
local macro_rules|`(def $i:declId $s:optDeclSig $v:declVal)=>`(noncomputable def $i:declId $s:optDeclSig $v:declVal)
local macro_rules|`(abbrev $i:declId $s:optDeclSig $v:declVal)=>`(noncomputable abbrev $i:declId $s:optDeclSig $v:declVal)
namespace L2
open PySem
def fw(s:Stmt):Arguments:=match s with
 | .FunctionDef _ a _ _ _ _ _ _ _ _=>a
 | _=>{ posonlyargs:=[],args:=[],vararg:=none,kwonlyargs:=[],kw_defaults:=[],kwarg:=none,defaults:=[] }
def bo(s:Stmt):List Stmt:=match s with
 | .FunctionDef _ _ b _ _ _ _ _ _ _=>b
 | _=>[]
def aj(s:Stmt):Scope:=match s with
 | .FunctionDef _ _ _ _ _ _ sc _ _ _=>sc
 | _=>{ kind:=.function,names:=[],isGenerator:=false,isCoroutine:=false }
end L2
namespace Hd
open PySem L2 PySem.Spec PyProof.Rows
variable {N:Nat}
def en(P:Params)(x:String)(t:Nat)(v:Value):DictEntry:=⟨PyData.keyHash P (Str.ofString x),.str (Str.ofString x) t,v⟩
def fo(x:Str)(st:Stmt)(pm:Value)(c:Addr):Obj:=⟨.type "function",none,.func (W.fnOf x x (fw st) (bo st) (aj st) .none .none .none pm none (.ref c) .none),#[]⟩
def co(vs:List Value):Obj:=⟨.type "code",none,.fields vs.toArray,#[]⟩
def LP(n:Nat):Value:=if n=0 then .none else .ref n
def lj(x:Str)(t l n a b c d e f u:Nat):Obj:=co [.str x t,.str x (t+1),.str "/claim/cut.py" (t+2),.int l 0,.int n 0,.int 0 0,.int 0 0,.int 3 0,LP a,.bool true,.int 181 0,LP b,LP c,LP d,LP e,LP f,.int u 0,.int l 0,.str "/claim/cut.py" (u+1)]
def NH(x:Str)(C ns m t u:Nat)(bs up subs:List Value):Obj:=⟨.type "type",none,.cls { name:=x,bases:=bs,mro:=.ref C::(up++[.type "ValueError",.type "Exception",.type "BaseException",.type "object"]),ns:=ns,qualname:=x,subclasses:=subs },#[some (.ref m),none,some (.str x t),some (.str x u),some (.builtin "ValueError.__new__"),some (.bool true)]⟩
open PySem PySem.W L2
structure Acc where
 a:Nat
 t:Nat
 nm:Value
 es:List DictEntry
 ts:List Value
 os:List Obj
def so(q:NameKind)(sc:Scope):List Str:=sc.names.filterMap λ(x,k)=>if k=q then some x else none
def Lj:Nat->List Str->List Value
 | _,[]=>[]
 | t,x::l=>.str x t::Lj (t+1) l
def FP(vs:List Value):Obj:=⟨.type "tuple",none,.seq vs.toArray,#[]⟩
def Mf:Obj:=⟨.none,none,.fields #[],#[]⟩
def Ml(x:Str)(st:Stmt):Obj:=⟨.none,none,.func { name:=x,qualname:=x,params:=fw st,body:=.stmts (bo st),scope:=aj st,globals:=0,closure:=[],defaults:=.none,kwdefaults:=.none },#[]⟩
def Qh(P:Params)(k:Nat)(st:Stmt):Acc->Acc
 | ⟨a,t,nm,es,ts,os⟩=>match st with
  | .FunctionDef x args _ _ _ _ sc _ _ pos =>
   if k=0 then ⟨a+5,t+6,nm,⟨PyData.keyHash P x,.str x (t+5),.ref (a+4)⟩::es,.ref (a+3)::.int 0 0::.int pos.line 0::ts,
    fo x st nm (a+3)::lj x t pos.line args.args.length a (a+1) 0 0 0 (a+2) (t+3)::Ml x st::Mf::FP []::os⟩
   else
    let m:=(so .local sc).length;let n:=m+(so .cell sc).length
    ⟨a+7,t+6+n,nm,⟨PyData.keyHash P x,.str x (t+5+n),.ref (a+6)⟩::es,.ref (a+5)::.int 0 0::.int pos.line 0::ts,
    fo x st nm (a+5)::lj x t pos.line args.args.length a (a+1) 0 (a+2) (a+3) (a+4) (t+3+n)::Ml x st::FP (Lj (t+3+m) (so .cell sc))::FP (Lj (t+3) (so .local sc))::Mf::FP []::os⟩
  | .Assign [.Name x _] (.Constant c _ _) _ =>
   let v:=match c with|.int i=>Value.int i t|.str y=>.str y t|_=>.none
   if k=2 then ⟨a,t+2,v,es,ts,os⟩ else ⟨a,t+2,nm,⟨PyData.keyHash P x,.str x (t+1),v⟩::es,ts,os⟩
  | _=>⟨a,t,nm,es,ts,os⟩
def Nq(P:Params):List Nat->List Stmt->Acc->Acc
 | k::ks,st::r,A=>Nq P ks r (Qh P k st A)
 | _,_,A=>A
def OM:Heap->Acc->Heap
 | ⟨⟨o0::o1::o2::⟨c3,d3,.dict ⟨e0::es⟩ n,s3⟩::r⟩,lf⟩,A=>⟨⟨o0::o1::o2::⟨c3,d3,.dict ⟨{ e0 with val:=A.nm }::(es++A.es.reverse)⟩ (n+A.es.length),s3⟩ ::
   (r.modify 8 (fun|⟨c,d,.fields ⟨vs⟩,s⟩=>⟨c,d,.fields ⟨vs++A.ts.reverse⟩,s⟩|o=>o)++A.os.reverse)⟩,lf⟩
 | h,_=>h
def NR(s:Shared)(A:Acc):Shared:={ s with heap:=OM s.heap A,toks:=A.t }
section
variable (p:Program) (w:World)
abbrev uX:=behindTheImports p
abbrev E7:PySem.Env:={ scope:=p.main.scope,locals:=3,globals:=3,cells:=[],code:=.ref 13,frame:=some 14 }
abbrev yh:Code:=.body (uX p) (E7 p)
def Fe(i:Nat):Pos:=if i=0 then default else ((uX p).getD (i - 1) (.Pass default)).pos
abbrev F8:List Frame:=[topFrame default]
def S0:Shared:=(fencedOpening treeTable p w 6000).getD {}
def Sb:Shared:=((topGo treeTable p w 11 (some (.ref 6)) 12 (S0 p w) (topStub p)).map (·.1)).getD {}
abbrev Ny(n i j:Nat)(s:Shared):=segRun treeTable p w 11 (some (.ref 6)) 1 n s (piecesOf (((uX p).drop i).take (j - i)) (E7 p) (yh p) (Fe p i) F8)
def Sc(n j:Nat):Shared:=((Ny p w n 0 j (Sb p w)).map (·.2.1)).getD {}
def SA(n j:Nat)(A:Acc)(ks:List Nat)(m:Nat):Shared:=NR (Sc p w n j) (Nq w.params (ks.take m) ((uX p).drop j) A)
end
def GY{p q:Program}{loose:List Str}{Xt:Shared->Bool}{α:Type}{Yf:Shared->α}{Ya:World->α}{g0:Bool}{s1:World->Shared}{M:Nat}
  (ho:∀w,fencedOpening treeTable p w 6000=some (S0 p w)) (hs:∀w,((S0 p w).heap.isNs mainGlobals&&(S0 p w).gens.size == 0,(S0 p w).heap.objs.size,(S0 p w).heap.nsMap mainGlobals "__annotations__")=(true,11,some (.ref 6)))
  (hr:∀w,topRun treeTable p w 11 (some (.ref 6)) M (S0 p w) (topStub p)=some (s1 w)) (hM:M<=6000)
  (hl:∀w,(staticsOk (importedModules p.main.body) (S0 p w).heap (s1 w).heap&&namesBound p (s1 w).heap&&gensDone (s1 w)&&laidKept (S0 p w).heap (s1 w).heap)=true)
  (hk:∀w,openSeen q loose (importedModules p.main.body) Xt g0 (s1 w)=openGood q loose) (hy:∀w,Yf (s1 w)=Ya w):LeftO p q loose Xt Yf Ya 6000 g0:=λw=>by
 have r:=topRun_mono (6000 - M) _ _ _ _ (hr w);rw[show M+(6000 - M)=6000 by lia] at r;have e:=hs w;simp?[Prod.mk.injEq] at e;have t:openEnds treeTable p w 6000=some (s1 w):=by
  unfold openEnds;rw[ho w,zA];unfold topFrom;rw[e.1,e.2.1,e.2.2];dsimp only;rw[r,zA,hl w]
 rw[t,zB,hk w,hy w]
def KM{p:Program}{w:World}{r:Shared}(a:topGo treeTable p w 11 (some (.ref 6)) 12 (S0 p w) (topStub p)=some (Sb p w,⟨denote treeTable (.body (uX p) (E7 p)),yh p,default,F8⟩))
  (b:segRun treeTable p w 11 (some (.ref 6)) 1 1 (Sb p w) (blockOf (uX p) (E7 p) (yh p) default F8)=some (.next,Sb p w,yh p,Fe p 0))
  (k:topRun treeTable p w 11 (some (.ref 6)) N (Sb p w) (restOf (uX p) (E7 p) (yh p) (Fe p 0) F8)=some r):topRun treeTable p w 11 (some (.ref 6)) (12+(1+N)) (S0 p w) (topStub p)=some r:=go_top a (piece_block b k)
def Pp{p:Program}{w:World}{n N i j:Nat}{s s' r:Shared}(h:Ny p w n i j s=some (.next,s',yh p,Fe p j))(QB:i<=j)(k:topRun treeTable p w 11 (some (.ref 6)) N s' (restOf ((uX p).drop j) (E7 p) (yh p) (Fe p j) F8)=some r) :
  topRun treeTable p w 11 (some (.ref 6)) (n+N) s (restOf ((uX p).drop i) (E7 p) (yh p) (Fe p i) F8)=some r:=by
 have e:(uX p).drop i=((uX p).drop i).take (j - i)++(uX p).drop j:=by
  have:=List.take_append_drop (j - i) ((uX p).drop i);rw[List.drop_drop,show i+(j - i)=j by lia] at this;exact this.symm
 rw[e];exact piece_app h k
end Hd
namespace K81
open PySem L2 PySem.Spec PyProof.Rows Hd PySem.W
abbrev top(i:Nat):Stmt:=PySem.Challenge.pw_stillflow_k81_whole_worlds_read.main.body.getD i (.Pass ⟨0,0,0,0⟩)
def vw:Program:=W.view PySem.Challenge.pw_stillflow_k81_whole_worlds_read [1,2,3,4,6,7,8,9,10,11,12,13,14,15,16,17,19,20,21,22,23,24,25,26,27,28,29,30,32,33,34,35,36,37]
abbrev Qb:Addr:=24
abbrev PF:List (Str×Addr):=[("NoWorld",37),("NoPlan",49),("NoText",61)]
def p5:Value:=(.str "stillflow.worlds" 255)
def oO:Value:=(.str "stillflow.texts" 335)
def BG:Value:=(.str "law_stillflow_k81_whole_worlds_read" 414)
def Kf(P:Params):W.Frag:=[(3,⟨.type "dict",none,.dict #[en P "__name__" 165 (.str "law_stillflow_k81_whole_worlds_read" 414),en P "__doc__" 166 .none,en P "__package__" 167 .none,en P "__loader__" 168 (.builtin "__main__.__loader__#opaque"),en P "__spec__" 169 .none,en P "__annotations__" 170 (.ref 6),en P "__builtins__" 171 (.ref 4),en P "__file__" 173 (.str "/claim/cut.py" 172),en P "__cached__" 174 .none,en P "FlowError" 206 (.ref 24),en P "NoWorld" 222 (.ref 37),en P "NoPlan" 238 (.ref 49),en P "NoText" 254 (.ref 61),en P "MOST_PLACES" 258 (.int 4 257),en P "MOST" 260 (.int 9 259),en P "is_whole" 269 (.ref 70),en P "is_number" 277 (.ref 77),en P "is_long" 286 (.ref 84),en P "are_likes" 292 (.ref 89),en P "is_end" 300 (.ref 96),en P "is_way" 309 (.ref 103),en P "are_parts" 315 (.ref 108),en P "liked_pairs" 321 (.ref 113),en P "is_world" 327 (.ref 118),en P "check_world" 334 (.ref 125),en P "DIGITS" 338 (.str "0123456789" 337),en P "text_of_lines" 344 (.ref 130),en P "lines_of" 352 (.ref 137),en P "line_of" 358 (.ref 142),en P "number_of" 365 (.ref 149),en P "numbers_of" 371 (.ref 154),en P "end_line" 379 (.ref 161),en P "written_world" 385 (.ref 166),en P "world_text" 392 (.ref 173),en P "rows_of" 398 (.ref 178),en P "ends_of" 404 (.ref 183),en P "read_world" 413 (.ref 190),en P "_law_cell" 423 (.ref 197),en P "_law_drawn" 433 (.ref 204),en P "_law_wide" 439 (.ref 209),en P "_law_told" 448 (.ref 216),en P "_law_due" 454 (.ref 221),en P "law" 472 (.ref 228)] 43,#[]⟩),
 (23,⟨.type "dict",none,.dict #[en P "__module__" 196 (.str "stillflow.errors" 187),en P "__firstlineno__" 200 (.int 2 199),en P "__static_attributes__" 201 (.ref 22),en P "__weakref__" 203 (.ref 25),en P "__doc__" 204 .none] 3,#[]⟩),
 (24,NH "FlowError" 24 23 15 189 197 [(.type "ValueError")] [] [(.ref 37),(.ref 49),(.ref 61)]),
 (36,⟨.type "dict",none,.dict #[en P "__module__" 214 (.str "stillflow.errors" 187),en P "__firstlineno__" 218 (.int 4 217),en P "__static_attributes__" 219 (.ref 35),en P "__doc__" 220 .none] 2,#[]⟩),
 (37,NH "NoWorld" 37 36 28 207 215 [(.ref 24)] [(.ref 24)] []),
 (48,⟨.type "dict",none,.dict #[en P "__module__" 230 (.str "stillflow.errors" 187),en P "__firstlineno__" 234 (.int 6 233),en P "__static_attributes__" 235 (.ref 47),en P "__doc__" 236 .none] 2,#[]⟩),
 (49,NH "NoPlan" 49 48 40 223 231 [(.ref 24)] [(.ref 24)] []),
 (60,⟨.type "dict",none,.dict #[en P "__module__" 246 (.str "stillflow.errors" 187),en P "__firstlineno__" 250 (.int 8 249),en P "__static_attributes__" 251 (.ref 59),en P "__doc__" 252 .none] 2,#[]⟩),
 (61,NH "NoText" 61 60 52 239 247 [(.ref 24)] [(.ref 24)] []),
 (69,lj "is_whole" 261 13 3 64 65 0 66 67 68 267),
 (70,fo "is_whole" (top 8) p5 69),
 (76,lj "is_number" 270 17 2 71 72 0 73 74 75 275),
 (77,fo "is_number" (top 9) p5 76),
 (83,lj "is_long" 278 19 3 78 79 0 80 81 82 284),
 (84,fo "is_long" (top 10) p5 83),
 (88,lj "are_likes" 287 21 2 85 86 0 0 0 87 290),
 (89,fo "are_likes" (top 11) p5 88),
 (95,lj "is_end" 293 27 2 90 91 0 92 93 94 298),
 (96,fo "is_end" (top 12) p5 95),
 (102,lj "is_way" 301 29 3 97 98 0 99 100 101 307),
 (103,fo "is_way" (top 13) p5 102),
 (107,lj "are_parts" 310 33 3 104 105 0 0 0 106 313),
 (108,fo "are_parts" (top 14) p5 107),
 (112,lj "liked_pairs" 316 41 1 109 110 0 0 0 111 319),
 (113,fo "liked_pairs" (top 15) p5 112),
 (117,lj "is_world" 322 46 1 114 115 0 0 0 116 325),
 (118,fo "is_world" (top 16) p5 117),
 (124,lj "check_world" 328 53 1 119 120 0 121 122 123 332),
 (125,fo "check_world" (top 17) p5 124),
 (129,lj "text_of_lines" 339 58 1 126 127 0 0 0 128 342),
 (130,fo "text_of_lines" (top 20) oO 129),
 (136,lj "lines_of" 345 60 1 131 132 0 133 134 135 350),
 (137,fo "lines_of" (top 21) oO 136),
 (141,lj "line_of" 353 65 1 138 139 0 0 0 140 356),
 (142,fo "line_of" (top 22) oO 141),
 (148,lj "number_of" 359 67 1 143 144 0 145 146 147 363),
 (149,fo "number_of" (top 23) oO 148),
 (153,lj "numbers_of" 366 71 1 150 151 0 0 0 152 369),
 (154,fo "numbers_of" (top 24) oO 153),
 (160,lj "end_line" 372 73 2 155 156 0 157 158 159 377),
 (161,fo "end_line" (top 25) oO 160),
 (165,lj "written_world" 380 75 1 162 163 0 0 0 164 383),
 (166,fo "written_world" (top 26) oO 165),
 (172,lj "world_text" 386 80 1 167 168 0 169 170 171 390),
 (173,fo "world_text" (top 27) oO 172),
 (177,lj "rows_of" 393 83 2 174 175 0 0 0 176 396),
 (178,fo "rows_of" (top 28) oO 177),
 (182,lj "ends_of" 399 86 2 179 180 0 0 0 181 402),
 (183,fo "ends_of" (top 29) oO 182),
 (189,lj "read_world" 405 88 1 184 185 0 186 187 188 411),
 (190,fo "read_world" (top 30) oO 189),
 (196,lj "_law_cell" 416 95 2 191 192 0 193 194 195 421),
 (197,fo "_law_cell" (top 32) BG 196),
 (203,lj "_law_drawn" 424 99 3 198 199 0 200 201 202 431),
 (204,fo "_law_drawn" (top 33) BG 203),
 (208,lj "_law_wide" 434 103 2 205 206 0 0 0 207 437),
 (209,fo "_law_wide" (top 34) BG 208),
 (215,lj "_law_told" 440 121 1 210 211 0 212 213 214 446),
 (216,fo "_law_told" (top 35) BG 215),
 (220,lj "_law_due" 449 129 1 217 218 0 0 0 219 452),
 (221,fo "_law_due" (top 36) BG 220),
 (227,lj "law" 455 149 1 222 223 0 224 225 226 470),
 (228,fo "law" (top 37) BG 227)]
def hk:W.Hook:=W.kmHook Kf [3,23,24,36,37,48,49,60,61,69,70,76,77,83,84,88,89,95,96,102,103,107,108,112,113,117,118,124,125,129,130,136,137,141,142,148,149,153,154,160,161,165,166,172,173,177,178,182,183,189,190,196,197,203,204,208,209,215,216,220,221,227,228] (λ_=>rfl) []
abbrev pp:=PySem.Challenge.pw_stillflow_k81_whole_worlds_read
abbrev A0:Acc:=⟨64,255,.str "stillflow.errors" 187,[],[],[]⟩
abbrev ks:List Nat:=[2,3,3,1,1,1,0,1,1,0,0,0,1,2,3,0,1,0,1,0,1,0,1,0,0,1,2,1,1,0,1,0,1]
abbrev cs(w:World):Shared:=Sc pp w 835 5
abbrev sa(w:World)(m:Nat):Shared:=SA pp w 835 5 A0 ks m
def o0(w:World):fencedOpening treeTable pp w 6000=some (S0 pp w):=by kernel_rfl
def o1(w:World):((S0 pp w).heap.isNs mainGlobals&&(S0 pp w).gens.size == 0,(S0 pp w).heap.objs.size,(S0 pp w).heap.nsMap mainGlobals "__annotations__")=(true,11,some (.ref 6)):=by kernel_rfl
def o2(w:World):topGo treeTable pp w 11 (some (.ref 6)) 12 (S0 pp w) (topStub pp)=some (Sb pp w,⟨denote treeTable (.body (uX pp) (E7 pp)),yh pp,default,F8⟩):=by kernel_rfl
def o3(w:World):segRun treeTable pp w 11 (some (.ref 6)) 1 1 (Sb pp w) (blockOf (uX pp) (E7 pp) (yh pp) default F8)=some (.next,Sb pp w,yh pp,Fe pp 0):=by kernel_rfl
def q0(w:World):Ny pp w 835 0 5 (Sb pp w)=some (.next,cs w,yh pp,Fe pp 5):=by kernel_rfl
def q1(w:World):cs w=sa w 0:=by kernel_rfl
def r0(w:World):Ny pp w 831 5 38 (sa w 0)=some (.next,sa w 33,yh pp,Fe pp 38):=by kernel_rfl
abbrev fs(w:World):Shared:=sa w 33
def q2(w:World):topRun treeTable pp w 11 (some (.ref 6)) 3 (fs w) (restOf ((uX pp).drop 38) (E7 pp) (yh pp) (Fe pp 38) F8)=some (fs w):=by kernel_rfl
def rl(w:World):topRun treeTable pp w 11 (some (.ref 6)) (12+(1+(835+(831+3)))) (S0 pp w) (topStub pp)=some (fs w):=KM (o2 w) (o3 w) (Pp (i:=0) (q0 w) (by decide) (by rw[q1 w];exact (Pp (r0 w) (by decide) (q2 w))))
abbrev sn(w:World):=openSeen vw [] (importedModules pp.main.body) (λs=>xlAt vw [] s&&recOk [] s) true (fs w)
abbrev gd:=openGood vw []
def l0(w:World):(staticsOk (importedModules pp.main.body) (S0 pp w).heap (fs w).heap&&namesBound pp (fs w).heap&&gensDone (fs w)&&laidKept (S0 pp w).heap (fs w).heap)=true:=by kernel_rfl
def Px(w:World):(sn w).1=gd.1:=by kernel_rfl
def PL(w:World):(sn w).2.1=gd.2.1:=by kernel_rfl
def PU(w:World):(sn w).2.2.1=gd.2.2.1:=by kernel_rfl
def PX(w:World):(sn w).2.2.2.1=gd.2.2.2.1:=by kernel_rfl
def PD(w:World):(sn w).2.2.2.2.1=gd.2.2.2.2.1:=by kernel_rfl
def PY(w:World):(sn w).2.2.2.2.2.1=gd.2.2.2.2.2.1:=by kernel_rfl
def Qe(w:World):(sn w).2.2.2.2.2.2=gd.2.2.2.2.2.2:=by kernel_rfl
def PN(w:World):hk.obs (fs w)=hk.val w:=by kernel_rfl
def left:LeftO pp vw [] (λs=>xlAt vw [] s&&recOk [] s) hk.obs hk.val 6000:=GY o0 o1 rl (by decide) l0 (λw=>Prod.ext (Px w) (Prod.ext (PL w) (Prod.ext (PU w) (Prod.ext (PX w) (Prod.ext (PD w) (Prod.ext (PY w) (Qe w))))))) PN
def N4:PySem.Challenge.rw_stillflow_k81_whole_worlds_read.wellSaid=true:=by kernel_rfl
end K81
namespace L2
open PySem PySem.Spec PyProof.Rows
abbrev uW:=Sum Int Str
def IA:uW->Value->Bool
 | .inl k,v=>Value.isInt k v
 | .inr x,v=>Value.isStrOf x v
def O2(w:World):uW->Int
 | .inl k=>hashInt k
 | .inr x=>hashStr w x
def bO:∀ {k:uW}{v:Value},IA k v=true->(∃i t,k=Sum.inl i/\v=Value.int i t)\/(∃x t,k=Sum.inr x/\v=Value.str x t)
 | .inl i,v,h=>by
  let⟨t,e⟩:=Value.isInt_shape (k:=i) (v:=v) h;exact .inl ⟨i,t,rfl,e⟩
 | .inr x,v,h=>by
  let⟨t,e⟩:=Value.isStrOf_shape (x:=x) (v:=v) h;exact .inr ⟨x,t,rfl,e⟩
def Ll(a b:Int):decide ((Sum.inl a:uW)=Sum.inl b)=(a == b):=by
 by_cases e:a=b
 ·subst e;simp
 ·have h:¬ (Sum.inl a:uW)=Sum.inl b:=λq=>e (Sum.inl.inj q);rw[zW h];exact (beq_eq_false_iff_ne.mpr e).symm
def Lp(a b:Str):decide ((Sum.inr a:uW)=Sum.inr b)=decide (a=b):=by
 by_cases e:a=b
 ·subst e;simp
 ·have h:¬ (Sum.inr a:uW)=Sum.inr b:=λq=>e (Sum.inr.inj q);rw[zW h,zW e]
def JN(a:Int)(b:Str):decide ((Sum.inl a:uW)=Sum.inr b)=false:=zW (λq=>nomatch q)
def JW(a:Str)(b:Int):decide ((Sum.inr a:uW)=Sum.inl b)=false:=zW (λq=>nomatch q)
def za(prog:Program)(w:World):PySem.KeyKind prog w uW where
 is:=IA
 hash:=O2 w
 inj:=λv a b ha hb=>by
  rcases bO ha with ⟨i,t,rfl,rfl⟩|⟨x,t,rfl,rfl⟩
  ·rcases bO hb with ⟨j,u,rfl,e⟩|⟨y,u,rfl,e⟩
   ·injection e with e1 _;rw[e1]
   ·exact nomatch e
  ·rcases bO hb with ⟨j,u,rfl,e⟩|⟨y,u,rfl,e⟩
   ·exact nomatch e
   ·injection e with e1 _;rw[e1]
 byValue:=λk v h=>by
  rcases bO h with ⟨i,t,rfl,rfl⟩|⟨x,t,rfl,rfl⟩<;>rfl
 pyHash:=λhv h=>by
  rcases bO hv with ⟨i,t,rfl,rfl⟩|⟨x,t,rfl,rfl⟩
  ·exact wpAny_pyHash_int h
  ·exact wpAny_pyHash_str h
 eqBool:=λhu hv h=>by
  rcases bO hu with ⟨i,t,rfl,rfl⟩|⟨x,t,rfl,rfl⟩
  ·rcases bO hv with ⟨j,u,rfl,rfl⟩|⟨y,u,rfl,rfl⟩
   ·rw[Ll] at h;exact wpAny_eqBool_int h
   ·rw[JN] at h;exact SeqAt.EqAt.int_str i t y u _ _ _ _ h
  ·rcases bO hv with ⟨j,u,rfl,rfl⟩|⟨y,u,rfl,rfl⟩
   ·rw[JW] at h;exact SeqAt.EqAt.str_int x t j u _ _ _ _ h
   ·rw[Lp] at h;exact wpAny_eqBool_str h
 «strs»:=λk x t v h=>by
  rcases bO h with ⟨i,u,rfl,e⟩|⟨y,u,rfl,e⟩
  ·exact nomatch e
  ·injection e with e1 _
   subst e1;cases v<;>rfl
inductive V where
 | Qo|bl (b:Bool)|int (i:Int)|str (x:Str)|WK (b:Array UInt8)|WL (b:UInt64)|ref (a:Addr)|ty (n:String)
 deriving DecidableEq
def RelV:V->Value->Prop
 | .Qo,u=>u=Value.none
 | .bl b,u=>u=Value.bool b
 | .int i,u=>∃t,u=Value.int i t
 | .str x,u=>∃t,u=Value.str x t
 | .WK b,u=>∃t,u=Value.bytes b t
 | .WL b,u=>∃t,u=Value.float b t
 | .ref a,u=>u=Value.ref a
 | .ty n,u=>u=Value.type n
abbrev aD:List V->List Value->Prop:=Paired RelV
def aD.length(r:aD xs us):xs.length=us.length:=Paired.length r
def aD.get:∀ {xs:List V}{us:List Value}{i:Nat}{x:V},aD xs us->xs[i]?=some x->∃u,us[i]?=some u/\RelV x u
 | _,_,_,_,.nil,e=>by simp at e
 | _,_,0,_,.cons r _,e=>by simp at e;subst e;exact⟨_,rfl,r⟩
 | _,_,i+1,x,.cons _ t,e=>by
  let⟨u,h1,h2⟩:=aD.get (i:=i) (x:=x) t (by simpa using e);exact⟨u,by simpa using h1,h2⟩
def aD.set(r:RelV x u):∀ {xs:List V}{us:List Value}(i:Nat),aD xs us->aD (xs.set i x) (us.set i u)
 | _,_,_,.nil=>.nil
 | _,_,0,.cons _ t=>.cons r t
 | _,_,i+1,.cons q t=>.cons q (aD.set r i t)
def aD.append:∀ {xs ys:List V}{us ws:List Value},aD xs us->aD ys ws->aD (xs++ys) (us++ws)
 | _,_,_,_,.nil,s=>s
 | _,_,_,_,.cons r t,s=>.cons r (aD.append t s)
def aD.take:∀ {xs:List V}{us:List Value}(n:Nat),aD xs us->aD (xs.take n) (us.take n)
 | _,_,0,_=>.nil
 | _,_,_+1,.nil=>.nil
 | _,_,n+1,.cons r t=>.cons r (aD.take n t)
def aD.drop:∀ {xs:List V}{us:List Value}(n:Nat),aD xs us->aD (xs.drop n) (us.drop n)
 | _,_,0,r=>r
 | _,_,_+1,.nil=>.nil
 | _,_,n+1,.cons _ t=>aD.drop n t
def Nr:Option V->Option Value->Prop
 | some v,some u=>RelV v u
 | none,none=>True
 | _,_=>False
def KV:List (κ×V)->List (κ×Value)->Prop:=Paired λ(p:κ×V) (q:κ×Value)=>p.1=q.1/\RelV p.2 q.2
def kV:uW->V
 | .inl i=>.int i
 | .inr x=>.str x
inductive HO where
  | lst (xs:List V)
  | tup (xs:List V)
  | dK (Rw:List (uW×V))|dT (Rw:List (List uW×V))
  | set (S:Int->Bool) (n:Nat)
  | ins (C dx:Addr) (fs:List (Str×V))
  | own (x:Addr)
  | xd (fs:List (Str×V))
  | met (f x:Addr)
  | Wg (lo hi:Int)
  | QY (o:Obj) (u:HO)
  | tab (q:Str)
 | Uw (q:Str)
  | ext (φ:Heap->Prop)
abbrev Hp:=Addr->Option HO
def upd(H:Hp)(a:Addr)(o:HO):Hp:=λb=>if b=a then some o else H b
def aC:upd H a o a=some o:=by unfold upd;rw[yH rfl]
def ay(h:b≠a):upd H a o b=H b:=by unfold upd;rw[yJ h]
def aF{H:Hp}{a b:Addr}{o:HO}(h:H a=some o)(h':H b=none):a≠b:=by
 intro e;subst e;rw[h] at h';cases h'
def mF(h:Heap)(a:Addr)(its:Array Value):Prop:=IsTup h a its/\∃o,h.get? a=some o/\o.dict=none
def mF.new(h:Heap)(its:Array Value):mF (h.push { cls:=.type "tuple",data:=.seq its }) h.objs.size its:=⟨IsTup.new _ _,_,zU _ rfl,rfl⟩
section
variable (P:Program) (w:World)
def dI(H:Hp)(h:Heap)(a:Addr):HO->Prop
 | .lst xs=>xs.length<=sizeLine/\∃ (its:List Value) (n:Nat),aD xs its/\h.get? a=some { cls:=.type "list",data:=.seq its.toArray n }
 | .tup xs=>xs.length<=sizeLine/\∃its:List Value,aD xs its/\mF h a its.toArray
 | .dK Rw=>Rw.length<=sizeLine/\(a == sysModules)=false/\∃vs,KV Rw vs/\h.DictOf (za P w) a vs
 | .dT Rw=>Rw.length<=sizeLine/\(a == sysModules)=false/\∃xs:List (List uW×Addr×Value),
   Paired (λ(p:List uW×V) (q:List uW×Addr×Value)=>p.1=q.1/\H q.2.1=some (.tup (p.1.map kV))/\RelV p.2 q.2.2) Rw xs /\
   ∃o es ep,h.get? a=some o/\o.ExactDict/\o.data=.dict es ep/\es.toList=xs.map (entryOfKey (tupleKind (za P w)))/\(xs.map (·.1)).Nodup
 | .set S n=>h.SetOf (intKind P w) a S n
 | .ins C dx fs=>H dx=some (.own a)/\fs.length<=1000/\dx≠a/\h.get? a=some (W.instObj C dx) /\
   ∃mA,h.Ns1 dx mA/\(∀f,Nr (fs.lookup f) (mA f))/\PySem.Within mA (fs.map (·.1))
 | .own _=>∃o,h.get? a=some o
 | .xd fs=>∃mA,h.Ns1 a mA/\∀f,Nr (fs.lookup f) (mA f)
 | .Wg lo hi=>∃t u v,h.get? a=some { cls:=.type "range",data:=.fields #[.int lo t,.int hi u,.int 1 v] }
 | .QY o u=>h.get? a=some o/\dI H h a u
 | .tab q=>∃ps:Array Value,h.get? a=some { cls:=.none,data:=.fields ps }/\TriplesOk ps.toList/\∀pos v,codeAmong pos ps.toList=some v->∃c,v=.ref c/\H c=some (.Uw q)
 | .Uw q=>h.CodeRec (.ref a) q
 | .met f x=>h.get? a=some (W.methodObj (.ref f) (.ref x))
 | .ext φ=>φ h/\(∃o,h.get? a=some o)/\∀h1 h2:Heap,φ h1->(∀o,h1.get? a=some o->h2.get? a=some o)->φ h2
def lW(H:Hp)(h:Heap):Prop:=∀a o,H a=some o->dI P w H h a o
end
def dI.lt(x:dI P w H h a o):a < h.objs.size:=by
 cases o with
 | lst xs=>let⟨_,_,_,_,e⟩:=x;exact zV e
 | tup xs=>let⟨_,_,_,p⟩:=x;exact p.1.lt
 | dK Rw=>let⟨_,_,_,_,o,_,_,e,_⟩:=x;exact zV e
 | dT Rw=>let⟨_,_,_,_,o,_,_,e,_⟩:=x;exact zV e
 | set S n=>let⟨o,_,_,_,e,_⟩:=x;exact zV e
 | ins C dx fs=>let⟨_,_,_,e,_⟩:=x;exact zV e
 | own y=>let⟨_,e⟩:=x;exact zV e
 | xd fs=>let⟨_,⟨_,_,_,e,_⟩,_⟩:=x;exact zV e
 | Wg lo hi=>let⟨_,_,_,e⟩:=x;exact zV e
 | QY ob u=>let⟨e,_⟩:=x;exact zV e
 | tab q=>let⟨_,e,_⟩:=x;exact zV e
 | Uw q=>let⟨_,_,_,_,e0,e,_⟩:=x;cases e0;exact zV e
 | met f y=>exact zV (show h.get? a=some _ from x)
 | ext φ=>let⟨_,⟨_,e⟩,_⟩:=x;exact zV e
def Paired.Ux:∀ {Vp:List α}{Vq:List β},Paired F Vp Vq->(∀a b,F a b->G a b)->Paired G Vp Vq
 | _,_,.nil,_=>.nil
 | _,_,.cons r t,f=>.cons (f _ _ r) (Paired.Ux t f)
def Pu:HO->Prop
 | .tup _=>True
 | .Uw _=>True
 | _=>False
def dI.QL(x:dI P w H h a o)(k:∀b u,(b=a\/H b=some (.own a))->h.get? b=some u->h'.get? b=some u)
  (ho:∀b,H b=some (.own a)->H' b=some (.own a)) (ht:∀b u,H b=some u->Pu u->H' b=some u):dI P w H' h' a o:=by
 induction o with
 | lst xs=>let⟨z,its,n,r,e⟩:=x;exact⟨z,its,n,r,k _ _ (.inl rfl) e⟩
 | tup xs=>let⟨z,its,r,⟨ob,e,c⟩,o2,e2,d2⟩:=x;exact⟨z,its,r,⟨ob,k _ _ (.inl rfl) e,c⟩,o2,k _ _ (.inl rfl) e2,d2⟩
 | dK Rw=>let⟨z,y,vs,r,ob,es,ep,e,c⟩:=x;exact⟨z,y,vs,r,ob,es,ep,k _ _ (.inl rfl) e,c⟩
 | dT Rw =>
  let⟨z,y,xs,r,ob,es,ep,e,c⟩:=x;exact⟨z,y,xs,Paired.Ux r λp q z=>⟨z.1,ht _ _ z.2.1 trivial,z.2.2⟩,ob,es,ep,k _ _ (.inl rfl) e,c⟩
 | set S n=>let⟨ob,es,ep,t,e,c⟩:=x;exact⟨ob,es,ep,t,k _ _ (.inl rfl) e,c⟩
 | ins C dx fs =>
  let⟨d,z,ne,e,mA,⟨od,es,ep,e2,c⟩,r⟩:=x;exact⟨ho _ d,z,ne,k _ _ (.inl rfl) e,mA,⟨od,es,ep,k _ _ (.inr d) e2,c⟩,r⟩
 | own y=>let⟨ob,e⟩:=x;exact⟨ob,k _ _ (.inl rfl) e⟩
 | xd fs=>let⟨mA,⟨od,es,ep,e,c⟩,r⟩:=x;exact⟨mA,⟨od,es,ep,k _ _ (.inl rfl) e,c⟩,r⟩
 | Wg lo hi=>let⟨t,u,v,e⟩:=x;exact⟨t,u,v,k _ _ (.inl rfl) e⟩
 | QY ob u ih=>let⟨e,q⟩:=x;exact⟨k _ _ (.inl rfl) e,ih q⟩
 | tab q=>let⟨ps,e,t,c⟩:=x;exact⟨ps,k a _ (.inl rfl) e,t,λpos v z=>let ⟨c0,z1,z2⟩:=c pos v z;⟨c0,z1,ht _ _ z2 trivial⟩⟩
 | Uw q=>let⟨c,oc,vs,t,e0,e,r⟩:=x;cases e0;exact⟨_,oc,vs,t,rfl,k _ _ (.inl rfl) e,r⟩
 | met f y =>
  have e:h.get? a=some (W.methodObj (.ref f) (.ref y)):=x;show h'.get? a=some (W.methodObj (.ref f) (.ref y));exact k a _ (.inl rfl) e
 | ext φ=>let⟨p,⟨o,e⟩,st⟩:=x;exact⟨st _ _ p λo q=>k _ _ (.inl rfl) q,⟨o,k _ _ (.inl rfl) e⟩,st⟩
def lW.lt(x:lW P w H h)(e:H a=some o):a < h.objs.size:=(x a o e).lt
def lW.fresh(x:lW P w H h)(e:h.objs.size<=a):H a=none:=by
 cases q:H a with
 | none=>rfl
 | some u=>exact absurd (zP (x.lt q) e) (qB _)
def lW.kept(x:lW P w H h)(k:∀b u,h.get? b=some u->h'.get? b=some u):lW P w H h':=λa o e =>
 (x a o e).QL (λb u _ q=>k b u q) (λ_ q=>q) λ_ _ q _=>q
def lW.laid(x:lW P w H h)(k:∀b u,h.get? b=some u->h'.get? b=some u)(hp:h.objs.size<=a)(new:dI P w (upd H a o) h' a o):lW P w (upd H a o) h':=λb u e=>by
 have hn:=x.fresh hp;by_cases hb:b=a
 ·subst hb;rw[aC] at e;cases e;exact new
 ·rw[ay hb] at e;exact (x b u e).QL (λc v _ q=>k c v q) (λc q=>by rw[ay (aF q hn)];exact q) λc xs q _=>by rw[ay (aF q hn)];exact q
def Rd(H:Hp)(a:Addr)(u:HO):Prop:=H a=some u\/∃o,H a=some (.QY o u)
def Rd.ok(r:Rd H a u)(x:lW P w H h):dI P w H h a u:=by
 rcases r with r|⟨o,r⟩
 ·exact x a u r
 ·let⟨_,q⟩:=x a _ r;exact q
def Mv:Option HO->Prop
 | some (.lst _)=>True
 | some (.dK _)=>True
 | some (.dT _)=>True
 | some (.set _ _)=>True
 | some (.ins _ _ _)=>True
 | some (.ext _)=>True
 | _=>False
def lW.write(ok:lW P w H h)(mu:Mv (H x))(he:e=x\/H e=some (.own x))(k:∀b u,b≠e->h.get? b=some u->h'.get? b=some u)(Vd:∃u,h'.get? e=some u)
  (new:dI P w (upd H x o') h' x o'):lW P w (upd H x o') h':=λb u q=>by
 have Vr:∀c y,H c=some (.own y)->c≠x:=λc y r z=>by subst z;rw[r] at mu;exact mu
 have WM:∀c u,H c=some u->Pu u->c≠x:=λc u r hr z=>by subst z;rw[r] at mu;cases u<;>first|exact mu|exact hr
 by_cases hb:b=x
 ·subst hb;rw[aC] at q;cases q;exact new
 ·rw[ay hb] at q;by_cases Uy:b=e
  ·have q':H b=some (.own x):=by
    rcases he with z|z
    ·exact absurd (Uy.trans z) hb
    ·rw[Uy];exact z
   rw[q] at q';cases q';let⟨v,hv⟩:=Vd;exact⟨v,by rw[Uy];exact hv⟩
  ·refine (ok b u q).QL (λc v hc r=>k c v ?_ r) (λc r=>by rw[ay (Vr c b r)];exact r) λc xs r hr=>by rw[ay (WM c xs r hr)];exact r
   rcases hc with rfl|hc
   ·exact Uy
   ·rintro rfl;rcases he with z|z
    ·exact Vr c b hc z
    ·rw[hc] at z;cases z;exact hb rfl
def NI:HO->Prop
 | .tab _=>True
 | .Uw _=>True
 | _=>False
def NI.Tw(h:NI u):¬ Mv (some u):=by cases u<;>first|exactλz=>z|exact h.elim
structure Ir(H H':Hp)(h h':Heap):Prop where
 st:∀b u,H b=some u->NI u->H' b=some u
 gr:∀b q ps,H b=some (.tab q)->h.get? b=some { cls:=.none,data:=.fields ps }->∃more:Array Value,h'.get? b=some { cls:=.none,data:=.fields (ps++more) }
def Ir.kept(k:∀b u,(∃q,H b=some (.tab q))->h.get? b=some u->h'.get? b=some u)(st:∀b u,H b=some u->NI u->H' b=some u):Ir H H' h h' :=
 ⟨st,λb q ps e z=>⟨#[],by rw[Array.append_empty];exact k b _ ⟨q,e⟩ z⟩⟩
def Ir.trans(a:Ir H H1 h h1)(b:Ir H1 H2 h1 h2):Ir H H2 h h2 :=
 ⟨λc u q t=>b.st c u (a.st c u q t) t,λc q ps e z=>by
  let⟨m1,z1⟩:=a.gr c q ps e z;let⟨m2,z2⟩:=b.gr c q _ (a.st c _ e trivial) z1;exact⟨m1++m2,by rw[z2,Array.append_assoc]⟩⟩
structure Un(fs ex:List Addr)(H H':Hp)(h h':Heap):Prop where
 keep:∀b o,h.get? b=some o->H b=none->b∉fs->b∉ex->h'.get? b=some o
 slot:∀b o,h.get? b=some o->H b=none->b∈fs->b∉ex->∃sl,h'.get? b=some { o with slots:=sl }
 free:∀b o,h.get? b=some o->H b=none->b∉ex->H' b=none
 there:∀b o,h.get? b=some o->b∉ex->∃o',h'.get? b=some o'
 Ra:∀b xs,H b=some (.tup xs)->H' b=some (.tup xs)
 Q1:∀b o u,H b=some (.QY o u)->H' b=some (.QY o u)
 Q2:Ir H H' h h'
def Un.any(u:Un fs ex H H1 h h1)(q:h.get? b=some ob)(n:H b=none)(hx:b∉ex):∃sl,h1.get? b=some { ob with slots:=sl }:=by
 by_cases hb:b∈fs
 ·exact u.slot b ob q n hb hx
 ·exact⟨ob.slots,u.keep b ob q n hb hx⟩
def Un.kept(k:∀b u,h.get? b=some u->h'.get? b=some u):Un fs ex H H h h' :=
 ⟨λb ob q _ _ _=>k b ob q,λb ob q _ _ _=>⟨ob.slots,k b ob q⟩,λ_ _ _ n _=>n,λb ob q _=>⟨ob,k b ob q⟩,λ_ _ q=>q,λ_ _ _ q=>q,.kept (λb u _ e=>k b u e) λ_ _ e _=>e⟩
def Un.refl:Un fs ex H H h h:=Un.kept λ_ _ q=>q
def Un.laid(k:∀b u,h.get? b=some u->h'.get? b=some u)(hp:h.objs.size<=a)(hn:H a=none):Un fs ex H (upd H a o) h h' where
 keep:=λb u q _ _ _=>k b u q
 slot:=λb u q _ _ _=>⟨u.slots,k b u q⟩
 free:=λb u q n _=>by rw[ay (yN (zP (zV q) hp))];exact n
 there:=λb u q _=>⟨u,k b u q⟩
 Ra:=λb xs q=>by rw[ay (aF q hn)];exact q
 Q1:=λb u xs q=>by rw[ay (aF q hn)];exact q
 Q2:=.kept (λb u _ e=>k b u e) λb u q _=>by rw[ay (aF q hn)];exact q
def Un.write(mu:Mv (H x))(he:e=x\/H e=some (.own x))(k:∀b u,b≠e->h.get? b=some u->h'.get? b=some u)(Vd:∃u,h'.get? e=some u):Un fs ex H (upd H x o) h h':=by
 have hx:∀b,H b=none->b≠x:=λb n z=>by subst z;rw[n] at mu;exact mu
 have hb:∀b,H b=none->b≠e:=λb n z=>by
  subst z;rcases he with r|r
  ·exact hx b n r
  ·rw[n] at r;cases r
 have hm:∀b u,H b=some u->¬ Mv (some u)->b≠x:=λb u q nm z=>by subst z;rw[q] at mu;exact nm mu
 refine⟨λb u q n _ _=>k b u (hb b n) q,λb u q n _ _=>⟨u.slots,k b u (hb b n) q⟩,λb u q n _=>by rw[ay (hx b n)];exact n,λb u q _=>?_,
  λb xs q=>by rw[ay (hm b _ q λz=>z)];exact q,λb u xs q=>by rw[ay (hm b _ q λz=>z)];exact q,.kept (λb u z e=>k b u (λr=>by subst r;rcases he with r|r<;>first|(subst r;rcases z with ⟨q,z⟩;rw[z] at mu;exact mu)|(rcases z with ⟨q,z⟩;rw[z] at r;cases r)) e) λb u q nm=>by rw[ay (hm b _ q (nm.Tw))];exact q⟩
 by_cases Uy:b=e
 ·subst Uy;exact Vd
 ·exact⟨u,k b u Uy q⟩
def Fb(h:Heap)(H:Hp):List Addr:=(List.range h.objs.size).filter λa=>(H a).isSome
def rJ(h:Heap)(H:Hp):Heap:=W.hideAll h (Fb h H)
def Aq(h:Heap)(H:Hp):(rJ h H).objs.size=h.objs.size:=W.hideAll_size _ _
def Df(e:h.get? b=some o)(n:H b=none):(rJ h H).get? b=some o :=
 W.hideAll_get _ e λhm=>by
  have q:(H b).isSome=true:=(List.mem_filter.mp hm).2;rw[n] at q;simp at q
def HI(e:(rJ h H).get? b=some o):h.get? b=some o/\H b=none:=by
 have e':h.get? b=some o:=W.of_hideAll (Fb h H) e;refine⟨e',?_⟩;cases q:H b with
 | none=>rfl
 | some x =>
  have hm:b∈Fb h H:=List.mem_filter.mpr ⟨List.mem_range.mpr (zV e'),by simp[q]⟩;have z:(rJ h H).get? b=none:=W.hideAll_none (Fb h H) hm;rw[z] at e;cases e
def Ow(mg:Str->Option Value)(base:Heap):Prop:=∃bm o,mg "__builtins__"=some (.ref bm)/\bm≠builtinsNs/\bm≠mainGlobals/\base.get? bm=some o/\o.cls=.type "module"/\o.dict=some builtinsNs/\o.data=.plain
structure Mod(K:W.Frag)(mg:Str->Option Value)(base:Heap):Prop where
 Wh:K.In base
 glob:base.Ns mainGlobals mg
 blt:∃mb,base.Ns builtinsNs mb/\∀x:Str,x≠"__name__"->mb x=bootBuiltins x
 nolimit:base.NoLimit
 bmd:Ow mg base
structure Cx where
 prog:Program
 w:World
 K:W.Frag
 mg:Str->Option Value
 base:Heap
 A:Around
 N:List Str
 Qz:Shared
 Qn:Hp
 env:Env
 outer:List Env
 stack:List Env
 ex:List Addr
 fn:Str->Bool
 calm:Bool
 pn:List (Addr×Obj)
 xe:Value->Shared->Prop
def dZ(l:List Env):List Addr:=l.filterMap (·.frame)
abbrev Cx.fs(X:Cx):List Addr:=dZ X.outer
def FD(sc:Scope)(x:Str):Prop:=sc.names.lookup x=some .local \/ sc.names.lookup x=some .cell\/sc.names.lookup x=some .free
def Loc(sc:Scope)(x:Str):Prop:=sc.names.lookup x=some .local \/ sc.names.lookup x=some .cell
def Look(env:Env)(h:Heap)(m:Str->Option Value)(x:Str)(u:Value):Prop :=
 (env.kindOf x=some .local /\ m x=some u)\/((env.kindOf x=some .cell\/env.kindOf x=some .free)/\∃c,env.cells.lookup x=some c/\h.IsCell c (some u))
structure Cx.Ok(X:Cx):Prop where
 mod:Mod X.K X.mg X.base
 kind:X.env.scope.kind=.function
 glob:X.env.globals=mainGlobals
 blt:X.env.builtins=builtinsNs
 above:X.Qz.heap.objs.size<=X.env.locals
 inj:∀x y c,X.env.cells.lookup x=some c->X.env.cells.lookup y=some c->x=y
 has:∀x,(X.env.kindOf x=some .cell\/X.env.kindOf x=some .free)->∃c,X.env.cells.lookup x=some c
 Uz:∀x c,X.fn x=true->X.env.cells.lookup x=some c->X.Qz.heap.objs.size<=c
 hd:X.calm=true->X.A.handled=none
 frames:X.A.frames=some X.stack
 Sa:X.stack=X.outer\/(X.stack=X.env::X.outer/\X.env.frame=some X.env.locals)
 Uc:∀b∈X.ex,b≠X.env.locals/\∀x c,X.env.cells.lookup x=some c->c≠b
 bs:∀b o,X.base.get? b=some o->X.Qz.heap.get? b=some o/\X.Qn b=none
 Tz:X.base.objs.size<=X.Qz.heap.objs.size
 RF:∀b o,X.base.get? b=some o->b∉X.ex
 RG:∀b∈X.ex,b∉X.fs
 Q3:X.Qz.heap.FunFrames X.base X.outer
 Ud:∀b∈X.fs,X.Qn b=none
structure Inv(X:Cx)(pins:List (Addr×Obj))(σ:List (Option V))(H:Hp)(s:Shared):Prop where
 ok:X.Ok
 os:s.os=X.Qz.os
 bare:AllBare s.gens
 base:Un X.fs X.ex X.Qn H X.Qz.heap s.heap
 loc:∃m,s.heap.Ns X.env.locals m/\∀ (i:Nat) (x:Str) (v:V),X.N[i]?=some x->σ[i]?=some (some v)->FD X.env.scope x->∃u,RelV v u/\Look X.env s.heap m x u
 cell:∀x c,X.env.cells.lookup x=some c->∃v,s.heap.IsCell c v
 free:H X.env.locals=none
 QE:∀x c,X.env.cells.lookup x=some c->H c=none
 pin:∀p∈X.pn++pins,s.heap.get? p.1=some p.2/\H p.1=none/\p.1≠X.env.locals/\p.1∉X.fs/\∀v,p.2.data≠.cell v
 Qt:lW X.prog X.w H s.heap
 len:σ.length=X.N.length
def Cx.Ok.WN{X:Cx}(ok:X.Ok)(e:X.base.get? b=some o):b∉X.fs:=λhb=>by
 have:=(ok.Q3.mem hb).1;rw[e] at this;cases this
def Inv.bs{X:Cx}{s:Shared}(I:Inv X pins σ H s):∀b o,X.base.get? b=some o->s.heap.get? b=some o/\H b=none:=λb o e =>
 ⟨I.base.keep b o (I.ok.bs b o e).1 (I.ok.bs b o e).2 (I.ok.WN e) (I.ok.RF b o e),I.base.free b o (I.ok.bs b o e).1 (I.ok.bs b o e).2 (I.ok.RF b o e)⟩
def Inv.bk(I:Inv X pins σ H s):∀b o,X.base.get? b=some o->s.heap.get? b=some o:=λb o e=>(I.bs b o e).1
def Inv.mod(I:Inv X pins σ H s):Mod X.K X.mg X.base:=I.ok.mod
def Inv.RW(I:Inv X pins σ H s):X.K.In s.heap:=I.ok.mod.Wh.keeps I.bk
def Inv.lt(I:Inv X pins σ H s):X.env.locals < s.heap.objs.size:=let ⟨_,hn,_⟩:=I.loc;hn.lt
def Inv.sz(I:Inv X pins σ H s):X.Qz.heap.objs.size<=s.heap.objs.size:=yA I.ok.above (jL I.lt)
def Inv.WO(I:Inv X pins σ H s)(h:s.heap.objs.size<=a):a∉X.fs:=λhb=>by
 let⟨_,o,ho,_⟩:=I.ok.Q3.mem hb;exact absurd (zP (zV ho) (yA I.sz h)) (qB _)
def Inv.Ue(I:Inv X pins σ H s):∀x c,X.env.cells.lookup x=some c->c≠X.env.locals:=λx c e z=>by
 let⟨v,o,ho,hd⟩:=I.cell x c e;let⟨m,⟨o',es,ep,Rl,SH,_⟩,_⟩:=I.loc;rw[z,Rl] at ho;cases ho;rw[SH] at hd;cases hd
def Inv.Q3(I:Inv X pins σ H s):s.heap.FunFrames X.base X.outer:=by
 have all:∀ (l:List Env),(∀b∈dZ l,b∈X.fs)->X.Qz.heap.FunFrames X.base l->s.heap.FunFrames X.base l:=by
  intro l
  induction l with
  | nil=>intro _ _;trivial
  | cons env r ih =>
   intro hs hl;let⟨hk,⟨L,o,hf,hn,ho,hd⟩,hr⟩:=hl;have hL:L∈X.fs:=hs L (by unfold dZ;rw[jB,hf];exact zE);let⟨sl,e⟩:=I.base.slot L o ho (I.ok.Ud L hL) hL λz=>I.ok.RG L z hL;exact⟨hk,⟨L,_,hf,hn,e,hd⟩,ih (λb hb=>hs b (by unfold dZ;rw[jB,hf];exact zC _ hb)) hr⟩
 exact all X.outer (λ_ hb=>hb) I.ok.Q3
def Inv.stack(I:Inv X pins σ H s):s.heap.FunFrames X.base X.stack:=by
 rcases I.ok.Sa with e|⟨e,hf⟩
 ·rw[e];exact I.Q3
 ·rw[e];let⟨m,hn,_⟩:=I.loc;refine .cons (by rw[I.ok.kind];decide) hf hn ?_ I.Q3;exact Heap.get?_none_of_le (yA I.ok.Tz I.ok.above)
def Inv.RX(I:Inv X pins σ H s):∀b∈dZ X.stack,b∈X.env.locals::X.fs:=λb hb=>by
 rcases I.ok.Sa with e|⟨e,hf⟩
 ·rw[e] at hb;exact zC _ hb
 ·rw[e] at hb;unfold dZ at hb;rw[jB,hf] at hb;exact hb
def Inv.Rh(I:Inv X pins σ H s):∀b∈dZ X.stack,H b=none:=λb hb=>by
 rcases List.mem_cons.mp (I.RX b hb) with e|hb
 ·rw[e];exact I.free
 ·let⟨_,o,ho,_⟩:=I.ok.Q3.mem hb;exact I.base.free b o ho (I.ok.Ud b hb) λz=>I.ok.RG b z hb
def Inv.step{g':Array GenState}{t':Nat}{d':Drawn}{ch:List Addr}(I:Inv X pins σ H s)
  (RA:∀b∈ch,(b∈X.ex\/X.Qz.heap.objs.size<=b)/\b≠X.env.locals/\(∀x c,X.env.cells.lookup x=some c->c≠b)/\∀p∈X.pn++pins,p.1≠b)
  (keep:∀b o,b≠X.env.locals->b∉X.fs->b∉ch->s.heap.get? b=some o->H b=none->h'.get? b=some o)
  (slot:∀b o,b≠X.env.locals->b∈X.fs->b∉ch->s.heap.get? b=some o->H b=none->∃sl,h'.get? b=some { o with slots:=sl }) (free:∀b o,b∉ch->s.heap.get? b=some o->H b=none->H' b=none)
  (there:∀b o,b∉ch->s.heap.get? b=some o->∃o',h'.get? b=some o')
  (Ra:∀b xs,H b=some (.tup xs)->H' b=some (.tup xs)) (Q1:∀b o u,H b=some (.QY o u)->H' b=some (.QY o u)) (Q2:Ir H H' s.heap h')
  (ns:∀m,s.heap.Ns X.env.locals m->h'.Ns X.env.locals m) (Qt:lW X.prog X.w H' h') (hg:AllBare g') :
  Inv X pins σ H' { s with heap:=h',gens:=g',drawn:=d',toks:=t' }:=by
 have TB:∀b o,X.Qz.heap.get? b=some o->b≠X.env.locals:=λb o e=>yN (zP (zV e) I.ok.above);have Wi:∀b o,X.Qz.heap.get? b=some o->b∉X.ex->b∉ch:=λb o e hx hb=>by
  rcases (RA b hb).1 with z|z
  ·exact hx z
  ·exact absurd (zP (zV e) z) (qB _)
 have cellK:∀x c,X.env.cells.lookup x=some c->∀v,s.heap.IsCell c v->h'.IsCell c v:=λx c e v ⟨o,ho,hd⟩=>by
  have Sr:c∉ch:=λz=>(RA c z).2.2.1 x c e rfl;by_cases hc:c∈X.fs
  ·let⟨sl,q⟩:=slot c o (I.Ue x c e) hc Sr ho (I.QE x c e);exact⟨_,q,hd⟩
  ·exact⟨o,keep c o (I.Ue x c e) hc Sr ho (I.QE x c e),hd⟩
 refine⟨I.ok,I.os,hg,⟨λb o e n hb hx=>?_,λb o e n hb hx=>?_,λb o e n hx=>?_,λb o e hx=>?_,λb xs e=>Ra b xs (I.base.Ra b xs e),λb o xs e=>Q1 b o xs (I.base.Q1 b o xs e),I.base.Q2.trans Q2⟩,?_,λx c e=>?_,?_,λx c e=>?_,λp hp=>?_,Qt,I.len⟩
 ·exact keep b o (TB b o e) hb (Wi b o e hx) (I.base.keep b o e n hb hx) (I.base.free b o e n hx)
 ·let⟨sl,e1⟩:=I.base.slot b o e n hb hx;let⟨YB,e2⟩:=slot b _ (TB b o e) hb (Wi b o e hx) e1 (I.base.free b o e n hx);exact⟨YB,e2⟩
 ·let⟨o',e1⟩:=I.base.there b o e hx;exact free b o' (Wi b o e hx) e1 (I.base.free b o e n hx)
 ·let⟨o',e1⟩:=I.base.there b o e hx;exact there b o' (Wi b o e hx) e1
 ·let⟨m,hn,hl⟩:=I.loc;refine⟨m,ns m hn,λi x v e1 e2 e3=>?_⟩;let⟨u,r,l⟩:=hl i x v e1 e2 e3;refine⟨u,r,?_⟩;rcases l with l|⟨k,c,e,z⟩
  ·exact .inl l
  ·exact .inr ⟨k,c,e,cellK x c e _ z⟩
 ·let⟨v,z⟩:=I.cell x c e;exact⟨v,cellK x c e v z⟩
 ·let⟨m,⟨o,_,_,ho,_⟩,_⟩:=I.loc;exact free _ o (λz=>(RA _ z).2.1 rfl) ho I.free
 ·let⟨v,o,ho,hd⟩:=I.cell x c e;exact free c o (λz=>(RA c z).2.2.1 x c e rfl) ho (I.QE x c e)
 ·let⟨e,n,ne,nf,d⟩:=I.pin p hp;have Sr:p.1∉ch:=λz=>(RA p.1 z).2.2.2 p hp rfl;exact⟨keep p.1 p.2 ne nf Sr e n,free p.1 p.2 Sr e n,ne,nf,d⟩
def Inv.un{t':Nat}(I:Inv X pins σ H s)(u:Un X.fs [] H H' s.heap h')(Qt:lW X.prog X.w H' h'):Inv X pins σ H' { s with heap:=h',toks:=t' }:=by
 let⟨m,⟨o,es,ep,ho,r⟩,_⟩:=id I.loc;let⟨sl,hL⟩:=u.any ho I.free (by simp);exact I.step (g':=s.gens) (d':=s.drawn) (ch:=[]) (λ_ z=>nomatch z) (λb o _ hb _ e n=>u.keep b o e n hb (by simp)) (λb o _ hb _ e n=>u.slot b o e n hb (by simp)) (λb o _ e n=>u.free b o e n (by simp)) (λb o _ e=>u.there b o e (by simp)) u.Ra u.Q1 u.Q2 (λm' hm=>by
  let⟨o',TC,WQ,Rl,r'⟩:=hm;rw[ho] at Rl;cases Rl;exact⟨_,TC,WQ,hL,r'⟩) Qt I.bare
def Inv.call{t':Nat}{d':Drawn}{ch:List Addr}(I:Inv X pins σ H s)(u:Un (dZ X.stack) ch H H' s.heap h')(Qt:lW X.prog X.w H' h')(hg:AllBare g')
  (RA:∀b∈ch,(b∈X.ex\/X.Qz.heap.objs.size<=b)/\b≠X.env.locals/\(∀x c,X.env.cells.lookup x=some c->c≠b)/\∀p∈X.pn++pins,p.1≠b) :
  Inv X pins σ H' { s with heap:=h',gens:=g',drawn:=d',toks:=t' }:=by
 let⟨m,⟨o,es,ep,ho,r⟩,_⟩:=id I.loc;let⟨sl,hL⟩:=u.any ho I.free λz=>(RA _ z).2.1 rfl;exact I.step (ch:=ch) RA (λb o hL hb hc e n=>u.keep b o e n (λz=>(List.mem_cons.mp (I.RX b z)).elim hL hb) hc) (λb o _ _ hc e n=>u.any e n hc) (λb o hc e n=>u.free b o e n hc) (λb o hc e=>u.there b o e hc) u.Ra u.Q1 u.Q2 (λm' hm=>by
  let⟨o',TC,WQ,Rl,r'⟩:=hm;rw[ho] at Rl;cases Rl;exact⟨_,TC,WQ,hL,r'⟩) Qt hg
def Inv.turned{t':Nat}(I:Inv X pins σ H s)(k:∀b o,b≠it->s.heap.get? b=some o->h'.get? b=some o)(hn:H it=none)(hL:it≠X.env.locals)
  (h1:it∈X.ex\/X.Qz.heap.objs.size<=it) (h2:∀x c,X.env.cells.lookup x=some c->c≠it) (h3:∀p∈X.pn++pins,p.1≠it):Inv X pins σ H { s with heap:=h',toks:=t' }:=by
 have YC:∀b u,H b=some u->b≠it:=λb u e z=>by rw[z,hn] at e;cases e
 refine I.step (g':=s.gens) (d':=s.drawn) (ch:=[it]) (λb hb=>?_) (λb o _ _ hc e _=>k b o (λz=>hc (by simp[z])) e) (λb o _ _ hc e _=>⟨o.slots,k b o (λz=>hc (by simp[z])) e⟩) (λ_ _ _ _ n=>n)
  (λb o hc e=>⟨o,k b o (λz=>hc (by simp[z])) e⟩) (λ_ _ e=>e) (λ_ _ _ e=>e) (.kept (λb u z e=>k b u (λr=>by subst r;rcases z with ⟨q,z⟩;rw[hn] at z;cases z) e) λ_ _ e _=>e) (λm hm=>?_) (λb u e=>?_) I.bare
 ·have e:b=it:=by simpa using hb
  subst e;exact⟨h1,hL,h2,h3⟩
 ·let⟨o,es,ep,ho,r⟩:=hm;exact⟨o,es,ep,k _ o (jG hL) ho,r⟩
 ·refine (I.Qt b u e).QL (λc v hc q=>k c v ?_ q) (λ_ q=>q) λ_ _ q _=>q;rcases hc with z|z
  ·rw[z];exact YC b u e
  ·exact YC c _ z
def Inv.tok(I:Inv X pins σ H s)(t:Nat):Inv X pins σ H { s with toks:=t }:=I.un (h':=s.heap) (t':=t) Un.refl I.Qt
def Inv.kept{t':Nat}(I:Inv X pins σ H s)(k:∀b u,s.heap.get? b=some u->h'.get? b=some u):Inv X pins σ H { s with heap:=h',toks:=t' }:=I.un (Un.kept k) (I.Qt.kept k)
def Inv.laid{t':Nat}(I:Inv X pins σ H s)(k:∀b u,s.heap.get? b=some u->h'.get? b=some u)(hp:s.heap.objs.size<=a)(new:dI X.prog X.w (upd H a o) h' a o) :
  Inv X pins σ (upd H a o) { s with heap:=h',toks:=t' }:=I.un (Un.laid k hp (I.Qt.fresh hp)) (I.Qt.laid k hp new)
def Inv.write{t':Nat}(I:Inv X pins σ H s)(mu:Mv (H x))(he:e=x\/H e=some (.own x))(k:∀b u,b≠e->s.heap.get? b=some u->h'.get? b=some u)(Vd:∃u,h'.get? e=some u)
  (new:dI X.prog X.w (upd H x o) h' x o):Inv X pins σ (upd H x o) { s with heap:=h',toks:=t' }:=I.un (Un.write mu he k Vd) (I.Qt.write mu he k Vd new)
def Inv.Rx(I:Inv X pins σ H s)(h:∀p∈pins',s.heap.get? p.1=some p.2/\H p.1=none/\p.1≠X.env.locals/\p.1∉X.fs/\∀v,p.2.data≠.cell v):Inv X pins' σ H s :=
 ⟨I.ok,I.os,I.bare,I.base,I.loc,I.cell,I.free,I.QE,λp hp=>(List.mem_append.mp hp).elim (λz=>I.pin p (qF _ z)) (h p),I.Qt,I.len⟩
def sV{N:List Str}(hN:N.Nodup){i j:Nat}(a:N[i]?=some x)(b:N[j]?=some x):i=j:=by
 let⟨h1,e1⟩:=List.getElem?_eq_some_iff.mp a;let⟨h2,e2⟩:=List.getElem?_eq_some_iff.mp b;exact (List.getElem_inj hN).mp (e1.trans e2.symm)
def l5{M:Model}{A:Around}{E:Value->Shared->Prop}{i:Nat}{Q:Unit->Shared->Prop}(I:Inv X pins σ H s)(hN:X.N.Nodup)(hi:X.N[i]?=some x)(hx:Loc X.env.scope x)(r:RelV v u)
  (h:∀s',Inv X pins (σ.set i (some v)) H s'->(∃a,Heap.SameBut a s.heap s'.heap/\(a=X.env.locals\/X.env.cells.lookup x=some a))->Q () s') (hf:X.fn x=true\/X.env.scope.names.lookup x=some .local:=by first|exact .inl rfl|exact .inr rfl|assumption):wpAny M A (storeName X.env x u) Q E s:=by
 let⟨m,hn,hl⟩:=id I.loc;have RH:(X.env.scope.kind == .class||(X.env.scope.kind == .module&&X.env.locals != X.env.globals))=false:=by rw[I.ok.kind];rfl
 have Vs:i < σ.length:=by rw[I.len];exact (List.getElem?_eq_some_iff.mp hi).1
 have Ue:=I.Ue;have tracked:∀ {a:Addr}{h':Heap},(∃o,s.heap.get? a=some o/\H a=none)->Heap.SameBut a s.heap h'->lW X.prog X.w H h':=λ{a h'} ha hs b ob e=>by
  let⟨_,_,QO⟩:=ha;refine (I.Qt b ob e).QL (λc w' hc q=>(hs.2 c ?_).trans q) (λ_ q=>q) λ_ _ q _=>q;rintro rfl;rcases hc with rfl|hc
  ·rw[QO] at e;cases e
  ·rw[QO] at hc;cases hc
 rcases hx with hk|hk
 ·refine wpAny_storeName_local hk hn (λh' Zz hs=>?_) RH;let⟨oL,_,_,ZA,_⟩:=id hn;refine h _ ⟨I.ok,I.os,I.bare,⟨λb o e n hb hx=>?_,λb o e n hb hx=>?_,I.base.free,λb o e hx=>?_,I.base.Ra,I.base.Q1,I.base.Q2.trans (.kept (λb u z e=>(hs.2 b (λr=>by rcases z with ⟨q,z⟩;rw[r,I.free] at z;cases z)).trans e) λ_ _ e _=>e)⟩,⟨_,Zz,λj y v' e1 e2 e3=>?_⟩,λy c e=>?_,I.free,I.QE,λp hp=>?_,tracked ⟨oL,ZA,I.free⟩ hs,by simpa using I.len⟩ ⟨_,hs,.inl rfl⟩
  ·exact (hs.2 b (yN (zP (zV e) I.ok.above))).trans (I.base.keep b o e n hb hx)
  ·let⟨sl,e1⟩:=I.base.slot b o e n hb hx;exact⟨sl,(hs.2 b (yN (zP (zV e) I.ok.above))).trans e1⟩
  ·let⟨o',e1⟩:=I.base.there b o e hx;exact⟨o',(hs.2 b (yN (zP (zV e) I.ok.above))).trans e1⟩
  ·by_cases hj:j=i
   ·subst hj;rw[hi] at e1;cases e1;rw[List.getElem?_set_self Vs] at e2;cases e2;exact⟨u,r,.inl ⟨hk,by simp⟩⟩
   ·rw[kA (jG hj)] at e2;let⟨u',r',q⟩:=hl j y v' e1 e2 e3;refine⟨u',r',?_⟩;rcases q with ⟨k,e⟩|⟨k,c,e,z⟩
    ·refine .inl ⟨k,?_⟩;have:y≠x:=λe=>hj (sV hN e1 (e ▸ hi));simp[this,e]
    ·exact .inr ⟨k,c,e,z.sameBut hs (Ue y c e)⟩
  ·let⟨w',z⟩:=I.cell y c e;exact⟨w',z.sameBut hs (Ue y c e)⟩
  ·let⟨e,n,ne,nf,d⟩:=I.pin p hp;exact⟨(hs.2 p.1 ne).trans e,n,ne,nf,d⟩
 ·have TF:X.fn x=true:=by
   rcases hf with z|z
   ·exact z
   ·rw[z] at hk;cases hk
  let⟨c,hc⟩:=I.ok.has x (.inl hk);let⟨w',z⟩:=I.cell x c hc;refine wpAny_storeName_cell I.ok.kind hk hc z (λh' Ri hs=>?_);let⟨oc,YD,WR⟩:=id z;refine h { s with heap:=h' } ⟨I.ok,I.os,I.bare,⟨λb o e n hb hx=>?_,λb o e n hb hx=>?_,I.base.free,λb o e hx=>?_,I.base.Ra,I.base.Q1,I.base.Q2.trans (.kept (λb u z e=>(hs.2 b (λr=>by rcases z with ⟨q,z⟩;rw[r,I.QE x c hc] at z;cases z)).trans e) λ_ _ e _=>e)⟩,⟨m,hn.sameBut hs (jG (Ue x c hc)),λj y v' e1 e2 e3=>?_⟩,λy c' e=>?_,I.free,I.QE,λp hp=>?_,tracked ⟨oc,YD,I.QE x c hc⟩ hs,by simpa using I.len⟩ ⟨c,hs,.inr hc⟩
  ·exact (hs.2 b (yN (zP (zV e) (I.ok.Uz x c TF hc)))).trans (I.base.keep b o e n hb hx)
  ·let⟨sl,e1⟩:=I.base.slot b o e n hb hx;exact⟨sl,(hs.2 b (yN (zP (zV e) (I.ok.Uz x c TF hc)))).trans e1⟩
  ·let⟨o',e1⟩:=I.base.there b o e hx;exact⟨o',(hs.2 b (yN (zP (zV e) (I.ok.Uz x c TF hc)))).trans e1⟩
  ·by_cases hj:j=i
   ·subst hj;rw[hi] at e1;cases e1;rw[List.getElem?_set_self Vs] at e2;cases e2;exact⟨u,r,.inr ⟨.inl hk,c,hc,Ri⟩⟩
   ·rw[kA (jG hj)] at e2;let⟨u',r',q⟩:=hl j y v' e1 e2 e3;refine⟨u',r',?_⟩;rcases q with q|⟨k,c',e,z'⟩
    ·exact .inl q
    ·refine .inr ⟨k,c',e,z'.sameBut hs ?_⟩;rintro rfl;exact hj (sV hN e1 (I.ok.inj _ _ _ e hc ▸ hi))
  ·by_cases Wj:c'=c
   ·subst Wj;exact⟨_,Ri⟩
   ·let⟨w2,z2⟩:=I.cell y c' e;exact⟨w2,z2.sameBut hs Wj⟩
  ·let⟨e,n,ne,nf,d⟩:=I.pin p hp;refine⟨(hs.2 p.1 ?_).trans e,n,ne,nf,d⟩;intro q;rw[q,YD] at e;have q':oc=p.2:=yZ e;exact d w' (by rw[<- q'];exact WR)
def ur{M:Model}{A:Around}{E:Value->Shared->Prop}(I:Inv X pins σ H s)(hN:X.N.Nodup)(hi:X.N[i]?=some x)(hx:Loc X.env.scope x)(r:RelV v u)
  (h:∀s',Inv X pins (σ.set i (some v)) H s'->Q () s') (hf:X.fn x=true\/X.env.scope.names.lookup x=some .local:=by first|exact .inl rfl|exact .inr rfl|assumption):wpAny M A (storeName X.env x u) Q E s :=
 l5 I hN hi hx r (λs' I' _=>h s' I') hf
def Inv.SN{ch:List Addr}(I:Inv X pins σ H s)(ho:s'.os=s.os)(u:Un (dZ X.stack) ch H H' s.heap s'.heap)(Qt:lW X.prog X.w H' s'.heap)(hg:AllBare s'.gens)
  (RA:∀b∈ch,(b∈X.ex\/X.Qz.heap.objs.size<=b)/\b≠X.env.locals/\(∀x c,X.env.cells.lookup x=some c->c≠b)/\∀p∈X.pn++pins,p.1≠b):Inv X pins σ H' s':=by
 let⟨h',g',d',t',o'⟩:=s';have e:o'=s.os:=ho;subst e;exact I.call (g':=g') (t':=t') (d':=d') u Qt hg RA
abbrev XK:=Value->Option Addr->Hp->Prop
abbrev St:=List (Option V)
abbrev VK:=V->Hp->Prop
abbrev TE:=St->Hp->VK->Prop
abbrev TT:=St->Hp->(Bool->Hp->Prop)->Prop
abbrev TA:=St->Hp->(List V->Hp->Prop)->Prop
structure Ends where
 nx:St->Hp->Prop
 rt:VK
 bk:St->Hp->Prop:=λ_ _=>False
 ct:St->Hp->Prop:=λ_ _=>False
abbrev TS:=Ends->St->Hp->Prop
def EP(X:Cx)(pins:List (Addr×Obj))(σ:St)(Q:VK)(u:Value)(s':Shared):Prop:=∃v H',Inv X pins σ H' s'/\RelV v u/\Q v H'
def TP(X:Cx)(pins:List (Addr×Obj))(σ:St)(Q:Bool->Hp->Prop)(b:Bool)(s':Shared):Prop:=∃H',Inv X pins σ H' s'/\Q b H'
def AP(X:Cx)(pins:List (Addr×Obj))(σ:St)(Q:List V->Hp->Prop)(us:List Value)(s':Shared):Prop:=∃vs H',Inv X pins σ H' s'/\aD vs us/\Q vs H'
def SP(X:Cx)(pins:List (Addr×Obj))(D:Ends)(f:Flow)(s':Shared):Prop :=
 match f with
 | .next=>∃σ' H',Inv X pins σ' H' s'/\D.nx σ' H'
 | .brk=>∃σ' H',Inv X pins σ' H' s'/\D.bk σ' H'
 | .cont=>∃σ' H',Inv X pins σ' H' s'/\D.ct σ' H'
 | .ret u=>∃v σ' H',Inv X pins σ' H' s'/\RelV v u/\D.rt v H'
def PE(X:Cx)(e:Expr)(t:TE):Prop :=
 ∀ (pins:List (Addr×Obj)) (s:Shared) (σ:St) (H:Hp) (Q:VK),Inv X pins σ H s->t σ H Q->wpAny (model X.prog X.w) X.A (eval e X.env) (EP X pins σ Q) X.xe s
def PT(X:Cx)(e:Expr)(t:TT):Prop :=
 ∀ (pins:List (Addr×Obj)) (s:Shared) (σ:St) (H:Hp) (Q:Bool->Hp->Prop),Inv X pins σ H s->t σ H Q->wpAny (model X.prog X.w) X.A (isTrue e X.env (eval e X.env)) (TP X pins σ Q) X.xe s
def PW(X:Cx)(e:Expr)(t:TT):Prop :=
 ∀ (whole:Sem Value) (pins:List (Addr×Obj)) (s:Shared) (σ:St) (H:Hp) (Q:Bool->Hp->Prop),Inv X pins σ H s->t σ H Q->wpAny (model X.prog X.w) X.A (isTrue e X.env whole) (TP X pins σ Q) X.xe s
def PW.pt(h:PW X e t):PT X e t:=h _
def PA(X:Cx)(es:List Expr)(t:TA):Prop :=
 ∀ (pos:Pos) (pins:List (Addr×Obj)) (s:Shared) (σ:St) (H:Hp) (Q:List V->Hp->Prop),Inv X pins σ H s->t σ H Q->wpAny (model X.prog X.w) X.A (spliced (backTo pos (starEach es X.env))) (AP X pins σ Q) X.xe s
def PS(X:Cx)(st:Stmt)(t:TS):Prop :=
 ∀ (pins:List (Addr×Obj)) (s:Shared) (σ:St) (H:Hp) (D:Ends),Inv X pins σ H s->t D σ H->wpAny (model X.prog X.w) X.A (exec st X.env) (SP X pins D) X.xe s
def uE(X:Cx)(st:List Stmt)(t:TS):Prop :=
 ∀ (pins:List (Addr×Obj)) (s:Shared) (σ:St) (H:Hp) (D:Ends),Inv X pins σ H s->t D σ H->wpAny (model X.prog X.w) X.A (execs st X.env) (SP X pins D) X.xe s
def bg(h:wpAny M A t Q E s)(hQ:∀a s,Q a s->Q' a s):wpAny M A t Q' E s:=yW h hQ λ_ _ x=>x
section
def OO(i:Nat):TE:=λσ H Q=>∃v,σ[i]?=some (some v)/\Q v H
def tC(v:V):TE:=λ_ H Q=>Q v H
def ji(hN:X.N[i]?=some x)(hv:FD X.env.scope x)(hd:(x == ("__debug__":Str))=false:=by decide)(Q8:(x == ("__classdict__":Str))=false:=by decide):PE X (.Name x pos) (OO i):=by
 intro pins s σ H Q I h;let⟨v,e,h⟩:=h;let⟨m,hn,hl⟩:=I.loc;let⟨u,r,l⟩:=hl i x v hN e hv;have fin:EP X pins σ Q u s:=⟨v,H,I,r,h⟩
 rcases l with ⟨hk,hm⟩|⟨hk,c,hc,Ug⟩
 ·exact wpAny_Name (wpAny_loadName_local I.ok.kind hk hn hm fin) hd
 ·rcases hk with hk|hk
  ·exact wpAny_Name (wpAny_loadName_cell I.ok.kind hk hc Ug fin) hd
  ·exact wpAny_Name (wpAny_loadName_free I.ok.kind hk hc Ug fin Q8) hd
def wM{i j pos}:PE X (.Constant (.int i) j pos) (tC (.int i)):=λ_ _ _ H _ I h=>wpAny_Constant_int ⟨.int i,H,I.tok _,⟨_,rfl⟩,h⟩
def Iy{b j pos}:PE X (.Constant (.bool b) j pos) (tC (.bl b)):=λ_ _ _ H _ I h=>Constant_bool ⟨.bl b,H,I,rfl,h⟩
def DK{j pos}:PE X (.Constant .none j pos) (tC .Qo):=λ_ _ _ H _ I h=>Constant_none ⟨.Qo,H,I,rfl,h⟩
def Ko{x j pos}:PE X (.Constant (.str x) j pos) (tC (.str x)):=λ_ _ _ H _ I h=>vL ⟨.str x,H,I.tok _,⟨_,rfl⟩,h⟩
def Gl(X:Cx)(x:Str):Prop:=X.env.kindOf x=some .globalImplicit
def lA{E:Value->Shared->Prop}{pos:Pos}(I:Inv X pins σ H s)(hg:Gl X x)(hm:X.mg x=some u)(h:Q u s)
  (hd:(x == ("__debug__":Str))=false:=by decide):wpAny (model X.prog X.w) X.A (eval (.Name x pos) X.env) Q E s :=
 Calls.Name_function_global I.ok.kind hg (Calls.loadGlobal_global (by rw[I.ok.glob];exact I.mod.glob.keeps I.bk) hm h) hd
def gR{E:Value->Shared->Prop}{pos:Pos}(I:Inv X pins σ H s)(hg:Gl X x)(hm:X.mg x=none)(hv:bootBuiltins x=some u)(h:Q u s)
  (hn:x≠"__name__":=by decide) (hd:(x == ("__debug__":Str))=false:=by decide):wpAny (model X.prog X.w) X.A (eval (.Name x pos) X.env) Q E s:=by
 let⟨mb,h1,h2⟩:=I.mod.blt;exact Calls.Name_function_global I.ok.kind hg (Calls.loadGlobal_builtin (by rw[I.ok.glob];exact I.mod.glob.keeps I.bk) hm (by rw[I.ok.blt];exact h1.keeps I.bk) ((h2 x hn).trans hv) h) hd
def zm(hg:Gl X x)(hm:X.mg x=some u)(r:RelV v u)(hd:(x == ("__debug__":Str))=false:=by decide):PE X (.Name x pos) (tC v) :=
 λ_ _ _ H _ I h=>lA I hg hm ⟨v,H,I,r,h⟩ hd
def GF(hg:Gl X x)(hm:X.mg x=none)(hv:bootBuiltins x=some u)(r:RelV v u)(hn:x≠"__name__":=by decide)(hd:(x == ("__debug__":Str))=false:=by decide):PE X (.Name x pos) (tC v) :=
 λ_ _ _ H _ I h=>gR I hg hm hv ⟨v,H,I,r,h⟩ hn hd
def ET(b:Expr)(h:op≠.In)(h2:op≠.NotIn):behindInMarks op b=false:=by
 have e1:(op == CmpOp.In)=false:=by cases op<;>first|rfl|exact absurd rfl h
 have e2:(op == CmpOp.NotIn)=false:=by cases op<;>first|rfl|exact absurd rfl h2
 cases b<;>simp[behindInMarks,e1,e2]
def tB(t:TE):TT:=λσ H Q=>t σ H λx H1=>∃c,x=.bl c/\Q c H1
def Eh(h:PE X e t)(he:∀whole,isTrue e X.env whole=(do let v <- whole;standAt e.pos;holding [v] (truthy v)):=by intro _;rfl):PT X e (tB t):=by
 intro pins s σ H Q I hw;refine isTrue_plain (bg (h pins s σ H _ I hw) λv s1 ⟨x,H1,I1,r1,q1⟩=>?_) (he _);let⟨d,rfl,q⟩:=q1;cases r1;exact xS ⟨H1,I1,q⟩
variable {rest:List Expr}
def NN(t u:TT):TT:=λσ H Q=>t σ H λc H1=>if c=true then u σ H1 Q else Q false H1
def PH(t u:TT):TT:=λσ H Q=>t σ H λc H1=>if c=true then Q true H1 else u σ H1 Q
def OS(t:TT):TT:=λσ H Q=>t σ H λc H1=>Q (!c) H1
def zj(ha:PT X a tA):PW X (.BoolOp .And [a] pos) tA:=by
 intro wh pins s σ H Q I h;refine isTrue_and (bg (ha pins s σ H Q I h) λc s1 e=>?_);cases c with
 | true=>exact isTrue_and_nil e
 | false=>exact e
def Ke(ha:PT X a tA):PW X (.BoolOp .Or [a] pos) tA:=by
 intro wh pins s σ H Q I h;refine isTrue_or (bg (ha pins s σ H Q I h) λc s1 e=>?_);cases c with
 | false=>exact isTrue_or_nil e
 | true=>exact e
def C9(ha:PT X a tA)(hb:PW X (.BoolOp .And (b::rest) pos) WS):PW X (.BoolOp .And (a::b::rest) pos) (NN tA WS):=by
 intro wh pins s σ H Q I h;refine isTrue_and (bg (ha pins s σ H _ I h) λc s1 ⟨H1,I1,q1⟩=>?_);cases c with
 | true=>exact hb wh pins s1 σ H1 Q I1 q1
 | false=>exact⟨H1,I1,q1⟩
def MR(ha:PT X a tA)(hb:PW X (.BoolOp .Or (b::rest) pos) WS):PW X (.BoolOp .Or (a::b::rest) pos) (PH tA WS):=by
 intro wh pins s σ H Q I h;refine isTrue_or (bg (ha pins s σ H _ I h) λc s1 ⟨H1,I1,q1⟩=>?_);cases c with
 | true=>exact⟨H1,I1,q1⟩
 | false=>exact hb wh pins s1 σ H1 Q I1 q1
def JF(ha:PT X a tA):PT X (.UnaryOp .Not a pos) (OS tA):=by
 intro pins s σ H Q I h;exact isTrue_not (ha pins s σ H (λc H1=>Q (!c) H1) I h)
def Mp(ta tb:TE):TE:=λσ H Q=>ta σ H λx H1=>∃c,x=.bl c/\if c=true then tb σ H1 Q else Q (.bl false) H1
def OC(ta tb:TE):TE:=λσ H Q=>ta σ H λx H1=>∃c,x=.bl c/\if c=true then Q (.bl true) H1 else tb σ H1 Q
def J0{op}(h:PE X a t):PE X (.BoolOp op [a] pos) t:=λpins s σ H Q I hw=>BoolOp_one (h pins s σ H Q I hw)
def IY(ha:PE X a ta)(hb:PE X (.BoolOp .And (b::rest) pos) tb):PE X (.BoolOp .And (a::b::rest) pos) (Mp ta tb):=by
 intro pins s σ H Q I h;refine BoolOp_and (bg (ha pins s σ H _ I h) λv s1 ⟨x,H1,I1,r1,q1⟩=>?_);let⟨c,rfl,q1⟩:=q1;cases r1;refine xS ?_;cases c with
 | true=>exact hb pins s1 σ H1 Q I1 q1
 | false=>exact⟨.bl false,H1,I1,rfl,q1⟩
def DL(ha:PE X a ta)(hb:PE X (.BoolOp .Or (b::rest) pos) tb):PE X (.BoolOp .Or (a::b::rest) pos) (OC ta tb):=by
 intro pins s σ H Q I h;refine BoolOp_or (bg (ha pins s σ H _ I h) λv s1 ⟨x,H1,I1,r1,q1⟩=>?_);let⟨c,rfl,q1⟩:=q1;cases r1;refine xS ?_;cases c with
 | false=>exact hb pins s1 σ H1 Q I1 q1
 | true=>exact⟨.bl true,H1,I1,rfl,q1⟩
def PZ(t:TT)(ta tb:TE):TE:=λσ H Q=>t σ H λc H1=>if c=true then ta σ H1 Q else tb σ H1 Q
def tU(hc:PT X c tA)(ha:PE X a ta)(hb:PE X b tb):PE X (.IfExp c a b pos) (PZ tA ta tb):=by
 intro pins s σ H Q I h;refine wpAny_IfExp (bg (hc pins s σ H _ I h) λd s1 ⟨H1,I1,q1⟩=>?_);cases d with
 | true=>exact ha pins s1 σ H1 Q I1 q1
 | false=>exact hb pins s1 σ H1 Q I1 q1
end
def dM(K:W.Frag)(H:Hp)(a:Addr)(xs:List V):Prop :=
 Rd H a (.lst xs) \/
  ∃ (o:Obj) (its:Array Value) (n:Nat),K.lookup a=some o/\o.cls=.type "list"/\o.dict=none/\o.data=.seq its n/\its.size<=sizeLine/\aD xs its.toList
def fU(K:W.Frag)(H:Hp)(a:Addr)(xs:List V):Prop :=
 Rd H a (.tup xs) \/
  ∃ (o:Obj) (its:Array Value) (n:Nat),K.lookup a=some o/\o.cls=.type "tuple"/\o.dict=none/\o.data=.seq its n/\its.size<=sizeLine/\aD xs its.toList
def O8:Value->Option V
 | .none=>some .Qo
 | .bool b=>some (.bl b)
 | .int i _=>some (.int i)
 | .str x _=>some (.str x)
 | .bytes b _=>some (.WK b)
 | .float b _=>some (.WL b)
 | .ref a=>some (.ref a)
 | .type n=>some (.ty n)
 | _=>none
def RelV.abs(r:RelV x u):O8 u=some x:=by
 cases x with
 | Qo=>cases r;rfl
 | bl _=>cases r;rfl
 | int _=>let⟨t,rfl⟩:=r;rfl
 | str _=>let⟨t,rfl⟩:=r;rfl
 | WK _=>let⟨t,rfl⟩:=r;rfl
 | WL _=>let⟨t,rfl⟩:=r;rfl
 | ref _=>cases r;rfl
 | ty _=>cases r;rfl
def RelV.inj(r:RelV x u)(q:RelV y u):x=y:=yZ (r.abs.symm.trans q.abs)
def aD.inj:∀ {xs ys:List V}{us:List Value},aD xs us->aD ys us->xs=ys
 | _,_,_,.nil,.nil=>rfl
 | _,_,_,.cons r t,.cons r' t'=>by rw[r.inj r',aD.inj t t']
def dM.of{K:W.Frag}(h:H a=some (.lst xs)):dM K H a xs:=.inl (.inl h)
def Inv.list(I:Inv X pins σ H s)(h:dM X.K H a xs):∃its:List Value,aD xs its/\PlainL s.heap a its.toArray/\xs.length<=sizeLine:=by
 rcases h with h|⟨o,its,n,hk,hc,hd,hs,hz,r⟩
 ·let⟨z,its,n,r,e⟩:=h.ok I.Qt;exact⟨its,r,⟨_,n,e,rfl,rfl,rfl⟩,z⟩
 ·refine⟨its.toList,r,⟨o,n,I.RW a o hk,hc,hd,by simpa using hs⟩,?_⟩;have e:=r.length;simp?[vH] at e;lia
def Inv.tuple(I:Inv X pins σ H s)(h:fU X.K H a xs):∃its:List Value,aD xs its/\IsTup s.heap a its.toArray/\xs.length<=sizeLine:=by
 rcases h with h|⟨o,its,n,hk,hc,_,hs,hz,r⟩
 ·let⟨z,its,r,p⟩:=h.ok I.Qt;exact⟨its,r,p.1,z⟩
 ·refine⟨its.toList,r,⟨o,I.RW a o hk,hc,n,by simpa using hs⟩,?_⟩;have e:=r.length;simp?[vH] at e;lia
def Inv.RI(I:Inv X pins σ H s)(h:dM X.K H a xs)(h':dM X.K H a ys):xs=ys:=by
 let⟨its,r,⟨o,n,e,_,_,d⟩,_⟩:=I.list h;let⟨its',r',⟨o',n',e',_,_,d'⟩,_⟩:=I.list h';rw[e] at e';cases e';rw[d] at d';injection d' with d1 _
 have:its=its':=by simpa using qX Array.toList d1
 subst this;exact r.inj r'
def Inv.Rv(I:Inv X pins σ H s)(h:fU X.K H a xs)(h':fU X.K H a ys):xs=ys:=by
 let⟨its,r,⟨o,e,_,n,d⟩,_⟩:=I.tuple h;let⟨its',r',⟨o',e',_,n',d'⟩,_⟩:=I.tuple h';rw[e] at e';cases e';rw[d] at d';injection d' with d1 _
 have:its=its':=by simpa using qX Array.toList d1
 subst this;exact r.inj r'
abbrev Cx.Qx(X:Cx)(E:Value->Shared->Prop):Cx:={ X with xe:=E }
abbrev Cx.QF(X:Cx):Cx:=X.Qx λ_ _=>False
def Cx.Ok.Qx{X:Cx}(ok:X.Ok)(E:Value->Shared->Prop):(X.Qx E).Ok :=
 ⟨ok.mod,ok.kind,ok.glob,ok.blt,ok.above,ok.inj,ok.has,ok.Uz,ok.hd,ok.frames,ok.Sa,ok.Uc,ok.bs,ok.Tz,ok.RF,ok.RG,ok.Q3,ok.Ud⟩
def Cx.Ok.Qw{X:Cx}{E:Value->Shared->Prop}(ok:(X.Qx E).Ok):X.Ok :=
 ⟨ok.mod,ok.kind,ok.glob,ok.blt,ok.above,ok.inj,ok.has,ok.Uz,ok.hd,ok.frames,ok.Sa,ok.Uc,ok.bs,ok.Tz,ok.RF,ok.RG,ok.Q3,ok.Ud⟩
def Inv.Qx(I:Inv X pins σ H s)(E:Value->Shared->Prop):Inv (X.Qx E) pins σ H s:=⟨I.ok.Qx E,I.os,I.bare,I.base,I.loc,I.cell,I.free,I.QE,I.pin,I.Qt,I.len⟩
def Inv.Qw(I:Inv (X.Qx E) pins σ H s):Inv X pins σ H s:=⟨I.ok.Qw,I.os,I.bare,I.base,I.loc,I.cell,I.free,I.QE,I.pin,I.Qt,I.len⟩
def SP.Qw{D:Ends}(h:SP (X.Qx E) pins D f s'):SP X pins D f s':=by
 cases f with
 | next=>let⟨σ',H',I,q⟩:=h;exact⟨σ',H',I.Qw,q⟩
 | brk=>let⟨σ',H',I,q⟩:=h;exact⟨σ',H',I.Qw,q⟩
 | cont=>let⟨σ',H',I,q⟩:=h;exact⟨σ',H',I.Qw,q⟩
 | ret u=>let⟨v,σ',H',I,r,q⟩:=h;exact⟨v,σ',H',I.Qw,r,q⟩
def PE.QF(h:PE X.QF e t):PE X e t:=λpins s σ H Q I hw =>
 yW (h pins s σ H Q (I.Qx _) hw) (λ_ _ ⟨v,H',I',r,q⟩=>⟨v,H',I'.Qw,r,q⟩) λ_ _ z=>False.elim z
def PT.QF(h:PT X.QF e t):PT X e t:=λpins s σ H Q I hw =>
 yW (h pins s σ H Q (I.Qx _) hw) (λ_ _ ⟨H',I',q⟩=>⟨H',I'.Qw,q⟩) λ_ _ z=>False.elim z
def uE.QF{st:List Stmt}(h:uE X.QF st t):uE X st t:=λpins s σ H D I hw =>
 yW (h pins s σ H D (I.Qx _) hw) (λ_ _ q=>q.Qw) λ_ _ z=>False.elim z
section
variable {st:Stmt}{rest:List Stmt}
def CZ:TS:=λD σ H=>D.nx σ H
def N3(t u:TS):TS:=λD σ H=>t { D with nx:=u D } σ H
def mR:uE X [] CZ:=λ_ _ σ H _ I h=>kU ⟨σ,H,I,h⟩
def ib(h1:PS X st t)(h2:uE X rest u):uE X (st::rest) (N3 t u):=by
 intro pins s σ H D I h;refine wpAny_execs_cons (bg (h1 pins s σ H { D with nx:=u D } I h) λf s1 q=>?_);cases f with
 | next =>
  let⟨σ',H',I',q⟩:=q;exact h2 pins s1 σ' H' D I' q
 | ret v=>exact q
 | brk=>exact q
 | cont=>exact q
def FQ(h1:PS X st t):uE X [st] t:=by
 intro pins s σ H D I h;refine wpAny_execs_cons (bg (h1 pins s σ H D I h) λf s1 q=>?_);cases f with
 | next=>exact kU q
 | ret v=>exact q
 | brk=>exact q
 | cont=>exact q
def FY:PS X (.Pass pos) CZ:=λ_ _ σ H _ I h=>wpAny_Pass ⟨σ,H,I,h⟩
def Inv.quiet(I:Inv X pins σ H s):interactive X.env=false:=by simp[interactive,I.ok.kind]
def K8{x j pos pos'}:PS X (.Expr (.Constant (.str x) j pos) pos') CZ:=λ_ s σ H _ I h=>wpAny_Expr (vL (show SP X _ _ .next { s with toks:=s.toks+1 } from ⟨σ,H,I.tok _,h⟩)) I.quiet
def ML(te:TE):TS:=λD σ H=>te σ H λ_ H1=>D.nx σ H1
def iT(he:PE X e te)(hs:swapsWith e none pos.line X.env=pure false:=by rfl):PS X (.Expr e pos) (ML te):=by
 intro pins s σ H D I h;exact wpAny_Expr_any (bg (he pins s σ H _ I h) λv s1 ⟨x,H1,I1,r1,q1⟩=>⟨σ,H1,I1,q1⟩) I.quiet hs
def Ol(te:TE):TS:=λD σ H=>te σ H D.rt
def vg(he:PE X e te):PS X (.Return (some e) pos) (Ol te):=by
 intro pins s σ H D I h;exact wpAny_Return_some (bg (he pins s σ H _ I h) λv s1 ⟨x,H1,I1,r1,q1⟩=>⟨x,σ,H1,I1,r1,q1⟩)
def OV(c:TT)(t u:TS):TS:=λD σ H=>c σ H λb H1=>if b=true then t D σ H1 else u D σ H1
def EJ(hc:PT X c tc)(ha:uE X a t)(hb:uE X b u):PS X (.If c a b pos) (OV tc t u):=by
 intro pins s σ H D I h;refine wpAny_If (bg (hc pins s σ H _ I h) λd s1 ⟨H1,I1,q1⟩=>?_);cases d with
 | true=>exact ha pins s1 σ H1 D I1 q1
 | false=>exact hb pins s1 σ H1 D I1 q1
end
abbrev TG:=V->St->Hp->(St->Hp->Prop)->Prop
abbrev M4:=List V->St->Hp->(St->Hp->Prop)->Prop
def PG(X:Cx)(target:Expr)(t:TG):Prop :=
 ∀ (pins:List (Addr×Obj)) (s:Shared) (σ:St) (H:Hp) (v:V) (u:Value) (Q:St->Hp->Prop),Inv X pins σ H s->RelV v u->t v σ H Q ->
  wpAny (model X.prog X.w) X.A (assign target X.env u) (λ_ s'=>∃σ' H',Inv X pins σ' H' s'/\Q σ' H') X.xe s
def NA(X:Cx)(ts:List Expr)(t:M4):Prop :=
 ∀ (pins:List (Addr×Obj)) (s:Shared) (σ:St) (H:Hp) (vs:List V) (us:List Value) (Q:St->Hp->Prop),Inv X pins σ H s->aD vs us->t vs σ H Q ->
  wpAny (model X.prog X.w) X.A (assignInOrder ((assignEach ts X.env).map (·.2)) us) (λ_ s'=>∃σ' H',Inv X pins σ' H' s'/\Q σ' H') X.xe s
abbrev M0:=V->V->V->Hp->(Hp->Prop)->Prop
def M6(X:Cx)(t:M0):Prop :=
 ∀ (pins:List (Addr×Obj)) (s:Shared) (σ:St) (H:Hp) (o i v:V) (ov iv u:Value) (Q:Hp->Prop),Inv X pins σ H s->RelV o ov->RelV i iv->RelV v u->t o i v H Q ->
  wpAny (model X.prog X.w) X.A (setItem ov iv u) (λ_ s'=>∃H',Inv X pins σ H' s'/\Q H') X.xe s
def sR(i:Nat):TG:=λv σ H Q=>Q (σ.set i (some v)) H
def cQ(hN:X.N.Nodup)(hi:X.N[i]?=some x)(hx:Loc X.env.scope x)(hf:X.fn x=true\/X.env.scope.names.lookup x=some .local:=by first|exact .inl rfl|exact .inr rfl|assumption):PG X (.Name x pos) (sR i):=by
 intro pins s σ H v u Q I r h;exact wpAny_assign_Name (ur I hN hi hx r (λs' I'=>⟨_,H,I',h⟩) hf)
def Oa:M4:=λvs σ H Q=>vs=[]/\Q σ H
def MC(t:TG)(u:M4):M4:=λvs σ H Q=>∃v r,vs=v::r/\t v σ H λσ' H'=>u r σ' H' Q
def la:NA X [] Oa:=by
 intro pins s σ H vs us Q I r h;let⟨e,h⟩:=h;subst e;cases r;exact assignInOrder_nil ⟨σ,H,I,h⟩
def cv(h1:PG X e t)(h2:NA X es u)
  (hs:(assignEach (e::es) X.env).map (·.2)=assign e X.env::(assignEach es X.env).map (·.2):=by rfl):NA X (e::es) (MC t u):=by
 intro pins s σ H vs us Q I r h;let⟨v,vr,e1,h⟩:=h;subst e1;cases r with
 | cons r rr =>
  rw[hs];refine assignInOrder_cons (bg (h1 pins s σ H _ _ _ I r h) λ_ s1 ⟨Ve,H1,I1,q1⟩=>?_);exact h2 pins s1 Ve H1 _ _ Q I1 rr q1
def OF(K:W.Frag)(n:Nat)(t:M4):TG:=λv σ H Q=>∃a xs,v=.ref a/\fU K H a xs/\xs.length=n/\t xs σ H Q
def oo{k:Nat}(hc:X.calm=true)(h:NA X es t)
  (hn:(assignEach es X.env).length=n:=by rfl) (RB:(assignEach es X.env).findIdx? (·.1)=none:=by rfl):PG X (.Tuple es k pos) (OF X.K n t):=by
 intro pins s σ H v u Q I r hw;let⟨a,xs,e1,hq,hl,hw⟩:=hw;subst e1;cases r;let⟨its,rv,ht,hz⟩:=I.tuple hq;refine assign_Tuple_tuple (I.ok.hd hc) ht (by simp[hn,<- hl,rv.length]) RB λh' hx=>?_;have I1:Inv X pins σ H { s with heap:=h' }:=I.kept (t':=s.toks) λb o e=>hx b o (yN (zV e)) e;exact h pins _ σ H xs _ Q I1 (by simpa using rv) hw
def mO(to ti:TE)(t:M0):TG:=λv σ H Q=>to σ H λo H1=>ti σ H1 λi H2=>t o i v H2 λH3=>Q σ H3
def IW(ho:PE X o to)(hi:PE X i ti)(hs:M6 X t)
  (ha:∀v,assign (.Subscript o i pos) X.env v=(do
   let ov <- holding [v] (eval o X.env)
   let iv <- holding [v,ov] (eval i X.env)
   standAt pos
   holding [v,ov,iv] (setItem ov iv v)
   release [v,ov,iv] []):=by intro _;rfl):PG X (.Subscript o i pos) (mO to ti t):=by
 intro pins s σ H v u Q I r h;rw[ha];refine zS (xU (bg (ho pins s σ H _ I h) λov s1 ⟨x,H1,I1,r1,q1⟩=>?_));refine zS (xU (bg (hi pins s1 σ H1 _ I1 q1) λiv s2 ⟨y,H2,I2,r2,q2⟩=>?_));refine zS (kK (zS (xU (bg (hs pins s2 σ H2 x y v ov iv u _ I2 r1 r2 r q2) λ_ s3 ⟨H3,I3,q3⟩=>?_))));exact wpAny_release ⟨σ,H3,I3,q3⟩
def Cr(te:TE)(g:TG):TS:=λD σ H=>te σ H λx H1=>g x σ H1 D.nx
def Kd(he:PE X e te)(hg:PG X tg g)(hs:swapsWithSole [tg] e pos.line X.env=pure false:=by rfl)(hw:swappedStores [tg] e X.env=pure none:=by rfl)
  (h1:(assignEach [tg] X.env).map (·.2)=[assign tg X.env]:=by rfl):PS X (.Assign [tg] e pos) (Cr te g):=by
 intro pins s σ H D I h;refine wpAny_Assign_stores (bg (he pins s σ H _ I h) λv s1 ⟨x,H1,I1,r1,q1⟩=>?_) hs hw;rw[h1];exact bg (hg pins s1 σ H1 x v _ I1 r1 q1) λ_ s2 q=>q
def oF(hN:X.N.Nodup)(hi:X.N[i]?=some x)(hx:Loc X.env.scope x)(he:PE X e te)(hs:swapsWith e (some (.Name x pos')) pos.line X.env=pure false:=by rfl)(hf:X.fn x=true\/X.env.scope.names.lookup x=some .local:=by first|exact .inl rfl|exact .inr rfl|assumption) :
  PS X (.Assign [.Name x pos'] e pos) (Cr te (sR i)):=by
 intro pins s σ H D I h;refine wpAny_Assign_Name (bg (he pins s σ H _ I h) λv s1 ⟨y,H1,I1,r1,q1⟩=>?_) hs;exact ur I1 hN hi hx r1 (λs2 I2=>⟨_,H1,I2,q1⟩) hf
def JT(c:TT)(tb:TS):TS:=λD σ H=>∃W:Nat->St->Hp->Prop,(∃m,W m σ H)/\∀m σ H,W m σ H ->
 c σ H λb H1=>if b=true then ∃N:St->Hp->Prop,(∀σ' H',N σ' H'->∃m',m' < m/\W m' σ' H')/\tb { D with nx:=N,ct:=N,bk:=D.nx } σ H1 else D.nx σ H1
def ED(hp:PassesOwn (model X.prog X.w) X.A X.env X.xe)(hc:PT X c tc)(hb:uE X body tb):PS X (.While c body [] pos) (JT tc tb):=by
 intro pins s σ H D I h;let⟨W,⟨m0,w0⟩,turn⟩:=h;refine wpAny_While (codeAny_whileLoop (λn s'=>∃σ' H',Inv X pins σ' H' s'/\W n σ' H') ?_ m0 ⟨σ,H,I,w0⟩);rintro n s1 ⟨Ve,H1,I1,w1⟩;refine jE hp (bg (hc pins s1 Ve H1 _ I1 (turn n Ve H1 w1)) λb s2 ⟨H2,I2,q2⟩=>?_);cases b with
 | true =>
  let⟨N,hN,q2⟩:=q2;rw[yH rfl];refine jE hp (bg (hb pins s2 Ve H2 _ I2 q2) λf s3 q3=>?_);cases f with
  | next =>
   let⟨RY,H3,I3,n3⟩:=q3;let⟨m',hm,w3⟩:=hN RY H3 n3;exact⟨m',hm,RY,H3,I3,w3⟩
  | cont =>
   let⟨RY,H3,I3,n3⟩:=q3;let⟨m',hm,w3⟩:=hN RY H3 n3;exact⟨m',hm,RY,H3,I3,w3⟩
  | brk=>exact q3
  | ret v=>exact q3
 | false =>
  rw[yJ yV];exact kU ⟨Ve,H2,I2,q2⟩
structure It where
 go:Nat->Hp->Prop
 Tp:Nat->Hp->V->Hp->Prop
 stop:Nat->Hp->Prop
def d9(X:Cx)(pins:List (Addr×Obj))(H:Hp)(b:Addr):Prop :=
 H b=none/\b≠X.env.locals/\b∉X.fs/\(b∈X.ex\/X.Qz.heap.objs.size<=b)/\(∀x c,X.env.cells.lookup x=some c->c≠b)/\∀p∈X.pn++pins,p.1≠b
def Inv.Rm(I:Inv X pins σ H s)(hb:s.heap.objs.size<=b)(hn:H' b=none):d9 X pins H' b:=by
 refine⟨hn,jC (zP I.lt hb),I.WO hb,.inr (yA I.sz hb),λx c e z=>?_,λp hp z=>?_⟩
 ·let⟨v,q⟩:=I.cell x c e;exact absurd (zP q.lt (by rw[z];exact hb)) (qB _)
 ·exact absurd (zP (zV (I.pin p hp).1) (by rw[z];exact hb)) (qB _)
structure Turn(P:Program)(w:World)(K:W.Frag)(tg:Expr)(J:It)(fp:List Addr)(it:Addr)(tn:Nat->Heap->Prop):Prop where
 mem:it∈fp
 obj:∀i h,tn i h->∀b∈fp,∃o,h.get? b=some o/\∀v,o.data≠.cell v
 keep:∀i h h',tn i h->(∀b∈fp,∀o,h.get? b=some o->h'.get? b=some o)->tn i h'
 item:∀ (X:Cx),X.prog=P->X.w=w->X.K=K->X.calm=true->∀ (i:Nat) (pins:List (Addr×Obj)) (s:Shared) (σ:St) (H:Hp) (E:Value->Shared->Prop),Inv X pins σ H s->(∀b∈fp,d9 X pins H b)->tn i s.heap->J.go i H ->
  wpAny (model P w) X.A (pyNext (.ref it)) (λr s1=>∃u,r=some u /\
   wpAny (model P w) X.A (letOwnedTupleGo tg (.ref it) u) (λ_ s2=>∃x H',Inv X pins σ H' s2/\RelV x u/\J.Tp i H x H'/\tn (i+1) s2.heap/\∀b∈fp,H' b=none) E s1) E s
 done:∀ (X:Cx),X.prog=P->X.w=w->X.K=K->X.calm=true->∀ (i:Nat) (pins:List (Addr×Obj)) (s:Shared) (σ:St) (H:Hp) (E:Value->Shared->Prop),Inv X pins σ H s->(∀b∈fp,d9 X pins H b)->tn i s.heap->J.stop i H ->
  wpAny (model P w) X.A (pyNext (.ref it)) (λr s1=>r=none/\Inv X pins σ H s1) E s
 self:∀ (A:Around) (i:Nat) (s:Shared) (Q:Value->Shared->Prop) (E:Value->Shared->Prop),tn i s.heap->Q (.ref it) s->wpAny (model P w) A (pyIter (.ref it)) Q E s
abbrev TI:=St->Hp->(It->Hp->Prop)->Prop
def NW(X:Cx)(pins:List (Addr×Obj))(σ:St)(tg:Expr)(R:It->Hp->Prop)(Vt:Value)(s2:Shared):Prop :=
 ∃ (it:Addr) (fp:List Addr) (tn:Nat->Heap->Prop) (J:It) (H':Hp),Vt=.ref it/\Inv X pins σ H' s2/\Turn X.prog X.w X.K tg J fp it tn/\tn 0 s2.heap/\(∀b∈fp,d9 X pins H' b)/\R J H'
def PI(X:Cx)(tg iter:Expr)(wi:TI):Prop :=
 ∀ (pins:List (Addr×Obj)) (s:Shared) (σ:St) (H:Hp) (R:It->Hp->Prop),Inv X pins σ H s->wi σ H R ->
  wpAny (model X.prog X.w) X.A (eval iter X.env) (λv s1=>wpAny (model X.prog X.w) X.A (pyIter v) (NW X pins σ tg R) X.xe s1) X.xe s
def xw(ho:s.heap.get? it=some o)(hc:o.cls=.type n)(hd:o.data=.fields vs)
  (hn:["enumerate","zip","dict_itemiterator","dict_reverseitemiterator","odict_iterator","itertools.zip_longest","itertools.pairwise"].contains n=false) (hQ:Q () s):wpAny M A (letOwnedTupleGo tg (.ref it) u) Q E s:=by
 unfold letOwnedTupleGo;cases tg<;>first
  | exact zT hQ
  | (cases u<;>first
    | exact zT hQ
    | (refine zS (wpAny_load ho ?_)
       rw[hc,hd];show wpAny M A (if (["enumerate","zip","dict_itemiterator","dict_reverseitemiterator","odict_iterator","itertools.zip_longest","itertools.pairwise"].contains n&&vs[0]? == some (rawInt _))=true then _ else _) Q E s;rw[yJ (by intro h;rw[hn,vD] at h;cases h)];exact zT hQ))
def Nz(K:W.Frag)(a:Addr):It :=
 ⟨λi H=>∃xs x,dM K H a xs/\xs[i]?=some x,λi H x H'=>H'=H/\∀xs,dM K H a xs->xs[i]?=some x,λi H=>∃xs,dM K H a xs/\xs.length<=i⟩
def NJ(K:W.Frag)(a:Addr):It :=
 ⟨λi H=>∃xs x,fU K H a xs/\xs[i]?=some x,λi H x H'=>H'=H/\∀xs,fU K H a xs->xs[i]?=some x,λi H=>∃xs,fU K H a xs/\xs.length<=i⟩
def NG(lo:Int)(n:Nat):It:=⟨λi _=>i < n,λi H x H'=>H'=H/\x=.int (lo+i),λi _=>n<=i⟩
def pW{K:W.Frag}(a it:Addr):Turn P w K tg (Nz K a) [it] it (λi h=>h.IsListIter it a i) where
 mem:=by simp
 obj:=λi h st b hb=>by
  have e:b=it:=by simpa using hb
  subst e;let⟨o,e,c,d⟩:=st;exact⟨o,e,λv z=>by rw[d] at z;cases z⟩
 keep:=λi h h' st k=>st.at λo e=>k it (by simp) o e
 item:=by
  intro X hP hw hK hc i pins s σ H E I hf st hg;subst hP hw hK;let⟨xs,x,hq,hx⟩:=hg;let⟨its,rv,p,hz⟩:=I.list hq;let⟨u,hu,ru⟩:=rv.get hx;let⟨f0,f1,f2,f3,f4,f5⟩:=hf it (by simp);refine wpAny_pyNext_list_item st p.isList (x:=u) (by simpa using hu) λh' Rn sb=>?_;have I1:Inv X pins σ H { s with heap:=h' }:=I.turned (t':=s.toks) (λb o hb e=>(sb.2 b hb).trans e) f0 f1 f3 f4 f5;let⟨o,e,c,d⟩:=id Rn;exact⟨u,rfl,xw (s:={ s with heap:=h' }) e c d (by decide) ⟨x,H,I1,ru,⟨rfl,λys hy=>by rw[I.RI hy hq];exact hx⟩,Rn,λb hb=>(hf b hb).1⟩⟩
 done:=by
  intro X hP hw hK hc i pins s σ H E I hf st hg;subst hP hw hK;let⟨xs,hq,hx⟩:=hg;let⟨its,rv,p,hz⟩:=I.list hq;let⟨f0,f1,f2,f3,f4,f5⟩:=hf it (by simp);have hl:=rv.length;exact wpAny_pyNext_list_end (I.ok.hd hc) st p.isList (by simp;lia) λh' eb=>⟨rfl,I.turned (t':=s.toks) (λb o hb e=>eb b o hb e) f0 f1 f3 f4 f5⟩
 self:=λ_ _ _ _ _ st h=>wpAny_pyIter_listiter st h
def oz{K:W.Frag}(a it:Addr):Turn P w K tg (NJ K a) [it] it (λi h=>h.IsTupleIter it a i) where
 mem:=by simp
 obj:=λi h st b hb=>by
  have e:b=it:=by simpa using hb
  subst e;let⟨o,e,c,d⟩:=st;exact⟨o,e,λv z=>by rw[d] at z;cases z⟩
 keep:=λi h h' st k=>st.at λo e=>k it (by simp) o e
 item:=by
  intro X hP hw hK hc i pins s σ H E I hf st hg;subst hP hw hK;let⟨xs,x,hq,hx⟩:=hg;let⟨its,rv,p,hz⟩:=I.tuple hq;let⟨u,hu,ru⟩:=rv.get hx;let⟨f0,f1,f2,f3,f4,f5⟩:=hf it (by simp);refine wpAny_pyNext_tuple_item st (show s.heap.IsTuple a its.toArray from p) (x:=u) (by simpa using hu) λh' Rn sb=>?_;have I1:Inv X pins σ H { s with heap:=h' }:=I.turned (t':=s.toks) (λb o hb e=>(sb.2 b hb).trans e) f0 f1 f3 f4 f5;let⟨o,e,c,d⟩:=id Rn;exact⟨u,rfl,xw (s:={ s with heap:=h' }) e c d (by decide) ⟨x,H,I1,ru,⟨rfl,λys hy=>by rw[I.Rv hy hq];exact hx⟩,Rn,λb hb=>(hf b hb).1⟩⟩
 done:=by
  intro X hP hw hK hc i pins s σ H E I hf st hg;subst hP hw hK;let⟨xs,hq,hx⟩:=hg;let⟨its,rv,p,hz⟩:=I.tuple hq;let⟨f0,f1,f2,f3,f4,f5⟩:=hf it (by simp);have hl:=rv.length;exact wpAny_pyNext_tuple_end (I.ok.hd hc) st (show s.heap.IsTuple a its.toArray from p) (by simp;lia) λh' eb=>⟨rfl,I.turned (t':=s.toks) (λb o hb e=>eb b o hb e) f0 f1 f3 f4 f5⟩
 self:=λ_ _ _ _ _ st h=>wpAny_pyIter_tupleiter st h
def vS{K:W.Frag}(it:Addr)(lo:Int)(n:Nat):Turn P w K tg (NG lo n) [it] it (λi h=>IsRangeIter h it (lo+(i:Nat) * 1) ((n:Int) - (i:Nat)) 1) where
 mem:=by simp
 obj:=λi h st b hb=>by
  have e:b=it:=by simpa using hb
  subst e;exact⟨_,st,λv z=>by
   have z':Data.fields _=Data.cell v:=z;cases z'⟩
 keep:=λi h h' st k=>k it (by simp) _ st
 item:=by
  intro X hP hw hK hc i pins s σ H E I hf st hg;subst hP hw hK;let⟨f0,f1,f2,f3,f4,f5⟩:=hf it (by simp);have W:=Walks.range (prog:=X.prog) (w:=X.w) (I.ok.hd hc) it lo 1 n;refine W.item i s _ _ hg st λv h' tk hv Rn kk=>?_;let⟨t,rfl⟩:=hv;have I1:Inv X pins σ H { s with heap:=h',toks:=tk }:=I.turned (λb o hb e=>kk b o (by simpa using hb) e) f0 f1 f3 f4 f5;refine⟨_,rfl,xw (s:={ s with heap:=h',toks:=tk }) (n:="range_iterator") Rn rfl rfl (by decide) ⟨.int (lo+i),H,I1,⟨t,?_⟩,⟨rfl,rfl⟩,Rn,λb hb=>(hf b hb).1⟩⟩;rw[Int.mul_one]
 done:=by
  intro X hP hw hK hc i pins s σ H E I hf st hg;subst hP hw hK;let⟨f0,f1,f2,f3,f4,f5⟩:=hf it (by simp);exact wpAny_pyNext_range_end (I.ok.hd hc) st (by have:n<=i:=hg;lia) λh' eb=>⟨rfl,I.turned (t':=s.toks) (λb o hb e=>eb b o hb e) f0 f1 f3 f4 f5⟩
 self:=λ_ _ _ _ _ st h=>wpAny_pyIter_rangeiter st h
def BV{lo:Int}{t u v:Tok}{tk:Nat}(I:Inv X pins σ H s)(h1:-(2 ^ 62)<=lo)(h2:lo < 2 ^ 62)(h3:-(2 ^ 62)<=hi)(h4:hi < 2 ^ 62)
  (q:R (NG lo (hi - lo).toNat) H):wpAny (model X.prog X.w) X.A (pyIter (.ref s.heap.objs.size)) (NW X pins σ tg R) E { s with heap:=s.heap.push { cls:=.type "range",data:=.fields #[.int lo t,.int hi u,.int 1 v] },toks:=tk }:=by
 refine wpAny_pyIter_range (IsRange.new ..) (small_one h1 h2 h3 h4) ?_;have I1:Inv X pins σ H { s with heap:=s.heap.push { cls:=.type "range",data:=.fields #[.int lo t,.int hi u,.int 1 v] },toks:=tk }:=I.kept λb o e=>zR _ e;refine⟨(s.heap.push { cls:=.type "range",data:=.fields #[.int lo t,.int hi u,.int 1 v] }).objs.size,[(s.heap.push { cls:=.type "range",data:=.fields #[.int lo t,.int hi u,.int 1 v] }).objs.size],_,_,H,rfl,
  I1.kept (t':=tk) λb o e=>zR _ e,vS _ lo (hi - lo).toNat,?_,λb hb=>?_,q⟩
 ·have e1:lo+((0:Nat):Int) * 1=lo:=by simp
  have e2:(((hi - lo).toNat:Nat):Int) - ((0:Nat):Int)=Builtin.Range.rangeSize lo hi 1:=by rw[rangeSize_one];split<;>lia
  show IsRangeIter _ _ (lo+((0:Nat):Int) * 1) ((((hi - lo).toNat:Nat):Int) - ((0:Nat):Int)) 1;rw[e1,e2];exact zU _ rfl
 ·have e:b=(s.heap.push { cls:=.type "range",data:=.fields #[.int lo t,.int hi u,.int 1 v] }).objs.size:=by simpa using hb
  subst e;exact I1.Rm (yI _) (I1.Qt.fresh (yI _))
def Mb(ta:TA):TI:=λσ H R=>ta σ H λvs H1=>∃j:Int,vs=[.int j]/\-(2 ^ 62)<=j/\j < 2 ^ 62/\R (NG 0 j.toNat) H1
def BD(hg:Gl X "range")(hm:X.mg "range"=none)(ha:PA X [a] ta)(hs:starEach [a] X.env=[(false,eval a X.env)]:=by rfl):PI X tg (.Call (.Name "range" p) [a] [] pos) (Mb ta):=by
 intro pins s σ H R I h;refine Call_ (gR I hg hm boot_range (qN (bg (ha pos pins s σ H _ I h) λus s1 ⟨vs,H1,I1,r1,q1⟩=>?_) hs rfl));let⟨j,e,q1,q2,q⟩:=q1;subst e;cases r1 with
 | cons r rr =>
  cases rr;let⟨t,rfl⟩:=r;exact call_range_1 (BV I1 (by lia) (by lia) q1 q2 (by simpa using q))
def OJ(wi:TI)(g:TG)(tb:TS):TS:=λD σ H=>wi σ H λJ H1=>∃W:Nat->Nat->St->Hp->Prop,(∃m,W 0 m σ H1)/\∀i m σ H,W i m σ H ->
 (J.stop i H/\D.nx σ H)\/(J.go i H/\∃N:St->Hp->Prop,(∀σ' H',N σ' H'->∃m',m' < m/\W (i+1) m' σ' H')/\∀x H',J.Tp i H x H'->g x σ H' λRZ H2=>tb { D with nx:=N,ct:=N,bk:=D.nx } RZ H2)
def l6(fp:List Addr)(h:Heap):List (Addr×Obj):=fp.filterMap λb=>(h.get? b).map λo=>(b,o)
def dC(hb:b∈fp)(e:h.get? b=some o):(b,o)∈l6 fp h:=List.mem_filterMap.mpr ⟨b,hb,by rw[e];rfl⟩
def AW(hp:p∈l6 fp h):p.1∈fp/\h.get? p.1=some p.2:=by
 let⟨b,hb,e⟩:=List.mem_filterMap.mp hp;cases q:h.get? b with
 | none=>rw[q] at e;cases e
 | some o =>
  rw[q] at e;have e':(b,o)=p:=yZ e;subst e';exact⟨hb,q⟩
def Inv.pinned(I:Inv X pins σ H s)(hf:∀b∈fp,d9 X pins H b)(ho:∀b∈fp,∃o,s.heap.get? b=some o/\∀v,o.data≠.cell v):Inv X (pins++l6 fp s.heap) σ H s :=
 I.Rx λp hp=>(List.mem_append.mp hp).elim (λz=>I.pin p (yB _ z)) λz=>by
  let⟨hb,e⟩:=AW z;let⟨f0,f1,f2,_⟩:=hf p.1 hb;let⟨o,e',d⟩:=ho p.1 hb;rw[e] at e';cases e';exact⟨e,f0,f1,f2,d⟩
def Inv.QP(I:Inv X (pins++pl) σ H s):Inv X pins σ H s:=I.Rx λp hp=>I.pin p (yB _ (qF _ hp))
def Ks{pos:Pos}(hp:PassesOwn (model X.prog X.w) X.A X.env X.xe)(hc:X.calm=true)(hi:PI X tg iter wi)(hg:PG X tg g)(hb:uE X body tb)
  (hs:∀x,foldedSetIterable iter X.env x=pure x:=by intro _;rfl):PS X (.For tg iter body [] pos) (OJ wi g tb):=by
 intro pins s σ H D I h;refine wpAny_For (bg (hi pins s σ H _ I h) λv s1 h1=>bg h1 λVt s2 h2=>?_) hs;let⟨it,fp,tn,J,H2,e,I2,T,SI,f2,W,⟨m0,w0⟩,turn⟩:=h2;subst e;have UA:∀ {H':Hp},(∀b∈fp,H' b=none)->∀b∈fp,d9 X pins H' b:=λhn b hb=>⟨hn b hb,(f2 b hb).2⟩
 refine codeAny_forLoop_any (λn s'=>∃i σ' H',Inv X pins σ' H' s'/\tn i s'.heap/\(∀b∈fp,H' b=none)/\W i n σ' H') ?_ m0 ⟨0,σ,H2,I2,SI,λb hb=>(f2 b hb).1,w0⟩;rintro n s3 ⟨i,RY,H3,I3,SJ,YE,w3⟩;rcases turn i n RY H3 w3 with ⟨stop,qn⟩|⟨go,N,hN,step⟩
 ·refine jE hp (bg (T.done X rfl rfl rfl hc i pins s3 RY H3 X.xe I3 (UA YE) SJ stop) λr s4 ⟨hr,I4⟩=>?_);subst hr;exact kU ⟨RY,H3,I4,qn⟩
 ·refine jE hp (bg (T.item X rfl rfl rfl hc i pins s3 RY H3 X.xe I3 (UA YE) SJ go) λr s4 ⟨u,hr,h4⟩=>?_);subst hr;refine jE hp (bg h4 λ_ s5 ⟨x,H5,I5,r5,y5,TH,UB⟩=>?_);have ZC:=I5.pinned (UA UB) (T.obj _ _ TH);refine jE hp (bg (hg _ s5 RY H5 x u _ ZC r5 (step x H5 y5)) λ_ s6 ⟨ZD,H6,I6,q6⟩=>?_);refine jE hp (bg (hb _ s6 ZD H6 _ I6 q6) λf s7 q7=>?_);have again:∀ {SO:St}{H7:Hp},Inv X (pins++l6 fp s5.heap) SO H7 s7->N SO H7->∃m,m < n/\∃i σ' H',Inv X pins σ' H' s7/\tn i s7.heap/\(∀b∈fp,H' b=none)/\W i m σ' H':=λ{SO H7} I7 n7=>by
   let⟨m',hm,w7⟩:=hN SO H7 n7;refine⟨m',hm,i+1,SO,H7,I7.QP,T.keep _ _ _ TH λb hb o e=>(I7.pin (b,o) (yB _ (yB _ (dC hb e)))).1,λb hb=>?_,w7⟩;let⟨o,e,d⟩:=T.obj _ _ TH b hb;exact (I7.pin (b,o) (yB _ (yB _ (dC hb e)))).2.1
  cases f with
  | next=>let⟨SO,H7,I7,n7⟩:=q7;exact again I7 n7
  | cont=>let⟨SO,H7,I7,n7⟩:=q7;exact again I7 n7
  | brk=>let⟨SO,H7,I7,q7⟩:=q7;exact⟨SO,H7,I7.QP,q7⟩
  | ret v=>let⟨x7,SO,H7,I7,r7,q7⟩:=q7;exact⟨x7,SO,H7,I7.QP,r7,q7⟩
abbrev R2:=V->V->Hp->VK->Prop
def eZ(X:Cx)(f:Value->Value->Sem Value)(r:R2):Prop :=
 ∀ (pins:List (Addr×Obj)) (s:Shared) (σ:St) (H:Hp) (x y:V) (v u:Value) (Q:VK),Inv X pins σ H s->RelV x v->RelV y u->r x y H Q ->
  wpAny (model X.prog X.w) X.A (f v u) (EP X pins σ Q) X.xe s
def O3(X:Cx)(f:Value->Sem Value)(r:V->Hp->VK->Prop):Prop :=
 ∀ (pins:List (Addr×Obj)) (s:Shared) (σ:St) (H:Hp) (x:V) (v:Value) (Q:VK),Inv X pins σ H s->RelV x v->r x H Q ->
  wpAny (model X.prog X.w) X.A (f v) (EP X pins σ Q) X.xe s
def dc(X:Cx)(f:Value)(r:List V->Hp->VK->Prop):Prop :=
 ∀ (pins:List (Addr×Obj)) (s:Shared) (σ:St) (H:Hp) (xs:List V) (us:List Value) (Q:VK),Inv X pins σ H s->aD xs us->r xs H Q ->
  wpAny (model X.prog X.w) X.A (call f us) (EP X pins σ Q) X.xe s
def Mh(r:R2)(ta tb:TE):TE:=λσ H Q=>ta σ H λx H1=>tb σ H1 λy H2=>r x y H2 Q
def P9(r:V->Hp->VK->Prop)(ta:TE):TE:=λσ H Q=>ta σ H λx H1=>r x H1 Q
def rI(C:Int->Int->Prop)(g:Int->Int->V):R2:=λx y H Q=>∃i j,x=.int i/\y=.int j/\C i j/\Q (g i j) H
def FB(g:Int->Int->V):R2:=λx y H Q=>∃i j,x=.int i/\y=.int j/\Q (g i j) H
def rU(g:Int->V):V->Hp->VK->Prop:=λx H Q=>∃i,x=.int i/\Q (g i) H
def Lh(ha:PE X a ta)(hb:PE X b tb){pins:List (Addr×Obj)}{σ:St}{R:V->V->Hp->Prop}(I:Inv X pins σ H s)
  (h:ta σ H λx H1=>tb σ H1 λy H2=>R x y H2) {Q:Value->Shared->Prop}{f:Value->Value->Sem Value}
  (hf:∀v u s2 x y H2,Inv X pins σ H2 s2->RelV x v->RelV y u->R x y H2->wpAny (model X.prog X.w) X.A (f v u) Q X.xe s2) :
  wpAny (model X.prog X.w) X.A (eval a X.env) (λv Qs=>wpAny (model X.prog X.w) X.A (eval b X.env) (λu R0=>wpAny (model X.prog X.w) X.A (f v u) Q X.xe R0) X.xe Qs) X.xe s:=by
 refine bg (ha pins s σ H _ I h) λv s1 ⟨x,H1,I1,r1,q1⟩=>?_;refine bg (hb pins s1 σ H1 _ I1 q1) λu s2 ⟨y,H2,I2,r2,q2⟩=>?_;exact hf v u s2 x y H2 I2 r1 r2 q2
def BK(ho:eZ X (binaryOp op) r)(ha:PE X a ta)(hb:PE X b tb):PE X (.BinOp a op b pos) (Mh r ta tb):=by
 intro pins s σ H Q I h;exact wpAny_BinOp (Lh ha hb I h λv u s2 x y H2 I2 rx ry q=>ho pins s2 σ H2 x y v u Q I2 rx ry q)
def Em(ho:O3 X (unaryOp op) r)(ha:PE X a ta):PE X (.UnaryOp op a pos) (P9 r ta):=by
 intro pins s σ H Q I h;exact UnaryOp_ (bg (ha pins s σ H _ I h) λv s1 ⟨x,H1,I1,r1,q1⟩=>ho pins s1 σ H1 x v Q I1 r1 q1)
def Oz{f:Value->Value->Sem Value}{C:Int->Int->Prop}{g:Int->Int->Int}
  (rule:∀ (i j:Int) (t u:Tok) (s:Shared) (Q:Value->Shared->Prop) (E:Value->Shared->Prop),C i j->Q (.int (g i j) s.toks) { s with toks:=s.toks+1 }->wpAny (model X.prog X.w) X.A (f (.int i t) (.int j u)) Q E s) :
  eZ X f (rI C λi j=>.int (g i j)):=by
 intro pins s σ H x y v u Q I rx ry h;let⟨i,j,rfl,rfl,hc,q⟩:=h;let⟨t,rfl⟩:=rx;let⟨t',rfl⟩:=ry;exact rule i j t t' s _ _ hc ⟨.int (g i j),H,I.tok _,⟨_,rfl⟩,q⟩
def MF{f:Value->Value->Sem Value}{g:Int->Int->Int}
  (rule:∀ (i j:Int) (t u:Tok) (s:Shared) (Q:Value->Shared->Prop) (E:Value->Shared->Prop),Q (.int (g i j) s.toks) { s with toks:=s.toks+1 }->wpAny (model X.prog X.w) X.A (f (.int i t) (.int j u)) Q E s) :
  eZ X f (FB λi j=>.int (g i j)):=by
 intro pins s σ H x y v u Q I rx ry h;let⟨i,j,rfl,rfl,q⟩:=h;let⟨t,rfl⟩:=rx;let⟨t',rfl⟩:=ry;exact rule i j t t' s _ _ ⟨.int (g i j),H,I.tok _,⟨_,rfl⟩,q⟩
def LH{f:Value->Value->Sem Value}{g:Int->Int->Bool}
  (rule:∀ (i j:Int) (t u:Tok) (s:Shared) (Q:Value->Shared->Prop) (E:Value->Shared->Prop),Q (.bool (g i j)) s->wpAny (model X.prog X.w) X.A (f (.int i t) (.int j u)) Q E s) :
  eZ X f (FB λi j=>.bl (g i j)):=by
 intro pins s σ H x y v u Q I rx ry h;let⟨i,j,rfl,rfl,q⟩:=h;let⟨t,rfl⟩:=rx;let⟨t',rfl⟩:=ry;exact rule i j t t' s _ _ ⟨.bl (g i j),H,I,rfl,q⟩
def F5(i j:Int):Prop:=0 < j/\j < 1073741824
def rQ(i j:Int):Prop:=(-(2 ^ 64) < i/\i < 2 ^ 64)\/(-(2 ^ 64) < j/\j < 2 ^ 64)
def rQ.ok(h:rQ i j):IntMulOk i j:=by
 rcases h with ⟨h1,h2⟩|⟨h1,h2⟩
 ·exact .of_left (intBits_le_64 h1 h2)
 ·exact .of_right (intBits_le_64 h1 h2)
def Kq:eZ X (binaryOp .Add) (FB λi j=>.int (i+j)):=MF λ_ _ _ _ _ _ _ q=>add_int q
def Jg:eZ X (binaryOp .Sub) (FB λi j=>.int (i - j)):=MF λ_ _ _ _ _ _ _ q=>sub_int q
def Jc:eZ X (binaryOp .Mult) (rI rQ λi j=>.int (i * j)):=Oz λ_ _ _ _ _ _ _ hc q=>mul_int q hc.ok
def Hy:eZ X (binaryOp .FloorDiv) (rI F5 λi j=>.int (i / j)):=Oz λi j _ _ _ _ _ hc q=>by
 have h1:(0:Int) < j:=hc.1;have h2:j < 1073741824:=hc.2;exact floordiv_int (by lia) (by rw[Int.fdiv_eq_ediv_of_nonneg i (by lia)];exact q) (.inl (PyProof.noPylong_small (by lia)))
def Jw:eZ X (binaryOp .Mod) (rI (λ_ j=>0 < j) λi j=>.int (i % j)):=Oz λi j _ _ _ _ _ hc q=>by
 have h1:(0:Int) < j:=hc;exact mod_int' (by lia) (by rw[Int.fmod_eq_emod_of_nonneg i (by lia)];exact q)
def Py{f:Value->Sem Value}{g:Int->Int}
  (rule:∀ (i:Int) (t:Tok) (s:Shared) (Q:Value->Shared->Prop) (E:Value->Shared->Prop),Q (.int (g i) s.toks) { s with toks:=s.toks+1 }->wpAny (model X.prog X.w) X.A (f (.int i t)) Q E s) :
  O3 X f (rU λi=>.int (g i)):=by
 intro pins s σ H x v Q I rx h;let⟨i,rfl,q⟩:=h;let⟨t,rfl⟩:=rx;exact rule i t s _ _ ⟨.int (g i),H,I.tok _,⟨_,rfl⟩,q⟩
def vq:O3 X (unaryOp .USub) (rU λi=>.int (-i)):=Py λ_ _ _ _ _ q=>neg_int q
def rh(I:Inv X pins σ H s)(q:Q (.bl k) H)(e:k=k'):EP X pins σ Q (.bool k') s:=by
 subst e;exact⟨.bl k,H,I,rfl,q⟩
def Er:eZ X (compareOp .Lt) (FB λi j=>.bl (decide (i < j))):=LH λ_ _ _ _ _ _ _ q=>lt_int q
def BP:eZ X (compareOp .LtE) (FB λi j=>.bl (decide (i<=j))):=LH λ_ _ _ _ _ _ _ q=>le_int q
def Ih:eZ X (compareOp .Gt) (FB λi j=>.bl (decide (j < i))):=LH λ_ _ _ _ _ _ _ q=>gt_int q
def AE:eZ X (compareOp .In) (λx y H Q=>∃i j,x=.str i/\y=.str j/\Q (.bl (!(Builtin.Str.occurrences j i 0 j.length 1).isEmpty)) H):=by
 intro pins s σ H x y v u Q I rx ry h;let⟨i,j,rfl,rfl,q⟩:=h;let⟨t,rfl⟩:=rx;let⟨t',rfl⟩:=ry;exact in_str (rh I q rfl)
def BN:eZ X (compareOp .Is) (λx y H Q=>y=.Qo/\Q (.bl (decide (x=.Qo))) H):=by
 intro pins s σ H x y v u Q I rx ry h;let⟨rfl,q⟩:=h;cases ry;refine is_none_gen (rh I q ?_);cases x<;>first
  | (cases rx;rfl)
  | (let⟨t,rfl⟩:=rx;rfl)
def yu:eZ X (compareOp .IsNot) (λx y H Q=>y=.Qo/\Q (.bl (!decide (x=.Qo))) H):=by
 intro pins s σ H x y v u Q I rx ry h;let⟨rfl,q⟩:=h;cases ry;refine isnot_none_gen (rh I q ?_);cases x<;>first
  | (cases rx;rfl)
  | (let⟨t,rfl⟩:=rx;rfl)
def r9:eZ X (compareOp .NotIn) (λx y H Q=>∃i j,x=.str i/\y=.str j/\Q (.bl (!(!(Builtin.Str.occurrences j i 0 j.length 1).isEmpty))) H):=by
 intro pins s σ H x y v u Q I rx ry h;let⟨i,j,rfl,rfl,q⟩:=h;let⟨t,rfl⟩:=rx;let⟨t',rfl⟩:=ry;exact notIn_str (rh I q rfl)
def isObj:HO->Bool
 | .lst _=>true
 | .ins _ _ _=>true
 | _=>false
def pC(I:Inv X pins σ H s)(h:H a=some o)(p:isObj o=true):∃ob,s.heap.get? a=some ob/\ob.cls≠.type "tuple":=by
 cases o with
 | lst xs =>
  obtain⟨_,its,n,_,e⟩:xs.length<=sizeLine/\∃ (its:List Value) (n:Nat),aD xs its/\s.heap.get? a=some { cls:=.type "list",data:=.seq its.toArray n }:=I.Qt a _ h;exact⟨_,e,(by show Value.type "list"≠.type "tuple";decide +kernel)⟩
 | ins C dx fs =>
  have x:=I.Qt a _ h;let⟨_,_,_,e,_⟩:=x;exact⟨_,e,(by show Value.ref C≠.type "tuple";exactλz=>by cases z)⟩
 | _=>exact absurd (show false=true from p) yV
def eZ.or(h:eZ X f r)(h':eZ X f r'):eZ X f (λx y H Q=>r x y H Q\/r' x y H Q):=by
 intro pins s σ H x y v u Q I rx ry q;rcases q with q|q
 ·exact h pins s σ H x y v u Q I rx ry q
 ·exact h' pins s σ H x y v u Q I rx ry q
def dq(b:Expr)(h:op≠.In:=by decide)(h2:op≠.NotIn:=by decide):behindInMarks op b=false:=by
 have e1:(op == CmpOp.In)=false:=by cases op<;>first|rfl|exact absurd rfl h
 have e2:(op == CmpOp.NotIn)=false:=by cases op<;>first|rfl|exact absurd rfl h2
 cases b<;>simp[behindInMarks,e1,e2]
def Hg(ho:eZ X (compareOp op) r)(ha:PE X a ta)(hb:PE X b tb)(hm:behindInMarks op b=false):PE X (.Compare a [op] [b] pos) (Mh r ta tb):=by
 intro pins s σ H Q I h;exact wpAny_Compare1 (Lh ha hb I h λv u s2 x y H2 I2 rx ry q=>ho pins s2 σ H2 x y v u Q I2 rx ry q) hm
def Il(t:TE):TT:=λσ H Q=>t σ H λx H'=>∃k,x=.bl k/\Q k H'
def yt(ho:eZ X (compareOp op) r)(ha:PE X a ta)(hb:PE X b tb)(hm:behindInMarks op b=false):PT X (.Compare a [op] [b] pos) (Il (Mh r ta tb)):=by
 intro pins s σ H Q I h;refine wpAny_isTrue_Compare1 (bg (ha pins s σ H _ I h) λv s1 ⟨x,H1,I1,r1,q1⟩=>bg (hb pins s1 σ H1 _ I1 q1) λu s2 ⟨y,H2,I2,r2,q2⟩ =>
  bg (ho pins s2 σ H2 x y v u _ I2 r1 r2 q2) λc s3 ⟨z,H3,I3,r3,k,e,q3⟩=>?_) hm
 subst e;cases r3;exact xS ⟨H3,I3,q3⟩
def vf(r r':R2)(ta tb tc:TE):TE:=λσ H Q=>ta σ H λx H1=>tb σ H1 λy H2=>r x y H2 λz H3=>∃k,z=.bl k /\
 (if k=true then tc σ H3 λw' H4=>r' y w' H4 Q else Q (.bl false) H3)
def DH(ho:eZ X (compareOp op) r)(Rl:eZ X (compareOp Sd) r')(ha:PE X a ta)(hb:PE X b tb)(hc:PE X c tc)
  (hm:lastMarks [op,Sd] [b,c]=false:=by with_unfolding_all rfl):PE X (.Compare a [op,Sd] [b,c] pos) (vf r r' ta tb tc):=by
 intro pins s σ H Q I h;refine Compare_chain (bg (ha pins s σ H _ I h) λv s1 ⟨x,H1,I1,r1,q1⟩=>chain_link (bg (hb pins s1 σ H1 _ I1 q1) λu s2 ⟨y,H2,I2,r2,q2⟩ =>
  bg (ho pins s2 σ H2 x y v u _ I2 r1 r2 q2) λd s3 ⟨z,H3,I3,r3,k,e,q3⟩=>?_)) hm
 subst e;cases r3;refine xS ?_;cases k with
 | false=>exact ite_ff ⟨.bl false,H3,I3,rfl,q3⟩
 | true=>exact ite_tt (chain_last (bg (hc pins s3 σ H3 _ I3 q3) λw' s4 ⟨z',H4,I4,r4,q4⟩=>Rl pins s4 σ H4 y z' u w' Q I4 r2 r4 q4))
def D3(ho:eZ X (compareOp op) r)(Rl:eZ X (compareOp Sd) r')(ha:PE X a ta)(hb:PE X b tb)(hc:PE X c tc)
  (hm:lastMarks [op,Sd] [b,c]=false:=by with_unfolding_all rfl):PT X (.Compare a [op,Sd] [b,c] pos) (Il (vf r r' ta tb tc)):=by
 intro pins s σ H Q I h;refine isTrue_chain (bg (ha pins s σ H _ I h) λv s1 ⟨x,H1,I1,r1,q1⟩=>test_link (bg (hb pins s1 σ H1 _ I1 q1) λu s2 ⟨y,H2,I2,r2,q2⟩ =>
  bg (ho pins s2 σ H2 x y v u _ I2 r1 r2 q2) λd s3 ⟨z,H3,I3,r3,k,e,q3⟩=>?_)) hm
 subst e;cases r3;refine xS ?_;cases k with
 | false =>
  let⟨k',e',q'⟩:=q3;cases e';exact ite_ff ⟨H3,I3,q'⟩
 | true =>
  refine ite_tt (test_last (bg (hc pins s3 σ H3 _ I3 q3) λw' s4 ⟨z',H4,I4,r4,q4⟩=>bg (Rl pins s4 σ H4 y z' u w' _ I4 r2 r4 q4) λd' s5 ⟨z2,H5,I5,r5,k2,e2,q5⟩=>?_));subst e2;cases r5;exact xS ⟨H5,I5,q5⟩
def lU:(sizeLine:Nat) < 2 ^ 63:=by rw[sizeLine_eq];decide
def vn:eZ X (binaryOp .Add) (λx y H Q=>∃i j,x=.str i/\y=.str j/\i.length+j.length<=sizeLine/\Q (.str (i++j)) H):=by
 intro pins s σ H x y v u Q I rx ry h;let⟨i,j,rfl,rfl,hz,q⟩:=h;let⟨t,rfl⟩:=rx;let⟨t',rfl⟩:=ry;exact add_str (λt' tk=>⟨.str (i++j),H,I.tok _,⟨_,rfl⟩,q⟩) hz
def vals1(r:aD [x] us):∃u,us=[u]/\RelV x u:=by
 cases r with
 | cons r1 r2=>cases r2;exact⟨_,rfl,r1⟩
def vals2(r:aD [x,y] us):∃u w',us=[u,w']/\RelV x u/\RelV y w':=by
 cases r with
 | cons r1 r2 =>
  cases r2 with
  | cons r3 r4=>cases r4;exact⟨_,_,rfl,r1,r3⟩
section
variable {K:W.Frag}
end
structure gK(k:Nat)(A:Around):Prop where
 hd:A.handled=none
 dp:A.depth+3 * k+5 < recursionLimit
 un:A.units+16 * k+200 < cLine
def gK.mono(r:gK k A)(h:j<=k):gK j A:=⟨r.hd,by have:=r.dp;lia,by have:=r.un;lia⟩
def gK.deeper(r:gK (k+1) A)(env:Env):gK k (A.deeper env) :=
 ⟨r.hd,by have:=r.dp;show A.depth+1+3 * k+5 < _;lia,by have:=r.un;show A.units+3+16 * k+200 < _;lia⟩
def gK.depth(r:gK k A):A.depth < recursionLimit:=by have:=r.dp;lia
def gK.units(r:gK k A):A.units+64 < cLine:=by have:=r.un;lia
def N9:TA:=λ_ H Q=>Q [] H
def Mt(ta:TE)(tr:TA):TA:=λσ H Q=>ta σ H λx H1=>tr σ H1 λxs H2=>Q (x::xs) H2
def cy:PA X [] N9:=λ_ _ _ _ H Q I h=>jU ⟨[],H,I,.nil,h⟩
def aW(ha:PE X e te)(hr:PA X es t)(hs:starEach (e::es) X.env=(false,eval e X.env)::starEach es X.env:=by rfl):PA X (e::es) (Mt te t):=by
 intro pos pins s σ H Q I h;rw[hs];show wpAny _ _ (spliced ((false,eval e X.env)::backTo pos (starEach es X.env))) _ _ s;refine jD (bg (ha pins s σ H _ I h) λu s1 ⟨x,H1,I1,r1,q1⟩=>?_);exact bg (hr pos pins s1 σ H1 _ I1 q1) λus s2 ⟨xs,H2,I2,r2,q2⟩=>⟨x::xs,H2,I2,.cons r1 r2,q2⟩
def Om(t:TA):TE:=λσ H Q=>t σ H λxs H1=>xs.length<=sizeLine/\∀p,H1 p=none->Q (.ref p) (upd H1 p (.tup xs))
def NT(t:TA):TE:=λσ H Q=>t σ H λxs H1=>xs.length<=sizeLine/\∀p,H1 p=none->Q (.ref p) (upd H1 p (.lst xs))
def Cs{x1}(h:PA X es t):PE X (.Tuple es x1 pos) (Om t):=by
 intro pins s σ H Q I hq;refine wpAny_Tuple_spliced (bg (h pos pins s σ H _ I hq) λus s1 ⟨xs,H1,I1,r,z,q⟩=>⟨by rw[<- r.length];exact z,?_⟩);have hf:H1 s1.heap.objs.size=none:=I1.Qt.fresh (yI _);refine⟨.ref s1.heap.objs.size,upd H1 s1.heap.objs.size (.tup xs),I1.laid (t':=s1.toks) (λb u e=>zR _ e) (yI _) ?_,rfl,q _ hf⟩;exact⟨z,us,r,⟨_,zU _ rfl,rfl,_,rfl⟩,_,zU _ rfl,rfl⟩
def sd(h:PA X es t):PE X (.List es pos) (NT t):=by
 intro pins s σ H Q I hq;refine wpAny_List_spliced (bg (h pos pins s σ H _ I hq) λus s1 ⟨xs,H1,I1,r,z,q⟩=>⟨by rw[<- r.length];exact z,?_⟩);have hf:H1 s1.heap.objs.size=none:=I1.Qt.fresh (yI _);refine⟨.ref s1.heap.objs.size,upd H1 s1.heap.objs.size (.lst xs),I1.laid (t':=s1.toks) (λb u e=>zR _ e) (yI _) ?_,rfl,q _ hf⟩;exact⟨z,us,0,r,zU _ rfl⟩
abbrev Sp:=List V->Hp->VK->XK->Prop
abbrev Fx:=List Env->Hp->Shared->XK->Value->Shared->Prop
structure Gq(P:Program)(w:World)(K:W.Frag)(mg:Str->Option Value)(base:Heap)(A:Around)(outer:List Env)(s:Shared)(H:Hp):Prop where
 frames:A.frames=some outer
 mod:Mod K mg base
 bs:∀b o,base.get? b=some o->s.heap.get? b=some o/\H b=none
 Tz:base.objs.size<=s.heap.objs.size
 Q3:s.heap.FunFrames base outer
 Ud:∀b∈dZ outer,H b=none
 Qt:lW P w H s.heap
 bare:AllBare s.gens
def CE(outer:List Env)(P:Program)(w:World)(H:Hp)(s:Shared)(Q:VK)(u:Value)(s':Shared):Prop :=
 ∃v H',s'.os=s.os/\AllBare s'.gens/\Un (dZ outer) [] H H' s.heap s'.heap/\lW P w H' s'.heap/\RelV v u/\Q v H'
def CR(CX:Fx)(outer:List Env)(P:Program)(w:World)(H:Hp)(s:Shared)(Q:VK)(E:XK)(r:Result)(s':Shared):Prop :=
 match r with
 | .ok (.ret u)=>CE outer P w H s Q u s'
 | .ok _=>False
 | .error e=>CX outer H s E e s'
structure mH(P:Program)(w:World)(K:W.Frag)(mg:Str->Option Value)(base:Heap)(CX:Fx)(k:Nat)(f:Addr)(fd:FuncData)(ps:List Str)(sp:Sp):Prop where
 len:∀vs H Q E,sp vs H Q E->vs.length=ps.length
 run:∀ (A:Around) (outer:List Env) (s:Shared) (H:Hp) (args:Args) (us:List Value) (vs:List V) (Q:VK) (E:XK),gK k A->Gq P w K mg base A outer s H->BindsTo s fd args (ps.zip us)->aD vs us->sp vs H Q E ->
  codeAny (model P w) A (.call (.ref f) args) (CR CX outer P w H s Q E) s
def mH.mono{K:W.Frag}(F:mH P w K mg base CX j f fd ps sp)(h:j<=k) :
  mH P w K mg base CX k f fd ps sp:=⟨F.len,λA outer s H args us vs Q E hr=>F.run A outer s H args us vs Q E (hr.mono h)⟩
def Inv.WT(I:Inv X pins σ H s):Gq X.prog X.w X.K X.mg X.base X.A X.stack s H :=
 ⟨I.ok.frames,I.ok.mod,I.bs,yA I.ok.Tz I.sz,I.stack,I.Rh,I.Qt,I.bare⟩
def Inv.after(I:Inv X pins σ H s)(h:CE X.stack X.prog X.w H s Q u s'):EP X pins σ Q u s':=by
 let⟨v,H',os,bare,un,Qt,r,q⟩:=h;let⟨hh,g,d,t,WU⟩:=s';obtain rfl:WU=s.os:=os;exact⟨v,H',I.call (h':=hh) (g':=g) (d':=d) (t':=t) (ch:=[]) un Qt bare (λb z=>absurd z (by simp)),r,q⟩
def Mq(sp:Sp)(UC:List V)(E:XK)(t:TA):TE:=λσ H Q=>t σ H λvs H1=>sp (vs++UC) H1 Q E
def Binds(K:W.Frag)(fd:FuncData)(ps:List Str)(ds:List Value):Prop :=
 ∀ (s:Shared) (us:List Value),K.In s.heap->(us++ds).length=ps.length->BindsTo s fd ⟨us,[]⟩ (ps.zip (us++ds))
def Binds.all{K:W.Frag}(h:∀us:List Value,us.length=ps.length->bindArgs fd ⟨us,[]⟩=pure (ps.zip us)):Binds K fd ps []:=λs us _ hl=>by
 rw[qC] at hl ⊢;exact .of_eq (h us hl)
def cA(CX:Fx)(X:Cx)(E:XK):Prop:=∀ (pins:List (Addr×Obj)) (σ:St) (H:Hp) (s:Shared) (e:Value) (s':Shared),Inv X pins σ H s->CX X.stack H s E e s'->X.xe e s'
def LG(F:mH X.prog X.w X.K X.mg X.base CX k f fd ps sp)(hr:gK k X.A)(hb:Binds X.K fd ps ds)(hd:aD UC ds)(hx:cA CX X E)
  (I:Inv X pins σ H s) (r:aD vs us) (h:sp (vs++UC) H Q E):wpAny (model X.prog X.w) X.A (call (.ref f) us) (EP X pins σ Q) X.xe s:=by
 have r2:aD (vs++UC) (us++ds):=r.append hd;have hl:(us++ds).length=ps.length:=by rw[<- r2.length];exact F.len _ _ _ _ h
 refine wpAny_call (jK (F.run X.A X.stack s H ⟨us,[]⟩ (us++ds) (vs++UC) Q E hr I.WT (hb s us I.RW hl) r2 h) λr s' hq=>?_);cases r with
 | error e=>exact hx pins σ H s e s' I hq
 | ok fl =>
  cases fl with
  | ret u=>exact I.after hq
  | next=>exact False.elim hq
  | brk=>exact False.elim hq
  | cont=>exact False.elim hq
def yl(F:mH X.prog X.w X.K X.mg X.base CX k f fd ps sp)(hr:gK k X.A)(hg:Gl X x)(hm:X.mg x=some (.ref f))(hk:W.keepIn X.K (.ref f)=true)(hb:Binds X.K fd ps ds)(hd:aD UC ds)(hx:cA CX X E)
  (ha:PA X (e::es) t) (QR:(x == ("__debug__":Str))=false:=by decide) (he:starEach (e::es) X.env=(false,eval e X.env)::starEach es X.env:=by rfl) (Rb:(backTo pos (starEach es X.env)).any (·.1)=false:=by rfl) :
  PE X (.Call (.Name x p) (e::es) [] pos) (Mq sp UC E t):=by
 intro pins s σ H Q I h;refine qT (lA I hg hm ?_ QR);refine W.callWith_K (h₀:=X.base) I.ok.mod.Wh hk (bg (ha pos pins s σ H _ I h) λus s1 ⟨vs,H1,I1,r,q⟩=>⟨I1.RW,?_⟩) he Rb;exact LG F hr hb hd hx I1 r q
structure cO(N P:List Str)(sc:Scope):Prop where
 kind:sc.kind=.function
 co:sc.isCoroutine=false
 gen:sc.isGenerator=false
 nd:N.Nodup
 pre:N.take P.length=P
 par:∀x∈P,sc.names.lookup x=some .local \/ sc.names.lookup x=some .cell
 UD:∀y∈sc.names,y.2≠.free
def pX{kindOf:Str->Option NameKind}:∀ {binds:List (Str×Value)}{m:Str->Option Value},(∀v,(x,v)∉binds)->bindL kindOf binds m x=m x
 | [],_,_=>rfl
 | (n,v)::r,m,h=>by
  unfold bindL;rw[pX λw hw=>h w (zC _ hw)];split
  ·have:x≠n:=by rintro rfl;exact h v zE
   simp[this]
  ·rfl
def qd{kindOf:Str->Option NameKind}:∀ {binds:List (Str×Value)}{m:Str->Option Value},(∀v,(x,v)∉binds)->bindC kindOf binds m x=m x
 | [],_,_=>rfl
 | (n,v)::r,m,h=>by
  unfold bindC;rw[qd λw hw=>h w (zC _ hw)];split
  ·rfl
  ·have:x≠n:=by rintro rfl;exact h v zE
   simp[this]
def pE{kindOf:Str->Option NameKind}:∀ {P:List Str}{vs:List Value}{i:Nat}{m:Str->Option Value},P.Nodup->P[i]?=some x->vs[i]?=some v->kindOf x=some .local ->
  bindL kindOf (P.zip vs) m x=some v
 | [],_,_,_,_,h,_,_=>by simp at h
 | _::_,[],_,_,_,_,h,_=>by simp at h
 | p::P,w::vs,0,m,nd,h1,h2,hk=>by
  simp at h1 h2;subst h1;subst h2;show bindL kindOf ((p,w)::P.zip vs) m p=_;unfold bindL;rw[pX λv hv=>(List.nodup_cons.mp nd).1 (kX hv).1,yH hk];simp
 | p::P,w::vs,i+1,m,nd,h1,h2,hk=>by
  show bindL kindOf ((p,w)::P.zip vs) m x=_;unfold bindL;exact pE (i:=i) (List.nodup_cons.mp nd).2 (by simpa using h1) (by simpa using h2) hk
def qb{kindOf:Str->Option NameKind}:∀ {P:List Str}{vs:List Value}{i:Nat}{m:Str->Option Value},P.Nodup->P[i]?=some x->vs[i]?=some v->kindOf x≠some .local ->
  bindC kindOf (P.zip vs) m x=some v
 | [],_,_,_,_,h,_,_=>by simp at h
 | _::_,[],_,_,_,_,h,_=>by simp at h
 | p::P,w::vs,0,m,nd,h1,h2,hk=>by
  simp at h1 h2;subst h1;subst h2;show bindC kindOf ((p,w)::P.zip vs) m p=_;unfold bindC;rw[qd λv hv=>(List.nodup_cons.mp nd).1 (kX hv).1,yJ hk];simp
 | p::P,w::vs,i+1,m,nd,h1,h2,hk=>by
  show bindC kindOf ((p,w)::P.zip vs) m x=_;unfold bindC;exact qb (i:=i) (List.nodup_cons.mp nd).2 (by simpa using h1) (by simpa using h2) hk
def start(N:List Str)(vs:List V):St:=vs.map some++List.replicate (N.length - vs.length) none
def rH(CX:Fx)(P:Program)(w:World)(K:W.Frag)(mg:Str->Option Value)(base:Heap)(N:List Str)(qual:Str)(scope:Scope)(f:Addr)(cd:Value)(A:Around)(outer:List Env)(s:Shared)(H:Hp)(E:XK):Cx where
 prog:=P
 w:=w
 K:=K
 mg:=mg
 base:=base
 A:=A.deeper (envOfC qual scope s.heap.objs.size f cd)
 N:=N
 Qz:=s
 Qn:=H
 env:=envOfC qual scope s.heap.objs.size f cd
 outer:=outer
 stack:=envOfC qual scope s.heap.objs.size f cd::outer
 ex:=[]
 calm:=true
 fn:=λ_=>true
 pn:=[]
 xe:=λe s'=>wpAny (model P w) (A.deeper (envOfC qual scope s.heap.objs.size f cd)) (leaving (envOfC qual scope s.heap.objs.size f cd) e) (λ_ SQ=>CX outer H s E e SQ) (λe' SQ=>CX outer H s E e' SQ) s'
def nC{sc:Scope}{n:Nat}(h:sc.names.lookup x=some .cell):∃c,(cellsFrom n sc.names []).lookup x=some c:=by
 have q:=W.cellsFrom_some sc.names n [] (.inl h);exact Option.isSome_iff_exists.mp q
def A2{CX:Fx}{K:W.Frag}{mg:Str->Option Value}{ps:List Str}{scope:Scope}{cd:Value}{A:Around}{outer:List Env}{s:Shared}{E:XK}{us:List Value}{vs:List V}
  (S:cO N ps scope) (hd:A.handled=none) (e0:Gq P w K mg base A outer s H) (hl:vs.length=ps.length) (r:aD vs us)
  (x:InCallC s s.heap.objs.size (bindL (envOfC qual scope s.heap.objs.size f cd).kindOf (ps.zip us) λ_=>none) (cellsFrom (s.heap.objs.size+1) scope.names []) (bindC (envOfC qual scope s.heap.objs.size f cd).kindOf (ps.zip us) λ_=>none) s1) :
  Inv (rH CX P w K mg base N qual scope f cd A outer s H E) [] (start N vs) H s1:=by
 have Rb:ps.length<=N.length:=by have:=qX List.length S.pre;rw[jO] at this;lia
 let⟨h1,tk,rfl,hk⟩:=x.done;have Vf:∀b:Addr,b∉(rH CX P w K mg base N qual scope f cd A outer s H E).ex:=λb z=>absurd (show b∈([]:List Addr) from z) (by simp);refine⟨⟨e0.mod,S.kind,rfl,rfl,yI _,λy z c h1 h2=>?_,λy hy=>?_,λy c _ h=>?_,λ_=>hd,Around.frames_deeper e0.frames,.inr ⟨rfl,rfl⟩,λb z=>absurd z (Vf b),e0.bs,e0.Tz,λb _ _=>Vf b,λb z=>absurd z (Vf b),e0.Q3,e0.Ud⟩,
  rfl,e0.bare,Un.kept hk,⟨_,x.toInCall.ns,λi y v h1 h2 h3=>?_⟩,λy c h=>⟨_,x.cell y c h⟩,e0.Qt.fresh (yI _),λy c h=>?_,λp hp=>absurd (show p∈([]:List (Addr×Obj)) from hp) (by simp),e0.Qt.kept hk,?_⟩
 ·exact name_of_addr x.apart (jR h1) (jR h2)
 ·have hy:scope.names.lookup y=some .cell\/scope.names.lookup y=some .free:=hy;rcases hy with hy|hy
  ·exact nC hy
  ·exact absurd rfl (S.UD _ (jR hy))
 ·exact jL (x.above y c (jR h))
 ·have hi:i < vs.length:=by
   unfold start at h2;by_cases hi:i < vs.length
   ·exact hi
   ·rw[yP (by simpa using hi)] at h2;rw[yT] at h2;split at h2<;>cases h2
  have ha:vs[i]?=some v:=by
   unfold start at h2;rw[yO (by simpa using hi),zO] at h2;cases e:vs[i]? with
   | none=>rw[e] at h2;cases h2
   | some a=>rw[e] at h2;cases h2;rfl
  let⟨u,hu,rv⟩:=r.get ha;have hp:ps[i]?=some y:=by
   rw[<- S.pre,List.getElem?_take_of_lt (by lia)];exact h1
  have YF:ps.Nodup:=by rw[<- S.pre];exact S.nd.sublist (List.take_sublist _ _)
  refine⟨u,rv,?_⟩;rcases S.par y (xY hp) with k|k
  ·exact .inl ⟨k,pE YF hp hu k⟩
  ·let⟨c,e⟩:=nC (n:=s.heap.objs.size+1) k;refine .inr ⟨.inl k,c,e,?_⟩;have q:=x.cell y c e;rw[qb YF hp hu (by show scope.names.lookup y≠_;rw[k];decide)] at q;exact q
 ·exact e0.Qt.fresh (jL (x.above y c (jR h)))
 ·unfold start;show _=N.length;rw[zN,zD,xH];lia
def BS{K:W.Frag}{kV:Value}
  {SR:Array (Option Value)}{N ps:List Str}{sp:Sp}(lk:K.lookup f=some ⟨oc,od,.func (W.fnOf name qual params body scope dV kV doc pm an QU ct),SR⟩) (Q8:W.codeIn K QU qual=true) (S:cO N ps scope)
  (len:∀vs H Q E,sp vs H Q E->vs.length=ps.length)
  (Vu:∀ (A:Around) (outer:List Env) (s:Shared) (H:Hp) (vs:List V) (Q:VK) (E:XK),gK k (A.deeper (envOfC qual scope s.heap.objs.size f QU))->sp vs H Q E ->
   ∃t,uE (rH CX P w K mg base N qual scope f QU A outer s H E) body t/\t { nx:=λ_ H'=>Q .Qo H',rt:=Q } (start N vs) H) :
  mH P w K mg base CX (k+1) f (W.fnOf name qual params body scope dV kV doc pm an QU ct) ps sp:=by
 refine⟨len,λA outer s H args us vs Q E hr e0 hb r Vg=>?_⟩;have hl:=len _ _ _ _ Vg;have KX:K.In s.heap:=e0.mod.Wh.keeps λb o e=>(e0.bs b o e).1;have lim:s.heap.NoLimit:=e0.mod.nolimit.keeps λb o e=>(e0.bs b o e).1;have Vv:∀y∈ps.zip us,scope.names.lookup y.1=some .local \/ (scope.names.lookup y.1=some .cell/\((cellsFrom (s.heap.objs.size+1) scope.names []).lookup y.1).isSome=true):=λ⟨n,v⟩ hy=>by
  rcases S.par n (kX hy).1 with q|q
  ·exact .inl q
  ·exact .inr ⟨q,W.cellsFrom_some _ _ _ (.inl q)⟩
 refine codeAny_call_function hr.depth (KX _ _ lk) rfl S.co S.gen rfl (W.codeRec_of KX Q8) (hb _ _ _ _ ?_);refine wpAny_newFunctionEnv_cells S.kind Vv λenv he s1 x=>?_;subst he;refine⟨lim.keeps x.toInCall.keep,codeAny_func ?_⟩;let⟨t,ht,hq⟩:=Vu A outer s H vs Q E (hr.deeper _) Vg;have I:Inv (rH CX P w K mg base N qual scope f QU A outer s H E) [] (start N vs) H s1:=A2 S hr.hd e0 hl r x;refine yW (ht [] s1 (start N vs) H _ I hq) (λfl s' hs=>?_) λe s' hs=>hs;have fin:∀ {σ':St}{H':Hp}{v:V}{u:Value},Inv (rH CX P w K mg base N qual scope f QU A outer s H E) [] σ' H' s'->RelV v u->Q v H'->CE outer P w H s Q u s' :=
  λ{σ' H' v u} J rv q=>⟨v,H',J.os,J.bare,J.base,J.Qt,rv,q⟩
 cases fl with
 | ret u =>
  let⟨v,σ',H',J,rv,q⟩:=hs;exact fin J rv q
 | next =>
  let⟨σ',H',J,q⟩:=hs;exact fin (v:=V.Qo) (u:=Value.none) J rfl q
 | brk =>
  let⟨_,_,_,q⟩:=hs;exact False.elim q
 | cont =>
  let⟨_,_,_,q⟩:=hs;exact False.elim q
section
variable {id T:String}
def NK(r:List V->Hp->VK->Prop)(t:TA):TE:=λσ H Q=>t σ H λvs H1=>r vs H1 Q
def ly(hc:dc X (.builtin id) r)(hg:Gl X x)(hm:X.mg x=none)(hv:bootBuiltins x=some (.builtin id))(ha:PA X (e::es) t)(hn:x≠"__name__":=by decide)(QR:(x == ("__debug__":Str))=false:=by decide)
  (he:starEach (e::es) X.env=(false,eval e X.env)::starEach es X.env:=by rfl) (Rb:(backTo pos (starEach es X.env)).any (·.1)=false:=by rfl):PE X (.Call (.Name x p) (e::es) [] pos) (NK r t):=by
 intro pins s σ H Q I h;refine qT (gR I hg hm hv ?_ hn QR);exact PyProof.Rows.callWith_builtin1 (bg (ha pos pins s σ H _ I h) λus s1 ⟨vs,H1,I1,r1,q1⟩=>hc pins s1 σ H1 vs us Q I1 r1 q1) he Rb
def iZ(hc:dc X (.type T) r)(hg:Gl X x)(hm:X.mg x=none)(hv:bootBuiltins x=some (.type T))(ha:PA X (e::es) t)(hn:x≠"__name__":=by decide)(QR:(x == ("__debug__":Str))=false:=by decide)
  (he:starEach (e::es) X.env=(false,eval e X.env)::starEach es X.env:=by rfl) (Rb:(backTo pos (starEach es X.env)).any (·.1)=false:=by rfl):PE X (.Call (.Name x p) (e::es) [] pos) (NK r t):=by
 intro pins s σ H Q I h;refine qT (gR I hg hm hv ?_ hn QR);exact qN (bg (ha pos pins s σ H _ I h) λus s1 ⟨vs,H1,I1,r1,q1⟩=>hc pins s1 σ H1 vs us Q I1 r1 q1) he Rb
end
end L2
namespace HT
open PySem PyProof.Rows
def lexLt:List Int->List Int->Bool
 | [],[]=>false
 | [],_::_=>true
 | _::_,[]=>false
 | x::xs,y::ys=>if x=y then lexLt xs ys else decide (x < y)
def cG(x y:Int)(xs ys:List Int):lexLt (x::xs) (y::ys)=if x=y then lexLt xs ys else decide (x < y):=rfl
section
open PySem.SeqAt
open PySem.AutoSeq1 (wpAny_loadPart')
open PySem.MeetsSeq PySem.MeetsSeq2 PySem.MeetsSeq3
end
def GV(ht:IsTup s.heap t vs.toArray)(hb:IsTup s.heap b ws.toArray)(hv:vs≠[])
  (h1:ws=[]->Q (.ref t) s) (h2:ws≠[]->Q (.ref s.heap.objs.size) { s with heap:=s.heap.push { cls:=.type "tuple",data:=.seq (vs++ws).toArray } })
  (Se:vs.length+ws.length<=sizeLine):wpAny (model prog w) A (binaryOp .Add (.ref t) (.ref b)) Q E s:=by
 let⟨⟨cls,dd,data,sl⟩,ho,hc,n,hd⟩:=id ht;let⟨⟨Vw,Vh,data2,Tq⟩,Ts,Uh,n2,hd2⟩:=id hb;simp only at hc hd Uh hd2;subst hc hd Uh hd2;have e:vs.toArray++ws.toArray=(vs++ws).toArray:=by simp
 by_cases hw:ws=[]
 ·exact vN ⟨_,ho,rfl⟩ ⟨_,Ts,rfl⟩ noFill_tuple_add seq_tuple_add kR kM (kL _ _)
   (tuple_addW1 t b vs.toArray ws.toArray n n2 dd Vh sl Tq (by simpa using hv) (by simp[hw])) ⟨ho,Ts,h1 hw⟩
 ·refine vN ⟨_,ho,rfl⟩ ⟨_,Ts,rfl⟩ noFill_tuple_add seq_tuple_add kR kM (kL _ _)
   (tuple_addW2 t b vs.toArray ws.toArray n n2 dd Vh sl Tq (by simpa using hv) (by simpa using hw) (by rw[zH,zH];exact Se)) ⟨ho,Ts,?_⟩
  rw[e];exact h2 hw
def bB(n d:Nat):Option Int->Nat
 | none=>d
 | some v=>if v < 0 then (v+(n:Int)).toNat else min v.toNat n
def tI(n d:Nat):bB n d none=d:=rfl
def m4(n d k:Nat):bB n d (some (k:Int))=min k n:=by
 show (if (k:Int) < 0 then ((k:Int)+(n:Int)).toNat else min (k:Int).toNat n)=min k n;rw[yJ (by lia),yD]
def iy(n d:Nat)(hd:d<=n)(o:Option Int):bB n d o<=n:=by
 cases o with
 | none=>exact hd
 | some v =>
  show (if v < 0 then (v+(n:Int)).toNat else min v.toNat n)<=n;by_cases hv:v < 0
  ·rw[yH hv];lia
  ·rw[yJ hv];exact Nat.min_le_right _ _
def xx(v:Int)(n d:Nat):(if v < 0 then max (v+(n:Int)) 0 else min v (n:Int))=((bB n d (some v):Nat):Int):=by
 show (if v < 0 then max (v+(n:Int)) 0 else min v (n:Int))=(((if v < 0 then (v+(n:Int)).toNat else min v.toNat n):Nat):Int)
 by_cases hv:v < 0
 ·simp?[yH hv];lia
 ·simp?[yJ hv];lia
def vo(lo hi:Option Int)(n:Nat):Builtin.Slice.sliceAdjust lo hi 1 (n:Int)=(((bB n 0 lo:Nat):Int),((bB n n hi:Nat):Int)):=by
 have h1:¬ ((1:Int) < 0):=by lia
 unfold Builtin.Slice.sliceAdjust;simp?[h1,qL];refine Prod.ext ?_ ?_
 ·cases lo with
  | none=>rfl
  | some v=>exact xx v n 0
 ·cases hi with
  | none=>rfl
  | some v=>exact xx v n n
def wq(i j:Nat):Builtin.Slice.slicePlaces (i:Int) (j:Int) 1=j - i:=by
 unfold Builtin.Slice.slicePlaces;have h1:(1:Int) > 0:=by lia
 simp?[h1,xD,Int.ediv_one];split<;>lia
def oE(p:IsPart v o)(h:Q o s):wpAny (model prog w) A (Builtin.Slice.slicePartIndex v) Q E s:=by
 cases p with
 | none=>exact slicePart_none h
 | int i t=>exact slicePart_int h
def gh{vl:Value}{lo hi:Option Int}{n:Nat}{Q:Int×Int×Nat->Shared->Prop}(hs:s.heap.IsSliceOf sl vl vu .none)(pl:IsPart vl lo)(pu:IsPart vu hi)
  (h:Q (((bB n 0 lo:Nat):Int),1,bB n n hi - bB n 0 lo) s):wpAny (model prog w) A (Builtin.Slice.sliceApplied (.ref sl) (pure (n:Int))) Q E s:=by
 let⟨os,Sf,Vi,Sh⟩:=id hs;unfold Builtin.Slice.sliceApplied Builtin.Slice.sliceFields;refine zS (zS (qP Sf Sh (x:=vl) rfl (zS (qP Sf Sh (x:=vu) rfl (zS (qP Sf Sh (x:=.none) rfl (zT ?_)))))));refine zS (slicePart_none ?_);show wpAny _ _ (if ((1:Int) == 0)=true then _ else _) _ _ s;rw[yJ (by decide)];refine zS (oE pl (zS (oE pu (zS (zT ?_)))));show wpAny _ _ (match Builtin.Slice.sliceAdjust lo hi 1 (n:Int) with|(lo,hi)=>pure (lo,(1:Int),Builtin.Slice.slicePlaces lo hi 1)) _ _ s;rw[vo lo hi n];show wpAny _ _ (pure (((bB n 0 lo:Nat):Int),(1:Int),Builtin.Slice.slicePlaces ((bB n 0 lo:Nat):Int) ((bB n n hi:Nat):Int) 1)) _ _ s;rw[wq];exact zT h
def Dx(xs:Array Value)(i k:Nat):((List.range k).filterMap λ(m:Nat)=>xs[((i:Int)+(m:Int) * 1).toNat]?).toArray=((xs.toList.drop i).take k).toArray:=by
 have e:(λ(m:Nat)=>xs[((i:Int)+(m:Int) * 1).toNat]?)=λm=>xs[i+m]?:=by
  funext m;have:((i:Int)+(m:Int) * 1).toNat=i+m:=by lia
  rw[this]
 rw[e];have:=pick_run xs i k;rw[List.filterMap_map] at this;have e2:((λx=>xs[x]?) ∘ λx=>i+x)=λm=>xs[i+m]?:=rfl;rw[e2] at this;rw[this]
def ki{items:Array Value}{vl:Value}{lo:Option Int}(ht:IsTup s.heap t items)(hs:s.heap.IsSliceOf sl vl vu .none)(pl:IsPart vl lo)(pu:IsPart vu hi)
  (hw:¬ (bB items.size 0 lo=0/\bB items.size items.size hi=items.size))
  (h:Q (.ref s.heap.objs.size) { s with heap:=s.heap.push { cls:=.type "tuple",data:=.seq ((items.toList.drop (bB items.size 0 lo)).take (bB items.size items.size hi - bB items.size 0 lo)).toArray } })
  (Se:items.size<=sizeLine):wpAny (model prog w) A (getItem (.ref t) (.ref sl)) Q E s:=by
 have Si:sizeOk (.seq ((items.toList.drop (bB items.size 0 lo)).take (bB items.size items.size hi - bB items.size 0 lo)).toArray):=by
  show ((items.toList.drop (bB items.size 0 lo)).take (bB items.size items.size hi - bB items.size 0 lo)).toArray.size<=sizeLine;rw[zH,jO,qE,vH];lia
 have hj:bB items.size items.size hi<=items.size:=iy _ _ (yI _) hi;let⟨os,Sf,Vi,Sh⟩:=id hs;have Vx:s.TypeIs (.ref sl) "slice":=⟨os,Sf,Vi⟩
 unfold getItem
 try with_reducible refine xU ?_
 first|refine zS (zT ?_)|skip
 refine zS (wpAny_sequenceKey ht.typeIs (by decide) ?_);refine zS (xZ (name:=Str.ofString "__getitem__") ht.typeIs jA
  (qQ jA ht.typeIs entry_tuple_getitem ?_ (args_tuple_getitem _ _)))
 show wpAny _ _ (Builtin.Tuple.tupleItemsOf (.ref t) >>= _) _ _ s;refine zS (tupleItemsOf_ ht ?_);refine zS (vM Vx ?_);rw[yH (by decide)];refine zS (gh hs pl pu ?_);have TJ:¬ ((((bB items.size 0 lo:Nat):Int) == 0&&(1:Int) == 1&&(bB items.size items.size hi - bB items.size 0 lo) == items.size)=true):=by
  intro q;rw[zF,zF] at q;have q1:((bB items.size 0 lo:Nat):Int)=0:=eq_of_beq q.1.1;have q2:bB items.size items.size hi - bB items.size 0 lo=items.size:=eq_of_beq q.2;exact hw ⟨by lia,by lia⟩
 show wpAny _ _ (if (((bB items.size 0 lo:Nat):Int) == 0&&(1:Int) == 1&&(bB items.size items.size hi - bB items.size 0 lo) == items.size)=true then _ else _) _ _ s;rw[yJ TJ,Dx]
 first
  | exact zS (m:=Builtin.Tuple.tupleExact _) (qH (zT ⟨_,rfl,zT h⟩) Si)
  | exact zS (m:=Builtin.Tuple.tupleExact _) (qH (zS (zT (zT ⟨_,rfl,zT h⟩))) Si)
  | exact zS (zS (m:=Builtin.Tuple.tupleExact _) (qH (zT (zT ⟨_,rfl,zT h⟩)) Si))
  | exact zS (zS (m:=Builtin.Tuple.tupleExact _) (qH (zT ⟨_,rfl,zT h⟩) Si))
end HT
namespace L2
open PySem PySem.Spec PyProof.Rows
abbrev TO:=St->Hp->(Option Int->Hp->Prop)->Prop
def PO(X:Cx)(e:Option Expr)(t:TO):Prop :=
 ∀ (pins:List (Addr×Obj)) (s:Shared) (σ:St) (H:Hp) (Q:Option Int->Hp->Prop),Inv X pins σ H s->t σ H Q ->
  wpAny (model X.prog X.w) X.A (evalPart e X.env) (λu s'=>∃o H',Inv X pins σ H' s'/\IsPart u o/\Q o H') X.xe s
def Hm:TO:=λ_ H Q=>Q none H
def Mr(t:TE):TO:=λσ H Q=>t σ H λx H1=>∃i,x=.int i/\Q (some i) H1
def intsAre_of:∀ {us:List Value},aD (ns.map V.int) us->IntsAre us ns:=by
 induction ns with
 | nil=>intro us r;rw[yQ] at r;cases r;exact .nil
 | cons n ns ih =>
  intro us r;rw[zI] at r;cases r with
  | cons r1 r2 =>
   let⟨t,e⟩:=r1;subst e;exact .cons n t (ih r2)
section
variable {lo hi:Option Expr}
def Gz:PO X none Hm:=by
 intro pins s σ H Q I h;rw[evalPart_none];exact zT ⟨none,H,I,.none,h⟩
def rN(h:PE X e te):PO X (some e) (Mr te):=by
 intro pins s σ H Q I hw;rw[evalPart_some];refine bg (h pins s σ H _ I hw) λu s1 ⟨x,H1,I1,r1,q1⟩=>?_;let⟨i,rfl,q⟩:=q1;let⟨t,rfl⟩:=r1;exact⟨some i,H1,I1,.int i t,q⟩
def GD(X:Cx)(r:V->Option Int->Option Int->Hp->VK->Prop):Prop :=
 ∀ (pins:List (Addr×Obj)) (s:Shared) (σ:St) (H:Hp) (x:V) (v vl vu:Value) (lo hi:Option Int) (sl:Addr) (Q:VK),Inv X pins σ H s->RelV x v->s.heap.IsSliceOf sl vl vu .none->IsPart vl lo->IsPart vu hi->r x lo hi H Q ->
  ∃T id,typeLookup (.type T) "__getitem__"=pure (some (.builtin id))/\s.TypeIs v T/\wpAny (model X.prog X.w) X.A (getItem v (.ref sl)) (EP X pins σ Q) X.xe s
def GD.or(h:GD X r)(h':GD X r'):GD X (λx lo hi H Q=>r x lo hi H Q\/r' x lo hi H Q):=by
 intro pins s σ H x v vl vu lo hi sl Q I rx hs pl pu q;rcases q with q|q
 ·exact h pins s σ H x v vl vu lo hi sl Q I rx hs pl pu q
 ·exact h' pins s σ H x v vl vu lo hi sl Q I rx hs pl pu q
def P6(r:V->Option Int->Option Int->Hp->VK->Prop)(te:TE)(tl th:TO):TE:=λσ H Q=>te σ H λx H1=>tl σ H1 λl H2=>th σ H2 λu H3=>r x l u H3 Q
def ug(hr:GD X r)(he:PE X e te)(hl:PO X lo tl)(hu:PO X hi th):PE X (.Subscript e (.Slice lo hi none p2) pos) (P6 r te tl th):=by
 intro pins s σ H Q I h;refine Subscript_ (bg (he pins s σ H _ I h) λv s1 ⟨x,H1,I1,r1,q1⟩=>?_);refine wpAny_Slice (bg (hl pins s1 σ H1 _ I1 q1) λvl s2 ⟨l,H2,I2,pl,q2⟩=>bg (hu pins s2 σ H2 _ I2 q2) λvu s3 ⟨u,H3,I3,pu,q3⟩=>?_);rw[evalPart_none];refine zT ?_;have I4:Inv X pins σ H3 { s3 with heap:=s3.heap.push { cls:=.type "slice",data:=.fields #[vl,vu,.none] } }:=I3.kept (t':=s3.toks) λb ob q=>zR _ q;let⟨T,id,hT,ht,hg⟩:=hr pins { s3 with heap:=s3.heap.push { cls:=.type "slice",data:=.fields #[vl,vu,.none] } } σ H3 x v vl vu l u s3.heap.objs.size Q I4 r1 (Heap.IsSliceOf.new ..) pl pu q3;show wpAny (model X.prog X.w) X.A (subscriptTail e (.Slice lo hi none p2) v (.ref s3.heap.objs.size)) (EP X pins σ Q) X.xe { s3 with heap:=s3.heap.push { cls:=.type "slice",data:=.fields #[vl,vu,.none] } };exact tail_any (ops:=[.ref s3.heap.objs.size,v]) ht hT hg (by with_unfolding_all rfl)
def FW(xs:List V)(lo hi:Option Int):List V:=(xs.drop (HT.bB xs.length 0 lo)).take (HT.bB xs.length xs.length hi - HT.bB xs.length 0 lo)
def sX(xs:List V)(lo hi:Option Int):(FW xs lo hi).length<=xs.length:=by
 unfold FW;rw[jO,qE];lia
def OE(K:W.Frag):V->Option Int->Option Int->Hp->VK->Prop:=λx lo hi H Q=>∃a xs,x=.ref a/\fU K H a xs /\
 ¬ (HT.bB xs.length 0 lo=0/\HT.bB xs.length xs.length hi=xs.length)/\∀p,H p=none->Q (.ref p) (upd H p (.tup (FW xs lo hi)))
def J2:GD X (OE X.K):=by
 intro pins s σ H x v vl vu lo hi sl Q I rx hs pl pu h;let⟨a,xs,rfl,hx,hw,q⟩:=h;cases rx;let⟨its,r,ht,hz⟩:=I.tuple hx;have hlen:its.toArray.size=xs.length:=by rw[zH];exact r.length.symm
 refine⟨"tuple",_,PyProof.Rows.slot_tuple_getitem.lookup,ht.typeIs,?_⟩;refine HT.ki ht hs pl pu (by rw[hlen];exact hw) ?_ (by rw[hlen];exact hz);rw[hlen];refine⟨.ref s.heap.objs.size,_,I.laid (t':=s.toks) (o:=.tup (FW xs lo hi)) (λb ob q=>zR _ q) (yI _) ?_,rfl,q _ (I.Qt.fresh (yI _))⟩;exact⟨yA (sX xs lo hi) hz,_,(r.drop (HT.bB xs.length 0 lo)).take (HT.bB xs.length xs.length hi - HT.bB xs.length 0 lo),mF.new _ _⟩
def Ms(K:W.Frag):R2:=λx y H Q=>∃a b xs ys,x=.ref a/\y=.ref b/\fU K H a xs/\fU K H b ys/\xs≠[]/\xs.length+ys.length<=sizeLine /\
 (ys=[]->Q (.ref a) H)/\(ys≠[]->∀p,H p=none->Q (.ref p) (upd H p (.tup (xs++ys))))
def aD.Rj(r:aD xs us):us=[]↔xs=[]:=by
 cases r with
 | nil=>simp
 | cons _ _=>simp
def Gp:eZ X (binaryOp .Add) (Ms X.K):=by
 intro pins s σ H x y v u Q I rx ry h;let⟨a,b,xs,ys,rfl,rfl,ha,hb,hx,hz,q1,q2⟩:=h;cases rx;cases ry;let⟨its,r1,p1,_⟩:=I.tuple ha;let⟨Q4,r2,p2,_⟩:=I.tuple hb;refine HT.GV p1 p2 (λz=>hx (r1.Rj.mp z)) (λz=>⟨.ref a,H,I,rfl,q1 (r2.Rj.mp z)⟩) (λz=>?_) (by rw[<- r1.length,<- r2.length];exact hz);refine⟨.ref s.heap.objs.size,_,I.laid (t':=s.toks) (o:=.tup (xs++ys)) (λb ob q=>zR _ q) (yI _) ?_,rfl,q2 (λw=>z (r2.Rj.mpr w)) _ (I.Qt.fresh (yI _))⟩;exact⟨by rw[zN];exact hz,_,r1.append r2,mF.new _ _⟩
end
def AS(n:Nat)(i:Int):Option Nat:=if 0<=i then (if i < n then some i.toNat else none) else if -(n:Int)<=i then some (i+n).toNat else none
def jh(xs:List α)(i:Int):Option α:=(AS xs.length i).bind λj=>xs[j]?
def ym(h:AS n i=some j):seqIndex? i n=some j/\j < n/\-(n:Int)<=i/\i < n:=by
 unfold AS at h;by_cases h0:0<=i
 ·rw[yH h0] at h;by_cases h1:i < n
  ·rw[yH h1] at h;have e:i.toNat=j:=yZ h;exact⟨by rw[seqIndex_of h0 h1,e],by lia,by lia,h1⟩
  ·rw[yJ h1] at h;cases h
 ·rw[yJ h0] at h;by_cases h1:-(n:Int)<=i
  ·rw[yH h1] at h;have e:(i+n).toNat=j:=yZ h;exact⟨by rw[seqIndex_neg (by lia) h1,e],by lia,h1,by lia⟩
  ·rw[yJ h1] at h;cases h
def qq(h:jh xs i=some v):∃j,seqIndex? i xs.length=some j/\xs[j]?=some v/\j < xs.length/\-(xs.length:Int)<=i/\i < xs.length:=by
 unfold jh at h;cases e:AS xs.length i with
 | none=>rw[e] at h;cases h
 | some j =>
  rw[e] at h;let⟨h1,h2,h3,h4⟩:=ym e;exact⟨j,h1,h,h2,h3,h4⟩
def rV{α:Type}{xs:List α}{j:Nat}{v:α}(h:xs[j]?=some v):jh xs (j:Int)=some v:=by
 have hj:j < xs.length:=(List.getElem?_eq_some_iff.mp h).1;have e:AS xs.length (j:Int)=some j:=by
  unfold AS;rw[yH (by lia),yH (by lia)];simp
 unfold jh;rw[e];exact h
def k7(b:Expr):Prop:=∀o i,subscripted b false o i=operate [o,i] (getItem o i)
def Ff(X:Cx)(r:R2):Prop :=
 ∀ (value slice:Expr) (pins:List (Addr×Obj)) (s:Shared) (σ:St) (H:Hp) (x y:V) (v u:Value) (Q:VK),Inv X pins σ H s->RelV x v->RelV y u->r x y H Q ->
  subscripted slice false v u=operate [v,u] (getItem v u)->wpAny (model X.prog X.w) X.A (subscriptTail value slice v u) (EP X pins σ Q) X.xe s
def Pw(X:Cx)(id:String)(r:V->List V->Hp->VK->Prop):Prop :=
 ∀ (pins:List (Addr×Obj)) (s:Shared) (σ:St) (H:Hp) (x:V) (xs:List V) (v:Value) (us:List Value) (Q:VK),Inv X pins σ H s->RelV x v->aD xs us->r x xs H Q ->
  wpAny (model X.prog X.w) X.A (call (.builtin id) (v::us)) (EP X pins σ Q) X.xe s
section
def Ff.or(h:Ff X r)(h':Ff X r'):Ff X (λx y H Q=>r x y H Q\/r' x y H Q):=by
 intro value slice pins s σ H x y v u Q I rx ry q hs;rcases q with q|q
 ·exact h value slice pins s σ H x y v u Q I rx ry q hs
 ·exact h' value slice pins s σ H x y v u Q I rx ry q hs
def C7(hr:Ff X r)(ha:PE X a ta)(hb:PE X b tb)(hs:k7 b):PE X (.Subscript a b pos) (Mh r ta tb):=by
 intro pins s σ H Q I h;exact Subscript_ (Lh ha hb I h λv u s2 x y H2 I2 rx ry q=>hr a b pins s2 σ H2 x y v u Q I2 rx ry q (hs _ _))
def MU(K:W.Frag):R2:=λx y H Q=>∃p xs i v,x=.ref p/\y=.int i/\dM K H p xs/\jh xs i=some v/\Q v H
def L4(K:W.Frag):R2:=λx y H Q=>∃p xs i v,x=.ref p/\y=.int i/\fU K H p xs/\jh xs i=some v/\Q v H
def Jh:R2:=λx y H Q=>∃z i c,x=.str z/\y=.int i/\z.length<=sizeLine/\jh z.cps.toList i=some c/\Q (.str ⟨#[c]⟩) H
def GB:Ff X (MU X.K):=by
 intro value slice pins s σ H x y v u Q I rx ry h hs;let⟨p,xs,i,z,rfl,rfl,hq,he,q⟩:=h;cases rx;let⟨t,rfl⟩:=ry;let⟨its,r,pl,hz⟩:=I.list hq;let⟨j,h1,h2,h3,h4,h5⟩:=qq he;let⟨w,ew,Vy⟩:=r.get h2;have hl:=r.length;have hn:=lU;have fin:EP X pins σ Q w s:=⟨z,H,I,Vy,q⟩
 by_cases h0:0<=i
 ·have hj:i.toNat=j:=by
   rw[seqIndex_of h0 h5] at h1;exact yZ h1
  exact item_listR pl.isList h0 (by lia) (by rw[hj];simpa using ew) fin hs
 ·have hj:(i+(its.toArray.size:Int)).toNat=j:=by
   rw[seqIndex_neg (by lia) h4] at h1;rw[zH,<- hl];exact yZ h1
  exact subscriptTail_builtinR (x:=w) pl.isList.typeIs slot_list_getitem.lookup
   (wpAny_getItem_list_neg (Q:=λr s'=>r=w/\EP X pins σ Q r s') pl.isList (by lia) (by rw[zH]<;>lia) (by lia) (by rw[hj];simpa using ew) ⟨rfl,fin⟩) hs
def v8:Ff X (L4 X.K):=by
 intro value slice pins s σ H x y v u Q I rx ry h hs;let⟨p,xs,i,z,rfl,rfl,hq,he,q⟩:=h;cases rx;let⟨t,rfl⟩:=ry;let⟨its,r,pl,hz⟩:=I.tuple hq;let⟨j,h1,h2,h3,h4,h5⟩:=qq he;let⟨w,ew,Vy⟩:=r.get h2;have hl:=r.length;have hn:=lU;have fin:EP X pins σ Q w s:=⟨z,H,I,Vy,q⟩
 exact subscriptTail_builtinR (x:=w) pl.typeIs slot_tuple_getitem.lookup
  (getItem_tuple (j:=j) (Q:=λr s'=>r=w/\EP X pins σ Q r s') pl (by lia) (by lia) (by rw[zH,<- hl];exact h1) (by simpa using ew) ⟨rfl,fin⟩) hs
def Dk:Ff X Jh:=by
 intro value slice pins s σ H x y v u Q I rx ry h hs;let⟨z,i,c,rfl,rfl,hz,he,q⟩:=h;let⟨t,rfl⟩:=rx;let⟨t',rfl⟩:=ry;let⟨j,h1,h2,h3,h4,h5⟩:=qq he;have hl:z.cps.toList.length=z.length:=by simp[Str.length]
 rw[hl] at h1 h4 h5;have hn:=lU;exact tail_any (typeIs_str s z t) slot_str_getitem.lookup (getItem_str (c:=c) (by
  have e1:decide (i < -(2 ^ 63:Int))=false:=zW (by lia);have e2:decide (i >= 2 ^ 63)=false:=zW (by lia);rw[e1,e2,Bool.or_false]) (by rw[h1];simpa using h2) ⟨.str ⟨#[c]⟩,H,I.tok _,⟨_,rfl⟩,q⟩) hs
def Pt(K:W.Frag):R2:=λx y H Q=>MU K x y H Q\/L4 K x y H Q\/Jh x y H Q
def Eu:Ff X (Pt X.K):=GB.or (v8.or Dk)
def vh(its:List Value)(n j:Nat)(u:Value):Obj.mapSeq (·.setIfInBounds j u) { cls:=.type "list",data:=.seq its.toArray n }={ cls:=.type "list",data:=.seq (its.set j u).toArray n }:=by
 simp[Obj.mapSeq]
def Inv.lst(I:Inv X pins σ H s)(h:H p=some (.lst xs)) :
  ∃ (its:List Value) (n:Nat),aD xs its/\s.heap.get? p=some { cls:=.type "list",data:=.seq its.toArray n }/\xs.length<=sizeLine:=by
 let⟨z,its,n,r,e⟩:=I.Qt p _ h;exact⟨its,n,r,e,z⟩
def Inv.UE{ys:List V}{its its':List Value}{n n':Nat}{f:Obj->Obj}(I:Inv X pins σ H s)(h:H p=some (.lst xs))
  (ho:s.heap.get? p=some { cls:=.type "list",data:=.seq its.toArray n }) (hf:f { cls:=.type "list",data:=.seq its.toArray n }={ cls:=.type "list",data:=.seq its'.toArray n' }) (r:aD ys its') (hz:ys.length<=sizeLine) (t:Nat) :
  Inv X pins σ (upd H p (.lst ys)) { s with heap:=s.heap.update p f,toks:=t }:=by
 have e:(s.heap.update p f).get? p=some { cls:=.type "list",data:=.seq its'.toArray n' }:=by
  rw[Heap.get?_update_self f ho (by rw[hf]<;>rfl),hf]
 refine I.write (x:=p) (e:=p) (by rw[h];trivial) (.inl rfl) (λb u hb q=>(xI _ _ (jG hb)).trans q) ⟨_,e⟩ ?_;exact⟨hz,its',n',r,e⟩
def Me:V->V->V->Hp->(Hp->Prop)->Prop:=λo i v H Q=>∃p xs k j,o=.ref p/\i=.int k/\H p=some (.lst xs)/\AS xs.length k=some j/\Q (upd H p (.lst (xs.set j v)))
def set_list:M6 X Me:=by
 intro pins s σ H o i v ov iv u Q I ro ri rv h;let⟨p,xs,k,j,rfl,rfl,hp,hj,q⟩:=h;cases ro;let⟨t,rfl⟩:=ri;let⟨its,n,r,ho,hz⟩:=I.lst hp;let⟨h1,h2,h3,h4⟩:=ym hj;have hl:=r.length;have hn:=lU;have I':Inv X pins σ (upd H p (.lst (xs.set j v))) { s with heap:=s.heap.update p (Obj.mapSeq (·.setIfInBounds j u)) } :=
  I.UE hp ho (vh its n j u) (r.set rv j) (by rw[zZ];exact hz) s.toks
 by_cases h0:0<=k
 ·have hk:k.toNat=j:=by
   rw[seqIndex_of h0 h4] at h1;exact yZ h1
  exact W.ki_setAt ho h0 (by lia) (by rw[zH,<- hl];exact h4) (by rw[hk];exact⟨_,I',q⟩)
 ·have hk:(k+(its.toArray.size:Int)).toNat=j:=by
   rw[seqIndex_neg (by lia) h3] at h1;rw[zH,<- hl];exact yZ h1
  exact W.ki_setBack ho (by lia) (by rw[zH,<- hl];exact h3) (by lia) (by rw[hk];exact⟨_,I',q⟩)
def rm:dc X (.builtin "len") (λxs H Q=>∃p ys,xs=[.ref p]/\(dM X.K H p ys\/fU X.K H p ys)/\Q (.int ys.length) H):=by
 intro pins s σ H xs us Q I r h;let⟨p,ys,rfl,hq,q⟩:=h;let⟨u,rfl,rx⟩:=vals1 r;cases rx;have hn:=lU;rcases hq with hq|hq
 ·let⟨its,r',pl,hz⟩:=I.list hq;have hlen:=r'.length;exact Calls.call_len_list pl.isList (by simp?[zH]<;>lia) ⟨.int ys.length,H,I.tok _,⟨s.toks+1,by rw[zH,hlen]⟩,q⟩
 ·let⟨its,r',pl,hz⟩:=I.tuple hq;have hlen:=r'.length;exact len_tuple pl (by simp?[zH]<;>lia) ⟨.int ys.length,H,I.tok _,⟨s.toks+1,by rw[zH,hlen]⟩,q⟩
def rz:dc X (.builtin "len") (λxs H Q=>∃z,xs=[.str z]/\z.length<=sizeLine/\Q (.int z.length) H):=by
 intro pins s σ H xs us Q I r h;let⟨z,rfl,hz,q⟩:=h;let⟨u,rfl,t,rfl⟩:=vals1 r;have hn:=lU;exact len_str (by lia) ⟨.int z.length,H,I.tok _,⟨_,rfl⟩,q⟩
def sr:dc X (.type "list") (λxs H Q=>∃p ys,xs=[.ref p]/\(dM X.K H p ys\/fU X.K H p ys)/\∀l,H l=none->Q (.ref l) (upd H l (.lst ys))):=by
 intro pins s σ H xs us Q I r h;let⟨p,ys,rfl,hq,q⟩:=h;let⟨u,rfl,rx⟩:=vals1 r;cases rx;have fin:∀ (its:List Value),aD ys its->ys.length<=sizeLine->∀ (h':Heap) (c':Nat),(∀b o',s.heap.get? b=some o'->h'.get? b=some o') ->
   h'.get? s.heap.objs.size=some { cls:=.type "list",dict:=none,data:=.seq its.toArray c',slots:=#[] }->EP X pins σ Q (.ref s.heap.objs.size) { s with heap:=h' }:=λits r' hz h' c' kp e =>
  ⟨.ref s.heap.objs.size,_,I.laid (t':=s.toks) kp (yI _) (show dI X.prog X.w _ h' _ (.lst ys) from ⟨hz,its,c',r',e⟩),rfl,q _ (I.Qt.fresh (yI _))⟩
 rcases hq with hq|hq
 ·let⟨its,r',pl,hz⟩:=I.list hq;have hlen:=r'.length;let⟨o,ho,hc,n,hd⟩:=pl.isList;exact call_list_seq p (.inl rfl) ho hc hd (λh' c' kp e=>fin its r' hz h' c' kp e) (by simp?[zH]<;>lia)
 ·let⟨its,r',pl,hz⟩:=I.tuple hq;have hlen:=r'.length;let⟨o,ho,hc,n,hd⟩:=pl;exact call_list_seq p (.inr rfl) ho hc hd (λh' c' kp e=>fin its r' hz h' c' kp e) (by simp?[zH]<;>lia)
def o7:dc X (.type "tuple") (λxs H Q=>∃p ys,xs=[.ref p]/\((dM X.K H p ys/\∀l,H l=none->Q (.ref l) (upd H l (.tup ys)))\/(fU X.K H p ys/\Q (.ref p) H))):=by
 intro pins s σ H xs us Q I r h;let⟨p,ys,rfl,h⟩:=h;let⟨u,rfl,rx⟩:=vals1 r;cases rx;rcases h with ⟨hq,q⟩|⟨hq,q⟩
 ·let⟨its,r',pl,hz⟩:=I.list hq;have hlen:=r'.length;refine call_tuple_list pl.isList (λh' kp=>?_) (by simp?[zH]<;>lia);have I1:Inv X pins σ H { s with heap:=h' }:=I.kept (t':=s.toks) kp;have I2:Inv X pins σ (upd H h'.objs.size (.tup ys)) { s with heap:=h'.push { cls:=.type "tuple",data:=.seq its.toArray } } :=
   I1.laid (t':=s.toks) (λb o e=>zR _ e) (yI _) (show dI X.prog X.w _ _ _ (.tup ys) from ⟨hz,its,r',mF.new _ _⟩)
  exact⟨.ref h'.objs.size,_,I2,rfl,q _ (I1.Qt.fresh (yI _))⟩
 ·let⟨its,r',pl,hz⟩:=I.tuple hq;exact call_tuple_same pl ⟨.ref p,H,I,rfl,q⟩
def Pv(K:W.Frag)(T:String)(x:V)(H:Hp):Prop:=match x with
 | .str _=>T="str"
 | .int _=>T="int"
 | .ref p=>(T="list"/\∃xs,dM K H p xs)\/(T="tuple"/\∃xs,fU K H p xs) \/
   (T="dict"/\((∃Rw,H p=some (.dK Rw))\/∃Rw,H p=some (.dT Rw)))\/(T="set"/\∃S n,H p=some (.set S n))
 | _=>False
def JX(I:Inv X pins σ H s)(r:RelV x v)(ty:Pv X.K T x H) :
  s.TypeIs v T/\∀a,v=.ref a->∃ob,s.heap.get? a=some ob/\ob.dict=none:=by
 cases x with
 | str z =>
  let⟨t,rfl⟩:=r;cases (show T="str" from ty);exact⟨typeIs_str s z t,λ_ e=>nomatch e⟩
 | int i =>
  let⟨t,rfl⟩:=r;cases (show T="int" from ty);exact⟨vI s i t,λ_ e=>nomatch e⟩
 | ref p =>
  cases r;rcases ty with ⟨rfl,xs,hq⟩|⟨rfl,xs,hq⟩|⟨rfl,hk⟩|⟨rfl,S,n,hk⟩
  ·let⟨its,_,pl,_⟩:=I.list hq;refine⟨pl.isList.typeIs,λa e=>?_⟩;cases e;let⟨o,n,e,c,hd,_⟩:=pl;exact⟨o,e,hd⟩
  ·rcases hq with hq|⟨o,its,n,hk,hc,hd,_⟩
   ·let⟨_,_,_,⟨o,e1,e2,_⟩,o2,e3,e4⟩:=hq.ok I.Qt;exact⟨⟨o,e1,e2⟩,λa e=>by cases e;exact⟨o2,e3,e4⟩⟩
   ·exact⟨⟨o,I.RW p o hk,hc⟩,λa e=>by cases e;exact⟨o,I.RW _ o hk,hd⟩⟩
  ·have z:∃o,s.heap.get? p=some o/\o.ExactDict:=by
    rcases hk with ⟨Rw,hk⟩|⟨Rw,hk⟩
    ·let⟨_,_,_,_,o,_,_,e,ex,_⟩:=I.Qt p _ hk;exact⟨o,e,ex⟩
    ·let⟨_,_,_,_,o,_,_,e,ex,_⟩:=I.Qt p _ hk;exact⟨o,e,ex⟩
   let⟨o,e,ex⟩:=z;refine⟨⟨o,e,ex.1⟩,λa e2=>?_⟩;cases e2;exact⟨o,e,ex.2.1⟩
  ·let⟨o,_,_,_,e,ex,_⟩:=I.Qt p _ hk;refine⟨⟨o,e,ex.1⟩,λa e2=>?_⟩;cases e2;exact⟨o,e,ex.2.1⟩
 | _=>exact False.elim ty
def PM(K:W.Frag)(T:String)(r:V->List V->Hp->VK->Prop)(to:TE)(t:TA):TE:=λσ H Q=>to σ H λx H1=>Pv K T x H1/\t σ H1 λxs H2=>r x xs H2 Q
variable {T id:String}
def jb(pa:PlainAttrs T)(slot:Slot T name id)(WV:typeOf (.builtin id)=pure (.type "method_descriptor"))(hm:Pw X id r)(ho:PE X o to)(ha:PA X (e::es) t)
  (QG:attributeBase o name X.env (eval o X.env)=eval o X.env:=by rfl)
  (QI:((backTo Qq (starEach (e::es) X.env)).all (λx=>!x.1)&&(backToKw Qq (keywordEach [] X.env)).all (λx=>x.1.isSome)
   &&decide ((e::es).length+([]:List Keyword).length+(if ([]:List Keyword).isEmpty then 0 else 1) < 30))=true:=by rfl)
  (Qv:(apos.endLine == Qq.line)=true:=by rfl) (hs:starEach (e::es) X.env=(false,eval e X.env)::starEach es X.env:=by rfl) (UG:(backTo Qq (starEach es X.env)).any (·.1)=false:=by rfl) :
  PE X (.Call (.Attribute o name apos) (e::es) [] Qq) (PM X.K T r to t):=by
 intro pins s σ H Q I h;refine wpAny_Call_method_late QG QI Qv rfl (bg (ho pins s σ H _ I h) λv s1 ⟨x,H1,I1,r1,ty,q1⟩=>?_);let⟨h1,h2⟩:=JX I1 r1 ty;refine⟨T,id,pa,slot,WV,h1,h2,?_⟩;have hA:=ha Qq pins s1 σ H1 _ I1 q1;rw[hs] at hA ⊢;refine Calls.callWith_builtin (by show (false||(backTo Qq (starEach es X.env)).any (·.1))=false;rw[UG]<;>rfl) (Calls.evalArgs_plain ?_);exact bg hA λus s2 ⟨vs,H2,I2,r2,q2⟩=>hm pins s2 σ H2 x vs v us Q I2 r1 r2 q2
/- xs.append(e),list.index on a Vz tuple .. are Pw facts of 06m -/
end
def HG(X:Cx)(id:String)(r:V->List V->Hp->VK->Prop):Prop :=
 ∀ (pins:List (Addr×Obj)) (s:Shared) (σ:St) (H:Hp) (x:V) (xs:List V) (v:Value) (us:List Value) (Q:VK),Inv X pins σ H s->RelV x v->aD xs us->r x xs H Q ->
  wpAny (model X.prog X.w) X.A (call (.builtin id) (v::us)) (EP X pins σ Q) X.xe s
def aD.one:∀ {x:V}{us:List Value},aD [x] us->∃u,us=[u]/\RelV x u
 | _,_,.cons r .nil=>⟨_,rfl,r⟩
def aD.two:∀ {x y:V}{us:List Value},aD [x,y] us->∃u v,us=[u,v]/\RelV x u/\RelV y v
 | _,_,_,.cons r (.cons q .nil)=>⟨_,_,rfl,r,q⟩
def aD.reverse(h:aD xs us):aD xs.reverse us.reverse:=by
 induction h with
 | nil=>exact .nil
 | cons r t ih=>rw[kJ,kJ];exact aD.append ih (.cons r .nil)
def aD.rep(h:aD xs us):∀k:Nat,aD (List.replicate k xs).flatten (List.replicate k us).flatten
 | 0=>.nil
 | k+1=>by
  rw[xA,xA,qJ,qJ];exact aD.append h (aD.rep h k)
def foldl_rep(its:List Value):∀ (k:Nat) (acc:List Value),
  List.foldl (λx1 x2=>x1++x2) acc.toArray (List.replicate k its.toArray)=(acc++(List.replicate k its).flatten).toArray
 | 0,acc=>by simp
 | k+1,acc=>by
  have e:acc.toArray++its.toArray=(acc++its).toArray:=by simp
  have e2:(acc++its)++(List.replicate k its).flatten=acc++(List.replicate (k+1) its).flatten:=by
   rw[xA,qJ,List.append_assoc]
  rw[<- e2,<- foldl_rep its k (acc++its),<- e,xA,List.foldl_cons]
section
variable {xs ys zs:List V}
def Inv.UH{its its':List Value}{n:Nat}{f:Array Value->Array Value}{t':Nat}(I:Inv X pins σ H s)(hH:H l=some (.lst xs))
  (e:s.heap.get? l=some { cls:=.type "list",data:=.seq its.toArray n }) (hf:f its.toArray=its'.toArray) (hv:aD ys its') (hz:ys.length<=sizeLine) :
  Inv X pins σ (upd H l (.lst ys)) { s with heap:=s.heap.update l (Obj.mapSeq f),toks:=t' }:=by
 have q:=PySem.IsL.update e f;rw[hf] at q;refine I.write (x:=l) (e:=l) (by rw[hH];exact trivial) (.inl rfl) (λb' u hb hu=>(xI s.heap (Obj.mapSeq f) (jG hb)).trans hu) ⟨_,q⟩ ?_;exact⟨hz,its',_,hv,q⟩
def Inv.SS{t':Nat}(I:Inv X pins σ H s)(hv:aD ys its)(hz:ys.length<=sizeLine) :
  Inv X pins σ (upd H s.heap.objs.size (.lst ys)) { s with heap:=s.heap.push { cls:=.type "list",data:=.seq its.toArray },toks:=t' } :=
 I.laid (λ_ _ q=>zR _ q) (yI _) ⟨hz,its,0,hv,zU _ rfl⟩
def Inv.fresh(I:Inv X pins σ H s):H s.heap.objs.size=none:=I.Qt.fresh (yI _)
def Inv.SU(I:Inv X pins σ H s)(hH:H l=some (.lst xs)):xs.length<=sizeLine/\∃ (its:List Value) (n:Nat),aD xs its/\xs.length=its.length/\s.heap.get? l=some { cls:=.type "list",data:=.seq its.toArray n }:=by
 let⟨z,its,n,r,e⟩:=I.Qt l _ hH;exact⟨z,its,n,r,r.length,e⟩
def ux(h:n<=sizeLine):Builtin.List.listTooLong n=false:=by
 unfold Builtin.List.listTooLong;exact zW (by lia)
end
def GR:V->List V->Hp->VK->Prop:=λx vs H Q=>∃l xs y,x=.ref l/\vs=[y]/\H l=some (.lst xs)/\xs.length < sizeLine/\Q .Qo (upd H l (.lst (xs++[y])))
def iS:HG X "list.append" GR:=by
 intro pins s σ H x vs v us Q I rx rv h;let⟨l,xs,y,rfl,rfl,hH,hz,q⟩:=h;cases rx;let⟨u,rfl,ru⟩:=rv.one;let⟨z,its,n,r,hl,e⟩:=I.SU hH;refine qS F.slot_list_append ⟨_,e,rfl⟩ F.entry_list_append (F.args_list_append_2 _ _) (PySem.list_append l its.toArray n u (by rw[zH];lia)) ⟨e,?_⟩;refine⟨.Qo,_,I.UH (its':=its++[u]) hH e (by simp) (r.append (.cons ru .nil)) ?_,rfl,q⟩;rw[zN,yY];lia
def HH:V->List V->Hp->VK->Prop:=λx vs H Q=>∃l b xs zs,x=.ref l/\vs=[.ref b]/\H l=some (.lst xs)/\H b=some (.lst zs)/\xs.length+zs.length<=sizeLine/\Q .Qo (upd H l (.lst (xs++zs)))
def AN:HG X "list.extend" HH:=by
 intro pins s σ H x vs v us Q I rx rv h;let⟨l,b,xs,zs,rfl,rfl,hH,hB,hz,q⟩:=h;cases rx;let⟨u,rfl,ru⟩:=rv.one;cases ru;let⟨z,its,n,r,hl,e⟩:=I.SU hH;let⟨z2,Q4,n2,r2,hl2,e2⟩:=I.SU hB;have Se:its.toArray.size+Q4.toArray.size<=sizeLine:=by rw[zH,zH];lia
 have SV:¬ (!its.toArray.isEmpty&&Builtin.List.listTooLong (its.toArray.size+Q4.toArray.size))=true:=by
  rw[ux Se,kE];exact yV
 refine qS F.slot_list_extend ⟨_,e,rfl⟩ F.entry_list_extend (F.args_list_extend_2 _ _)
  (AutoSeq1.list_extend_list_list_0 l its.toArray n b Q4.toArray n2 SV (by rw[zH];lia) (by lia)) ⟨e,e2,?_⟩
 refine⟨.Qo,_,I.UH (its':=its++Q4) hH e (by simp) (r.append r2) ?_,rfl,q⟩;rw[zN];lia
def N7:R2:=λx y H Q=>∃l k xs,x=.ref l/\y=.int k/\H l=some (.lst xs)/\-(2 ^ 63)<=k/\k < 2 ^ 63/\xs.length * k.toNat<=sizeLine /\
 ∀p,H p=none->Q (.ref p) (upd H p (.lst (List.replicate k.toNat xs).flatten))
def len_rep(xs:List α)(k:Nat):(List.replicate k xs).flatten.length=k * xs.length:=by
 induction k with
 | zero=>simp
 | succ k ih=>rw[xA,qJ,zN,ih,Nat.succ_mul,Nat.add_comm]
def JJ:eZ X (binaryOp .Mult) N7:=by
 intro pins s σ H x y v u Q I rx ry h;let⟨l,k,xs,rfl,rfl,hH,h1,h2,hz,q⟩:=h;cases rx;let⟨t,rfl⟩:=ry;let⟨z,its,n,r,hl,e⟩:=I.SU hH;have hlen:its.toArray.size * k.toNat<=sizeLine:=by rw[zH,<- hl];exact hz
 have R1:¬ its.toArray.size * k.toNat > (2 ^ 63 - 1) / 8:=by
  have:(sizeLine:Nat)<=(2 ^ 63 - 1) / 8:=by decide
  lia
 have SW:¬ (!Builtin.List.listFitsIndex k)=true:=by
  rw[fitsIndex_both h1 h2];exact yV
 have SV:¬ Builtin.List.listTooLong (its.toArray.size * k.toNat)=true:=by
  rw[ux hlen];exact yV
 have WW:List.foldl (λx1 x2=>x1++x2) #[] (List.replicate (if its.toArray.isEmpty=true then 0 else k.toNat) its.toArray)=(List.replicate k.toNat its).flatten.toArray:=by
  have f0:∀m:Nat,List.foldl (λx1 x2=>x1++x2) #[] (List.replicate m its.toArray)=(List.replicate m its).flatten.toArray:=λm=>by
   have:=foldl_rep its m [];rw[xJ] at this;exact this
  rw[f0];cases its with
  | nil=>simp
  | cons a r'=>rw[yJ (by simp)]
 refine wpAny_binaryOp_repeat_ref (T:="list") (U:="int") (by decide) ⟨_,e,rfl⟩ (λs'=>vI s' k t) noFill_list_mul F.fills_int_mul vA repeat_list F.slot_int_index.lookup
  (qS vA (vI s k t) F.entry_int_rmul (F.args_int_rmul_2 _ _) (int___rmul___int_list k t l its.toArray n)
   ⟨e,rfl,⟨_,e,rfl⟩,qS F.slot_list_mul ⟨_,e,rfl⟩ F.entry_list_mul (F.args_list_mul_2 _ _) (AutoListH.list___mul___list_int_3 l its.toArray n k t SW R1 SV) ⟨e,?_⟩⟩)
 rw[WW];exact⟨.ref _,_,I.SS (t':=s.toks) (r.rep k.toNat) (by rw[len_rep,Nat.mul_comm];exact hz),rfl,q _ I.fresh⟩
end L2
namespace YG
open PySem PySem.W PySem.Calls PyProof.Rows
variable {n:Nat}
def Rc:∀ (ns:List Int) (vs:List Value),WellAll P h vs (ns.map WData.int)->IntsAre vs ns:=by
 intro ns
 induction ns with
 | nil =>
  intro vs w;rw[yQ] at w;cases w;exact .nil
 | cons n ns ih =>
  intro vs w;rw[zI] at w;cases w with
  | cons a b =>
   cases a;exact .cons _ _ (ih _ b)
def Ss{l:OpenLaw}(hn:l.most=some n){P:Params}{h:Heap}{args:List WData}{vals:List Value}
  (TK:l.row.toRowW.claim.pre args=true) (VA:WellAll P h vals args) :
  ∃a vs ns,vals=[Value.ref a]/\args=[WData.list (ns.map WData.int)]/\h.get? a=some { cls:=.type "list",data:=.seq vs.toArray }/\IntsAre vs ns/\ns.length<=n:=by
 have ZE:WShape.hasAll [] args [.list .int]=true:=(pre_splitW TK).1;have hc:l.pre.holds [] { args:=args }=true:=(pre_splitW TK).2;let⟨d,r,rfl,h1,h2⟩:=hasAllW_cons ZE;obtain rfl:=hasAllW_nil h2;let⟨xs,rfl,h3⟩:=hasW_list h1;let⟨ns,rfl⟩:=items_int h3;have hlen:ns.length<=n:=by
  unfold OpenLaw.pre at hc;have h4:(WTm.not (.lt (.lit (.int (n:Int))) (.len (.arg 0)))).holds [] { args:=[.list (ns.map .int)] }=true:=by
   have h4:=(holds_andW hc).1;rw[hn] at h4;exact h4
  have h5:=condW_of h4 (w_not (w_lt w_lit (w_len_list (w_arg rfl))));rw[zD] at h5;refine Nat.le_of_not_lt λq=>?_;have q':(n:Int) < ((ns.length:Nat):Int):=by lia
  first
   | (rw[zX q'] at h5;exact absurd h5 (by decide))
   | (simp at h5;lia)
 cases VA with
 | cons w1 w2 =>
  cases w2;cases w1 with
  | list ho TL=>exact⟨_,_,ns,rfl,rfl,ho,Rc ns _ TL,hlen⟩
def Su(l:OpenLaw)(args:List WData):l.row.toRowW.claim.post args (.bool true) args=true :=
 postW_of (r:=l.row.toRowW) (X:=(true == true))
  (show WShape.has [] (.bool true) .bool=true by first|rfl|decide|simp[WShape.has,WShape.arms,WShape.armsAll])
  (show (WTm.eq .res (.lit (.bool true))).value [] { args:=args,res:=some (.bool true),after:=args }=some (.bool (true == true)) from w_eq_bool (w_res rfl) w_lit) rfl
def RJ{l:OpenLaw}{q:Program}{loose:List Str}{XP:(Str->Option Value)->Heap->Prop}{YP:World->Heap->Prop}{d:DefRec}
  (hn:l.most=some n) (VB:d.params.defaults=[])
  (call:∀ (w:World) (Qz Qs:Shared) (mg mb:Str->Option Value) (fa:Addr) (o:Obj) (pm cd doc:Value) (a:Addr) (vs:List Value) (ns:List Int),
   Ground q loose [] XP w Qz mg mb Qs.heap->YP w Qs.heap ->
   Qs.heap.get? fa=some o->o.data=.func (docDef d.name d.params d.body d.scope pm cd doc)->Qs.heap.CodeRec cd d.name->mg d.name=some (.ref fa) ->
   Qs.heap.get? a=some { cls:=.type "list",data:=.seq vs.toArray }->IntsAre vs ns->ns.length<=n->Qs.gens=#[] ->
   codeAny (model l.prog w) callerA (.call (.ref fa) ⟨[.ref a],[]⟩) (λr s'=>r=.ok (.ret (.bool true))/\OldK Qs.heap s'.heap/\s'.os=Qs.os/\AllBare s'.gens) Qs) :
  WalkO q loose XP YP l.row.toRowW d [] (λf vs=>PySem.call f vs):=by
 intro w Qz Qs mg mb G Y fa o pm cd doc dV kV ho hd Q8 hD VC hg args vals as TK ZF Wl VA YH;obtain rfl:dV=.none:=Dflts.none hD VB;obtain rfl:kV=.none:=Dflts.noKw hD;let⟨a,vs,ns,rfl,rfl,UI,hints,hlen⟩:=Ss hn TK VA;refine enter_call (jK (call w Qz Qs mg mb fa o pm cd doc a vs ns G Y ho (fd_plain hd) Q8 VC UI hints hlen hg) λr s' hq=>?_);let⟨rfl,h2,h3,h4⟩:=hq;exact⟨.inl ⟨.bool true,.bool true,[],rfl,λ_=>rfl,.bool true,Su l _,λ_=>⟨List.Pairwise.nil,λ_ hm=>(nomatch hm)⟩⟩,h2,h3,h4⟩
section
variable {K:Frag}
end
end YG
namespace L2
open PySem PySem.Spec PyProof.Rows
variable {B:Prop}
def pk:∀ {vs:List Value}{ns:List Int},IntsAre vs ns->aD (ns.map V.int) vs
 | _,_,.nil=>.nil
 | _,_,.cons n t h=>.cons ⟨t,rfl⟩ (pk h)
abbrev Ie:Fx:=λ_ _ _ _ _ _=>False
abbrev E0:XK:=λ_ _ _=>False
def MK:cA Ie X E0:=λ_ _ _ _ _ _ _ h=>h.elim
structure E8(K:W.Frag)(x qual:Str)(st:Stmt)(f:Addr)(fd:FuncData):Prop where
 ex:∃ (oc:Value) (od:Option Addr) (kV doc pm:Value) (an:Option Addr) (QU ct:Value) (SR:Array (Option Value)),
  fd=W.fnOf x qual (fw st) (bo st) (aj st) .none kV doc pm an QU ct/\K.lookup f=some ⟨oc,od,.func fd,SR⟩/\W.codeIn K QU qual=true
 kp:W.keepIn K (.ref f)=true
section
variable {K:W.Frag}
def E8.binds{st:Stmt}(F:E8 K x qual st f fd)
  (h:∀ (kV doc pm:Value) (an:Option Addr) (QU ct:Value) (us:List Value),us.length=ps.length->bindArgs (W.fnOf x qual (fw st) (bo st) (aj st) .none kV doc pm an QU ct) ⟨us,[]⟩=pure (ps.zip us)):Binds K fd ps []:=by
 let⟨oc,od,kV,doc,pm,an,QU,ct,SR,rfl,lk,Q8⟩:=F.ex;exact .all (h kV doc pm an QU ct)
def Ee{st:Stmt}{kV:Value}(l:K.lookup f=some ⟨oc,od,.func (W.fnOf x qual (fw st) (bo st) (aj st) .none kV doc pm an QU ct),SR⟩)
  (c:W.codeIn K QU qual=true) (k:W.keepIn K (.ref f)=true):E8 K x qual st f (W.fnOf x qual (fw st) (bo st) (aj st) .none kV doc pm an QU ct):=⟨⟨oc,od,kV,doc,pm,an,QU,ct,SR,rfl,l,c⟩,k⟩
end
def nJ{A B:Prop}(h:B):if false=true then A else B:=by
 rw[yJ yV];exact h
def k8{A B:Prop}(h:A):if true=true then A else B:=by
 rw[yH rfl];exact h
def aM(H H':Hp):Prop:=∀b o,H b=some o->H' b=some o
def aM.refl(H:Hp):aM H H:=λ_ _ h=>h
def aM.trans(a:aM H H1)(b:aM H1 H2):aM H H2:=λc o h=>b c o (a c o h)
def aM.free(e:aM H H')(h:H' l=Option.none):H l=Option.none:=by
 cases q:H l with
 | none=>rfl
 | some o =>
  rw[e l o q] at h;cases h
def aM.seq{K:W.Frag}(e:aM H H')(h:dM K H a xs):dM K H' a xs:=by
 rcases h with (h|⟨o,h⟩)|h
 ·exact .inl (.inl (e _ _ h))
 ·exact .inl (.inr ⟨o,e _ _ h⟩)
 ·exact .inr h
def bP:∀ (names:List (Str×NameKind)) (n:Nat) (acc:List (Str×Addr)),cellsFrom n names acc=cellsFrom n names []++acc
 | [],_,_=>rfl
 | (name,kind)::r,n,acc=>by
  unfold cellsFrom;split
  ·rw[bP r (n+1) ((name,n)::acc),bP r (n+1) [(name,n)]];simp
  ·exact bP r n acc
def gW:∀ {l m:List (Str×α)},(l++m).lookup x=some c->l.lookup x=some c\/(l.lookup x=none/\m.lookup x=some c)
 | [],_,h=>.inr ⟨rfl,h⟩
 | (k,v)::r,m,h=>by
  have ih:=@gW α x c r m;rw[xB,zY] at h;rw[zY];cases e:x == k with
  | true=>rw[e] at h;exact .inl h
  | false=>rw[e] at h;exact ih h
def gX:∀ {l m:List (Str×α)},l.lookup x=some c->(l++m).lookup x=some c
 | [],_,h=>by cases h
 | (k,v)::r,m,h=>by
  have ih:=@gX α x c r m;rw[zY] at h;rw[xB,zY];cases e:x == k with
  | true=>rw[e] at h;exact h
  | false=>rw[e] at h;exact ih h
def fX:∀ {l m:List (Str×α)},l.lookup x=none->(l++m).lookup x=m.lookup x
 | [],_,_=>rfl
 | (k,v)::r,m,h=>by
  have ih:=@fX α x r m;rw[zY] at h;rw[xB,zY];cases e:x == k with
  | true=>rw[e] at h;cases h
  | false=>rw[e] at h;exact ih h
def eX:∀ (names:List (Str×NameKind)) (n:Nat) (x:Str) (c:Addr),(x,c)∈cellsFrom n names []->(x,NameKind.cell)∈names
 | [],_,_,_,h=>by cases h
 | (name,kind)::r,n,x,c,h=>by
  unfold cellsFrom at h;split at h
  ·rename_i hk;rw[bP] at h;rcases List.mem_append.mp h with h|h
   ·exact zC _ (eX r _ x c h)
   ·have:(x,c)=(name,n):=by simpa using h
    cases this;have:kind=.cell:=by simpa using hk
    subst this;exact zE
  ·exact zC _ (eX r n x c h)
def g8(env:Env):List (Str×NameKind)->List (Str×Addr)->List (Str×Addr)
 | [],acc=>acc
 | (n,k)::r,acc=>if k == .free then g8 env r ((n,(env.cells.lookup n).getD 0)::acc) else g8 env r acc
def jf(env:Env):∀ (names:List (Str×NameKind)) (acc:List (Str×Addr)),(∀x∈names,x.2=.free->∃c,env.cells.lookup x.1=some c) ->
  (forIn names acc (λ(p:Str×NameKind) (cs:List (Str×Addr))=>(if p.2 == .free then (do let a <- cellOf env p.1;pure (.yield ((p.1,a)::cs))) else pure (.yield cs):Sem (ForInStep (List (Str×Addr))))))=pure (g8 env names acc)
 | [],acc,_=>rfl
 | (n,k)::r,acc,h=>by
  rw[List.forIn_cons];have hr:=λx hx=>h x (zC _ hx);unfold g8;by_cases hk:k=.free
  ·let⟨c,hc⟩:=h (n,k) zE hk;subst hk;have e1:cellOf env n=pure c:=by
    have Ri:env.cells.lookup n=some c:=hc;unfold cellOf;rw[Ri]
   have Ri:env.cells.lookup n=some c:=hc;simp?[beq_self_eq_true,xD,e1,pure_bind,Ri,qD];exact jf env r _ hr
  ·have hb:(k == NameKind.free)=false:=by simpa using hk
   simp?[hb,yK,qL,pure_bind];exact jf env r _ hr
def gN{env:Env}(h:∀x∈scope.names,x.2=.free->∃c,env.cells.lookup x.1=some c):closureFor scope env=pure (g8 env scope.names []):=by
 have:=jf env scope.names [] h;unfold closureFor;exact (bind_pure _).trans this
def lO{env:Env}:∀ {names:List (Str×NameKind)}{acc:List (Str×Addr)},(∀x∈names,x.2=.free->∃c,env.cells.lookup x.1=some c)->(∀x c,(x,c)∈acc->env.cells.lookup x=some c) ->
  ∀x c,(x,c)∈g8 env names acc->env.cells.lookup x=some c
 | [],acc,_,ha,x,c,hm=>ha x c hm
 | (n,k)::r,acc,h,ha,x,c,hm=>by
  unfold g8 at hm;have hr:=λx hx=>h x (zC _ hx);split at hm
  ·rename_i hk;have Sj:k=.free:=by simpa using hk
   let⟨c',hc⟩:=h (n,k) zE Sj;have hc:env.cells.lookup n=some c':=hc;refine lO hr (λy d hy=>?_) x c hm;rcases List.mem_cons.mp hy with e|hy
   ·cases e;rw[hc];rfl
   ·exact ha y d hy
  ·exact lO hr ha x c hm
def ia{env:Env}:∀ {names:List (Str×NameKind)}{acc:List (Str×Addr)}{x:Str},(names.lookup x=some .free\/∃c,acc.lookup x=some c)->∃c,(g8 env names acc).lookup x=some c
 | [],acc,x,h=>by
  rcases h with h|h
  ·cases h
  ·exact h
 | (n,k)::r,acc,x,h=>by
  unfold g8;split
  ·rename_i hk;refine ia ?_;rcases h with h|⟨c,h⟩
   ·rw[zY] at h;cases e:x == n with
    | true=>exact .inr ⟨_,by rw[zY,e]⟩
    | false=>rw[e] at h;exact .inl h
   ·refine .inr ?_;rw[zY];cases e:x == n with
    | true=>exact⟨_,rfl⟩
    | false=>exact⟨c,h⟩
  ·rename_i hk;refine ia ?_;rcases h with h|h
   ·rw[zY] at h;cases e:x == n with
    | true =>
     rw[e] at h;cases h;exact absurd rfl hk
    | false=>rw[e] at h;exact .inl h
   ·exact .inr h
def kj{env:Env}:∀ {names:List (Str×NameKind)}{x:Str}{k:NameKind},names.lookup x=some k ->
  (names.map λ(n,k)=>if (k == NameKind.free&&env.scope.kind == .function&&env.kindOf n == some .cell) then (n,NameKind.cell) else (n,k)).lookup x=some (if (k == NameKind.free&&env.scope.kind == .function&&env.kindOf x == some .cell) then NameKind.cell else k)
 | [],_,_,h=>by cases h
 | (n,k)::r,x,k',h=>by
  have ih:=@kj env r x k';rw[zI];dsimp only;cases hx:x == n with
  | true =>
   have e:x=n:=by simpa using hx
   subst e;rw[zY,hx] at h;cases h;split<;>simp[zY, *]
  | false =>
   rw[zY,hx] at h;have ih:=ih h;split
   ·rw[zY,hx];exact ih
   ·rw[zY,hx];exact ih
def mC{env:Env}:∀ {names:List (Str×NameKind)}{x:Str},names.lookup x=none ->
  (names.map λ(n,k)=>if (k == NameKind.free&&env.scope.kind == .function&&env.kindOf n == some .cell) then (n,NameKind.cell) else (n,k)).lookup x=none
 | [],_,h=>rfl
 | (n,k)::r,x,h=>by
  have ih:=@mC env r x;rw[zI];dsimp only;cases hx:x == n with
  | true=>rw[zY,hx] at h;cases h
  | false =>
   rw[zY,hx] at h;split
   ·rw[zY,hx];exact ih h
   ·rw[zY,hx];exact ih h
def cu(X:Cx)(scope:Scope)(C:Addr):Env :=
 { scope:=relabel scope X.env,locals:=C,globals:=X.env.globals,cells:=cellsFrom (C+1) scope.names (g8 X.env scope.names []),qual:=X.env.qual,func:=none,code:=X.env.code,frame:=X.env.frame,builtins:=X.env.builtins }
def aq(X:Cx)(scope:Scope)(N:List Str)(fp:List Addr)(s:Shared)(H:Hp):Cx :=
 { X with N:=N,Qz:=s,Qn:=H,env:=cu X scope s.heap.objs.size,outer:=X.stack,ex:=fp,fn:=λx=>decide (scope.names.lookup x=some .cell),pn:=[],xe:=λ_ _=>False }
def nZ{M:Model}{A:Around}{E:Value->Shared->Prop}{globals:Addr}{cl:List (Str×Addr)}{qual:Str}{env:Env}
  (hQ:∀h',h'.Ns s.heap.objs.size (λ_=>none)->(∀b o,s.heap.get? b=some o->h'.get? b=some o)->CellsOk h' (s.heap.objs.size+1) (cellsFrom (s.heap.objs.size+1) scope.names []) ->
   Q { scope:=scope,locals:=s.heap.objs.size,globals:=globals,cells:=cellsFrom (s.heap.objs.size+1) scope.names cl,qual:=qual,func:=none,code:=env.code,frame:=env.frame,builtins:=env.builtins } { s with heap:=h' }) :
  wpAny M A (newFunctionEnv scope globals cl [] qual none .none (some env)) Q E s:=by
 simp?[newFunctionEnv,Option.isSome_some,xD];refine zS (wpAny_alloc ?_);refine zS (wpAny_layCells _ (λname kind cells=>by cases ZH:kind == NameKind.cell<;>simp[ZH]) _ _ _ _ ?_);have ok:=cellsFrom_ok scope.names (s.heap.push { cls:=.type "dict",data:=.dict #[] }) (s.heap.objs.size+1) [] ⟨λ_ _ hm=>(nomatch hm),List.Pairwise.nil⟩ (by rw[xF];exact yI _);rw[xF] at ok;rw[show ({ s with heap:=s.heap.push { cls:=.type "dict",data:=.dict #[] } }:Shared).heap.objs.size=s.heap.objs.size+1 from xF ..];rw[List.forIn_nil];refine zS (zT (zT ?_));exact hQ _ ((Heap.Ns.new s.heap (.type "dict")).keeps (pushCells_keeps _ _)) (λb o e=>pushCells_keeps _ _ b o (zR _ e)) ok
section
variable {X:Cx}{pins:List (Addr×Obj)}{σ σ':St}{H:Hp}{s:Shared}{fp:List Addr}{scope:Scope}{N:List Str}{h4:Heap}
def iH(ok:X.Ok)(QO:∀x∈scope.names,x.2=.free->X.env.kindOf x.1=some .cell\/X.env.kindOf x.1=some .free):∀x∈scope.names,x.2=.free->∃c,X.env.cells.lookup x.1=some c :=
 λx hx hk=>ok.has x.1 (QO x hx hk)
def lV(h:scope.names.lookup x=some k):(cu X scope C).kindOf x=some k\/(k=.free/\(cu X scope C).kindOf x=some .cell):=by
 have q:=kj (env:=X.env) h;have q':(cu X scope C).kindOf x=some (if (k == NameKind.free&&X.env.scope.kind == .function&&X.env.kindOf x == some .cell) then NameKind.cell else k):=q;rw[q'];split
 ·rename_i hc;have:k=.free:=by
   simp?[zF,kP] at hc;exact hc.1.1
  exact .inr ⟨this,rfl⟩
 ·exact .inl rfl
def i9(h:(cu X scope C).kindOf x=some k):scope.names.lookup x=some k\/(k=.cell/\scope.names.lookup x=some .free):=by
 cases e:scope.names.lookup x with
 | none =>
  have q:(cu X scope C).kindOf x=none:=mC (env:=X.env) e;rw[q] at h;cases h
 | some k' =>
  rcases lV (X:=X) (C:=C) e with q|⟨q,q'⟩
  ·rw[q] at h;cases h;exact .inl rfl
  ·rw[q'] at h;cases h;subst q;exact .inr ⟨rfl,rfl⟩
def sS(I:Inv X pins σ H s)(hf:∀b∈fp,d9 X pins H b)(QV:∀b∈fp,b < s.heap.objs.size)(hk:scope.kind=.function)
  (QO:∀x∈scope.names,x.2=.free->X.env.kindOf x.1=some .cell\/X.env.kindOf x.1=some .free)
  (RT:h4.Ns s.heap.objs.size (λ_=>none)) (Sk:∀b o,s.heap.get? b=some o->h4.get? b=some o) (UJ:CellsOk h4 (s.heap.objs.size+1) (cellsFrom (s.heap.objs.size+1) scope.names []))
  (SX:∀ {x:Str},(x,NameKind.cell)∈scope.names->(x,NameKind.free)∈scope.names->False) (R1:∀ (i:Nat) (x:Str) (v:V),N[i]?=some x->σ'[i]?=some (some v)->scope.names.lookup x=some .free/\∃j:Nat,X.N[j]?=some x/\σ[j]?=some (some v)) (hlen:σ'.length=N.length) (t':Nat) :
  Inv (aq X scope N fp s H) [] σ' H { s with heap:=h4,toks:=t' }:=by
 have Q5:=iH I.ok QO;have YI:∀x c,(g8 X.env scope.names []).lookup x=some c->X.env.cells.lookup x=some c:=λx c e=>lO Q5 (λ_ _ z=>by cases z) x c (mem_of_lookup e);have look:∀x c,(cu X scope s.heap.objs.size).cells.lookup x=some c->(x,c)∈cellsFrom (s.heap.objs.size+1) scope.names []\/X.env.cells.lookup x=some c:=λx c e=>by
  have e:(cellsFrom (s.heap.objs.size+1) scope.names (g8 X.env scope.names [])).lookup x=some c:=e;rw[bP] at e;rcases gW e with q|⟨_,q⟩
  ·exact .inl (mem_of_lookup q)
  ·exact .inr (YI x c q)
 have old:∀x c,X.env.cells.lookup x=some c->c < s.heap.objs.size:=λx c e=>let ⟨_,q⟩:=I.cell x c e;q.lt;have new:∀x c,(x,c)∈cellsFrom (s.heap.objs.size+1) scope.names []->s.heap.objs.size < c:=λx c e=>(UJ.empty x c e).2;refine⟨⟨I.ok.mod,?_,I.ok.glob,I.ok.blt,yI _,?_,?_,?_,I.ok.hd,I.ok.frames,.inl rfl,?_,I.bs,yA I.ok.Tz I.sz,?_,?_,I.stack,I.Rh⟩,rfl,I.bare,Un.kept Sk,⟨_,RT,?_⟩,?_,I.Qt.fresh (yI _),?_,
  λp hp=>absurd (show p∈([]:List (Addr×Obj)) from hp) (by simp),I.Qt.kept Sk,hlen⟩
 ·show (relabel scope X.env).kind=_;exact hk
 ·intro x y c e1 e2;rcases look x c e1 with a|a<;>rcases look y c e2 with b|b
  ·exact name_of_addr UJ.apart a b
  ·exact absurd (vO (new x c a) (old y c b)) (qB _)
  ·exact absurd (vO (new y c b) (old x c a)) (qB _)
  ·exact I.ok.inj x y c a b
 ·intro x hx;show ∃c,(cellsFrom (s.heap.objs.size+1) scope.names (g8 X.env scope.names [])).lookup x=some c;refine Option.isSome_iff_exists.mp (W.cellsFrom_some _ _ _ ?_);rcases hx with hx|hx
  ·rcases i9 hx with q|⟨_,q⟩
   ·exact .inl q
   ·exact .inr (Option.isSome_iff_exists.mpr (ia (.inl q)))
  ·rcases i9 hx with q|⟨q,_⟩
   ·exact .inr (Option.isSome_iff_exists.mpr (ia (.inl q)))
   ·cases q
 ·intro x c TF e;have TF:scope.names.lookup x=some .cell:=yM TF;have e:(cellsFrom (s.heap.objs.size+1) scope.names (g8 X.env scope.names [])).lookup x=some c:=e;let⟨c',Ri⟩:=nC (n:=s.heap.objs.size+1) TF;rw[bP,gX Ri] at e;cases e;exact jL (new x c (mem_of_lookup Ri))
 ·intro b hb;refine⟨yN (QV b hb),λx c e z=>?_⟩;rcases look x c e with a|a
  ·exact absurd (vO (new x c a) (by rw[z];exact QV b hb)) (qB _)
  ·exact (hf b hb).2.2.2.2.1 x c a z
 ·intro b o e hb;let⟨f0,f1,f2,f3,f4,f5⟩:=hf b hb;rcases f3 with z|z
  ·exact I.ok.RF b o e z
  ·exact absurd (zP (zV (I.ok.bs b o e).1) z) (qB _)
 ·intro b hb hz;let⟨f0,f1,f2,f3,f4,f5⟩:=hf b hb;rcases List.mem_cons.mp (I.RX b hz) with z|z
  ·exact f1 z
  ·exact f2 z
 ·intro i x v e1 e2 e3;let⟨Tt,j,hj,hv⟩:=R1 i x v e1 e2;have hm:(x,NameKind.free)∈scope.names:=mem_of_lookup Tt;let⟨m,hn,hl⟩:=I.loc;have kx:=QO _ hm rfl;let⟨u,ru,lk⟩:=hl j x v hj hv (kx.elim (λk=>.inr (.inl k)) λk=>.inr (.inr k));refine⟨u,ru,.inr ⟨?_,?_⟩⟩
  ·rcases lV (X:=X) (C:=s.heap.objs.size) Tt with q|⟨_,q⟩
   ·exact .inr q
   ·exact .inl q
  ·rcases lk with ⟨k,_⟩|⟨_,c,ec,ic⟩
   ·have k:X.env.kindOf x=some .local:=k;rcases kx with k'|k'<;>· rw[k] at k';cases k'
   ·let⟨c',Ri⟩:=ia (env:=X.env) (acc:=[]) (.inl Tt);have e':=YI x c' Ri;rw[ec] at e';cases e';refine⟨c,?_,ic.keeps Sk⟩;show (cellsFrom (s.heap.objs.size+1) scope.names (g8 X.env scope.names [])).lookup x=some c;rw[bP];cases eo:(cellsFrom (s.heap.objs.size+1) scope.names []).lookup x with
    | none=>rw[fX eo];exact Ri
    | some d =>
     have ZI:=eX _ _ _ _ (mem_of_lookup eo);exact (SX ZI hm).elim
 ·intro x c e;rcases look x c e with a|a
  ·exact⟨_,(UJ.empty x c a).1⟩
  ·let⟨v,q⟩:=I.cell x c a;exact⟨v,q.keeps Sk⟩
 ·intro x c e;rcases look x c e with a|a
  ·exact I.Qt.fresh (jL (new x c a))
  ·exact I.QE x c a
end
abbrev nU(ifs:List Expr)(env:Env):Sem Bool:=forIn ifs true λc r=>if r=true then do let ok <- isTrue c env (eval c env);pure (ForInStep.yield ok) else pure (ForInStep.yield r)
def Fd(X:Cx)(ifs:List Expr)(t:TT):Prop :=
 ∀ (pins:List (Addr×Obj)) (s:Shared) (σ:St) (H:Hp) (Q:Bool->Hp->Prop),Inv X pins σ H s->t σ H Q->wpAny (model X.prog X.w) X.A (nU ifs X.env) (TP X pins σ Q) X.xe s
def Gw:Fd X [] (λ_ H Q=>Q true H):=λ_ _ _ H _ I h=>wpAny_tests_nil ⟨H,I,h⟩
def Fq(h:PT X c t):Fd X [c] t:=λpins s σ H Q I q=>wpAny_tests_one (h pins s σ H Q I q)
def rf{R:Result->Shared->Prop}{elt target iter:Expr}{ifs:List Expr}{scope:Scope}{pos:Pos}{acc:Value}{env:Env}(I:Nat->Shared->Prop)
  (turn:∀n s,I n s->wpAny (model prog w) A (pyNext it) (λr Qs=>match r with
   | none=>R (.ok .next) Qs
   | some v=>wpAny (model prog w) A (letOwnedTupleGo target it v) (λ_ RK=>wpAny (model prog w) A (assign target env v) (λ_ R0 =>
     wpAny (model prog w) A (nU ifs env) (λok Ro =>
      if ok=true then wpAny (model prog w) A (eval elt env) (λx Ry =>
       wpAny (model prog w) A (call (.builtin "list.append") [acc,x]) (λ_ SY=>∃m,m < n/\I m SY) (λ_ _=>False) Ry) (λ_ _=>False) Ro
      else ∃m,m < n/\I m Ro) (λ_ _=>False) R0) (λ_ _=>False) RK) (λ_ _=>False) Qs) (λ_ _=>False) s)
  (n:Nat) (h:I n s) :
  codeAny (model prog w) A (.compLoop (.ListComp elt [⟨target,iter,ifs,0⟩] scope pos) 0 it acc env) R s:=by
 refine codeAny_loop rfl I (λn s hI=>?_) n h;show wpAny _ A ((compTurn (.ListComp elt [⟨target,iter,ifs,0⟩] scope pos) 0 it acc env).onRaise (λx=>do noteFrame x env;theTreesLotGoes x)) _ _ s;refine wpAny_noted ?_;rw[compTurn_list];refine zS (kK (zS (yW (turn n s hI) (λr Qs S5=>?_) λ_ _ h'=>h'.elim)));cases r with
 | none=>exact zT S5
 | some v =>
  refine zS (yW S5 (λ_ RK S6=>?_) λ_ _ h'=>h'.elim);refine zS (yW S6 (λ_ R0 UK=>zS (yW UK (λok Ro S7=>?_) λ_ _ h'=>h'.elim)) λ_ _ h'=>h'.elim);cases ok with
  | false=>exact zT ⟨rfl,S7⟩
  | true =>
   exact zS (zS (yW S7 (λx Ry UL=>zS (yW UL (λ_ SY UM=>zT (zT ⟨rfl,UM⟩)) λ_ _ h'=>h'.elim)) λ_ _ h'=>h'.elim))
def se(X:Cx)(pins:List (Addr×Obj))(σ:St)(Q:VK)(acc:Value)(C:Addr)(r:Result)(s5:Shared):Prop :=
 ∃ (D:Addr) (H5:Hp) (m:Str->Option Value),acc=.ref D/\r=.ok .next/\Inv X pins σ H5 s5/\s5.heap.Ns C m/\d9 X pins H5 C/\Q (.ref D) H5
def u0(J:It)(g:TG)(tt:TT)(te:TE)(D:Addr)(ZJ:St)(H0:Hp)(Q:VK):Prop :=
 ∃W:Nat->Nat->St->Hp->Prop,(∃m,W 0 m ZJ H0)/\∀i m σ H,W i m σ H ->
  (J.stop i H/\Q (.ref D) H)\/(J.go i H/\∀x H',J.Tp i H x H'->g x σ H' λRZ H2=>tt RZ H2 λb H3 =>
   if b=true then te RZ H3 λv H4=>∃ys,H4 D=some (.lst ys)/\ys.length < sizeLine/\∃m',m' < m/\W (i+1) m' RZ (upd H4 D (.lst (ys++[v])))
   else ∃m',m' < m/\W (i+1) m' RZ H3)
section
variable {X:Cx}{pins:List (Addr×Obj)}{σ σ':St}{H:Hp}{s:Shared}{scope:Scope}{N:List Str}
 {tg iter elt:Expr}{ifs:List Expr}{pos:Pos}{g:TG}{tt:TT}{te:TE}
def pD(hc:X.calm=true)(I:Inv X pins σ H s)(T:Turn X.prog X.w X.K tg J fp it tn)(st:tn 0 s.heap)(hf:∀b∈fp,d9 X pins H b)(hk:scope.kind=.function)
  (QO:∀x∈scope.names,x.2=.free->X.env.kindOf x.1=some .cell\/X.env.kindOf x.1=some .free) (SX:∀ {x:Str},(x,NameKind.cell)∈scope.names->(x,NameKind.free)∈scope.names->False)
  (R1:∀ (i:Nat) (x:Str) (v:V),N[i]?=some x->σ'[i]?=some (some v)->scope.names.lookup x=some .free/\∃j:Nat,X.N[j]?=some x/\σ[j]?=some (some v)) (hlen:σ'.length=N.length)
  (hY:∀fp s H,PG (aq X scope N fp s H) tg g/\Fd (aq X scope N fp s H) ifs tt/\PE (aq X scope N fp s H) elt te)
  (Wl:∀D,H D=none->u0 J g tt te D σ' (upd H D (.lst [])) Q) {E:Value->Shared->Prop} :
  wpAny (model X.prog X.w) X.A (newList []) (λacc Ro=>wpAny (model X.prog X.w) X.A (newFunctionEnv scope X.env.globals (g8 X.env scope.names []) [] X.env.qual none .none (some X.env)) (λcenv Ry =>
   codeAny (model X.prog X.w) X.A (.compStart (.ListComp elt [⟨tg,iter,ifs,0⟩] scope pos) 0 (.ref it) acc { cenv with scope:=relabel scope X.env }) (se X pins σ Q acc cenv.locals) Ry) E Ro) E s:=by
 refine qH ?_;have QV:∀b∈fp,b < s.heap.objs.size:=λb hb=>let ⟨o,e,_⟩:=T.obj _ _ st b hb;zV e;have I3:=I.SS (ys:=[]) (its:=[]) (t':=s.toks) .nil (xR _);have hD:H s.heap.objs.size=none:=I.fresh;let⟨W,⟨m0,w0⟩,turn⟩:=Wl _ hD;generalize e3:({ s with heap:=s.heap.push { cls:=.type "list",data:=.seq ([]:List Value).toArray },toks:=s.toks }:Shared)=s3 at I3;have VD:s3.heap=s.heap.push { cls:=.type "list",data:=.seq ([]:List Value).toArray }:=by rw[<- e3]
 generalize WX:upd H s.heap.objs.size (.lst [])=H3 at I3 w0 turn;have QW:s.heap.objs.size < s3.heap.objs.size:=by rw[VD,xF];exact jY _
 have WY:∀b o,s.heap.get? b=some o->s3.heap.get? b=some o:=λb o e=>by rw[VD];exact zR _ e
 generalize s.heap.objs.size=D at *;have f3:∀b∈fp,d9 X pins H3 b:=λb hb=>by
  let⟨f0,f⟩:=hf b hb;refine⟨?_,f⟩;rw[<- WX,ay (yN (QV b hb))];exact f0
 have SJ:tn 0 s3.heap:=T.keep _ _ _ st λb _ o e=>WY b o e;refine nZ λh4 RT UN UJ=>?_;dsimp only;have I4:=sS (N:=N) (σ':=σ') (fp:=fp) I3 f3 (λb hb=>vO (QV b hb) QW) hk QO RT UN UJ SX R1 hlen s3.toks;have fC:∀H',H' s3.heap.objs.size=none->d9 X pins H' s3.heap.objs.size:=λH' hn=>I3.Rm (yI _) hn;let⟨hg,S8,TM⟩:=hY fp s3 H3;have UO:∀b∈fp,∀H':Hp,H' b=none->d9 (aq X scope N fp s3 H3) [] H' b:=λb hb H' hn=>by
  refine⟨hn,(I4.ok.Uc b hb).1,I4.ok.RG b hb,.inl hb,(I4.ok.Uc b hb).2,λp hp=>?_⟩;cases hp
 have loop:codeAny (model X.prog X.w) X.A (.compLoop (.ListComp elt [⟨tg,iter,ifs,0⟩] scope pos) 0 (.ref it) (.ref D) (cu X scope s3.heap.objs.size)) (se X pins σ Q (.ref D) s3.heap.objs.size) { s3 with heap:=h4 }:=by
  refine rf (λn s'=>∃i σ' H',Inv (aq X scope N fp s3 H3) [] σ' H' s'/\tn i s'.heap/\(∀b∈fp,H' b=none)/\W i n σ' H') ?_ m0
   ⟨0,σ',H3,I4,T.keep _ _ _ SJ λb _ o e=>UN b o e,λb hb=>(f3 b hb).1,w0⟩
  rintro n s5 ⟨i,Sl,H5,I5,TH,UB,w5⟩;rcases turn i n Sl H5 w5 with ⟨stop,q⟩|⟨go,step⟩
  ·refine bg (T.done (aq X scope N fp s3 H3) rfl rfl rfl hc i [] s5 Sl H5 _ I5 (λb hb=>UO b hb H5 (UB b hb)) TH stop) λr s6 ⟨hr,I6⟩=>?_;subst hr;let⟨m,WZ,_⟩:=I6.loc;refine⟨D,H5,m,rfl,rfl,I3.SN I6.os I6.base I6.Qt I6.bare (λb hb=>?_),WZ,fC H5 I6.free,q⟩;let⟨f0,f1,f2,f4,f5,f6⟩:=f3 b hb;exact⟨f4,f1,f5,f6⟩
  ·refine bg (T.item (aq X scope N fp s3 H3) rfl rfl rfl hc i [] s5 Sl H5 _ I5 (λb hb=>UO b hb H5 (UB b hb)) TH go) λr s6 ⟨u,hr,h6⟩=>?_;subst hr;refine bg h6 λ_ s7 ⟨x,H7,I7,r7,y7,UP,W0⟩=>?_;have W2:=I7.pinned (λb hb=>UO b hb H7 (W0 b hb)) (T.obj _ _ UP);have again:∀ {pl:List (Addr×Obj)}{TN:St}{H9:Hp}{s9:Shared}{n':Nat},Inv (aq X scope N fp s3 H3) ([]++l6 fp s7.heap) TN H9 s9->W (i+1) n' TN H9->∃i σ' H',Inv (aq X scope N fp s3 H3) [] σ' H' s9/\tn i s9.heap/\(∀b∈fp,H' b=none)/\W i n' σ' H':=λ{pl TN H9 s9 n'} I9 w9=>by
    refine⟨i+1,TN,H9,I9.QP,T.keep _ _ _ UP λb hb o e=>(I9.pin (b,o) (yB _ (yB _ (dC hb e)))).1,λb hb=>?_,w9⟩;let⟨o,e,d⟩:=T.obj _ _ UP b hb;exact (I9.pin (b,o) (yB _ (yB _ (dC hb e)))).2.1
   refine bg (hg _ s7 Sl H7 x u _ W2 r7 (step x H7 y7)) λ_ s8 ⟨TQ,H8,I8,q8⟩=>?_;refine bg (S8 _ s8 TQ H8 _ I8 q8) λok s9 ⟨H9,I9,q9⟩=>?_;cases ok with
   | false =>
    rw[yJ (by decide)] at q9;rw[yJ (by decide)];let⟨m',hm,w9⟩:=q9;exact⟨m',hm,again (pl:=[]) I9 w9⟩
   | true =>
    rw[yH rfl] at q9;rw[yH rfl];refine bg (TM _ s9 TQ H9 _ I9 q9) λy W4 ⟨v,W5,W6,W7,ys,UQ,hz,m',hm,W8⟩=>?_;refine bg (iS (X:=aq X scope N fp s3 H3) _ W4 TQ W5 (.ref D) [v] (.ref D) [y] (λ_ H'=>W (i+1) m' TQ H') W6 rfl (.cons W7 .nil) ⟨D,ys,v,rfl,rfl,UQ,hz,W8⟩) λ_ ZK ⟨_,ZL,W9,_,Xa⟩=>?_;exact⟨m',hm,again (pl:=[]) W9 Xa⟩
 exact codeAny_compStart_list loop (T.self _ 0 _ _ _ (T.keep _ _ _ SJ λb _ o e=>UN b o e) loop)
end
def uM(wi:TI)(g:TG)(tt:TT)(te:TE)(Q6:St->St):TE:=λσ H Q=>wi σ H λJ H1=>∀D,H1 D=none->u0 J g tt te D (Q6 σ) (upd H1 D (.lst [])) Q
structure fM(X:Cx)(scope:Scope)(N:List Str)(Q6:St->St):Prop where
 kind:scope.kind=.function
 free:∀x∈scope.names,x.2=.free->X.env.kindOf x.1=some .cell\/X.env.kindOf x.1=some .free
 dup:∀ {x:Str},(x,NameKind.cell)∈scope.names->(x,NameKind.free)∈scope.names->False
 loc:∀x∈scope.names,x.2=.local -> scope.names.lookup x.1=some .local
 Wn:∀ (σ:St) (i:Nat) (x:Str) (v:V),N[i]?=some x->(Q6 σ)[i]?=some (some v)->scope.names.lookup x=some .free/\∃j:Nat,X.N[j]?=some x/\σ[j]?=some (some v)
 len:∀σ:St,(Q6 σ).length=N.length
section
variable {X:Cx}{scope:Scope}{N:List Str}{Q6:St->St}{tg iter elt:Expr}{ifs:List Expr}{pos:Pos}{wi:TI}{g:TG}{tt:TT}{te:TE}
def GI(hc:X.calm=true)(S:fM X scope N Q6)(hi:PI X tg iter wi)
  (hY:∀fp s H,PG (aq X scope N fp s H) tg g/\Fd (aq X scope N fp s H) ifs tt/\PE (aq X scope N fp s H) elt te)
  (hs:∀x,foldedSetIterable iter X.env x=pure x:=by intro _;rfl):PE X (.ListComp elt [⟨tg,iter,ifs,0⟩] scope pos) (uM wi g tt te Q6):=by
 intro pins s σ H Q I h;rw[eval_ListComp];refine wpAny_comprehension_free (use:=none) rfl hs (gN (iH I.ok S.free)) S.kind S.loc (bg (hi pins s σ H _ I h) λv s1 h1=>bg h1 λVt s2 h2=>?_);let⟨it,fp,tn,J,H2,e,I2,T,SI,f2,rd⟩:=h2;subst e;refine bg (pD (iter:=iter) (pos:=pos) (E:=X.xe) hc I2 T SI f2 S.kind S.free S.dup (S.Wn σ) (S.len σ) hY rd) λacc s3 h3=>bg h3 λcenv s4 h4=>?_;refine jK h4 λr s5 h5=>?_;let⟨D,H5,m,rfl,rfl,I5,hn,fC,q⟩:=h5;refine⟨m,hn,λh' sb=>?_⟩;let⟨f0,f1,S9,f3,f4,f5⟩:=fC;exact⟨.ref D,H5,I5.turned (t':=s5.toks) (λb o hb e=>(sb.2 b hb).trans e) f0 f1 f3 f4 f5,rfl,q⟩
def F4(hc:X.calm=true)(S:fM X scope N Q6)(hi:PI X tg iter wi)
  (hY:∀fp s H,PG (aq X scope N fp s H) tg g/\Fd (aq X scope N fp s H) ifs tt/\PE (aq X scope N fp s H) elt te)
  (hN:X.N.Nodup) (Xb:X.N[i]?=some y) (hy:X.env.scope.names.lookup y=some .local)
  (Xc:swapsWith (.ListComp elt [⟨tg,iter,ifs,0⟩] scope pos) (some (.Name y py)) Rp.line X.env=pure true)
  (hs:∀x,foldedSetIterable iter X.env x=pure x:=by intro _;rfl):PS X (.Assign [.Name y py] (.ListComp elt [⟨tg,iter,ifs,0⟩] scope pos) Rp) (Cr (uM wi g tt te Q6) (sR i)):=by
 intro pins s σ H D I h;rw[exec_Assign_Name_used _ _ _ _ Xc];refine zS (kK (zS ?_));show wpAny _ X.A (do let _ <- comprehension (.ListComp elt [⟨tg,iter,ifs,0⟩] scope pos) scope X.env _ (newList []) false (eval iter X.env) (some (assign (.Name y py) X.env))) _ _ s;refine zS (yW (wpAny_comprehension_free (use:=some (assign (.Name y py) X.env)) (Q:=λ_ s'=>SP X pins D .next s') rfl hs (gN (iH I.ok S.free)) S.kind S.loc
  (bg (hi pins s σ H _ I h) λv s1 h1=>bg h1 λVt s2 h2=>?_)) (λ_ s' hq=>zT (zT hq)) λ_ _ e=>e)
 let⟨it,fp,tn,J,H2,e,I2,T,SI,f2,rd⟩:=h2;subst e;refine bg (pD (iter:=iter) (pos:=pos) (E:=X.xe) hc I2 T SI f2 S.kind S.free S.dup (S.Wn σ) (S.len σ) hY rd) λacc s3 h3=>bg h3 λcenv s4 h4=>?_;refine jK h4 λr s5 h5=>?_;let⟨D',H5,m,rfl,rfl,I5,hn,fC,q⟩:=h5;show wpAny _ X.A (assign (.Name y py) X.env (.ref D')) _ _ _;refine wpAny_assign_Name (l5 (v:=.ref D') I5 hN Xb (.inl hy) rfl (λs6 I6 ⟨a,sa,ha⟩=>?_) (.inr hy));let⟨f0,f1,S9,f3,f4,f5⟩:=fC;have QS:cenv.locals≠a:=by
  rcases ha with z|z
  ·rw[z];exact f1
  ·exactλw=>f4 y a z w.symm
 refine⟨m,hn.sameBut sa QS,λh' sb=>?_⟩;exact⟨_,H5,I6.turned (t':=s6.toks) (λb o hb e=>(sb.2 b hb).trans e) f0 f1 f3 f4 f5,q⟩
end
abbrev Ob(X:Cx)(qual:Str)(scope:Scope)(f c L:Addr):Env:=W.envX qual scope L f (.ref c) (g8 X.env scope.names [])
def IS(X:Cx)(A:Around)(qual:Str)(scope:Scope)(N:List Str)(f c:Addr)(s:Shared)(H:Hp):Cx where
 prog:=X.prog
 w:=X.w
 K:=X.K
 mg:=X.mg
 base:=X.base
 A:=A.deeper (Ob X qual scope f c s.heap.objs.size)
 N:=N
 Qz:=s
 Qn:=H
 env:=Ob X qual scope f c s.heap.objs.size
 outer:=X.stack
 stack:=Ob X qual scope f c s.heap.objs.size::X.stack
 ex:=[]
 fn:=λ_=>false
 calm:=true
 pn:=[]
 xe:=λ_ _=>False
end L2
namespace Dl
open PySem L2 PySem.Spec PyProof.Rows
abbrev D:=PyData
mutual
def Rep(K:W.Frag)(H:Hp):D->V->Prop
 | .none,v=>v=.Qo
 | .bool b,v=>v=.bl b
 | .int i,v=>v=.int i
 | .str x,v=>v=.str x
 | .tuple ds,v=>∃a vs,v=.ref a/\fU K H a vs/\ar K H ds vs
 | .list ds,v=>∃a vs,v=.ref a/\dM K H a vs/\ar K H ds vs
 | .dict _,_=>False
def ar(K:W.Frag)(H:Hp):List D->List V->Prop
 | [],vs=>vs=[]
 | d::ds,vs=>∃v r,vs=v::r/\Rep K H d v/\ar K H ds r
end
def av{K:W.Frag}(e:aM H H')(h:fU K H a xs):fU K H' a xs:=by
 rcases h with (h|⟨o,h⟩)|h
 ·exact .inl (.inl (e _ _ h))
 ·exact .inl (.inr ⟨o,e _ _ h⟩)
 ·exact .inr h
mutual
theorem Rep.mono{K:W.Frag}{H H':Hp}(e:aM H H'):∀ {d:D}{v:V},Rep K H d v->Rep K H' d v
 | .none,_,h=>h
 | .bool _,_,h=>h
 | .int _,_,h=>h
 | .str _,_,h=>h
 | .tuple ds,_,h=>by
  simp?[Rep] at h ⊢;let⟨a,vs,rfl,q,r⟩:=h;exact⟨a,vs,rfl,av e q,ar.mono e r⟩
 | .list ds,_,h=>by
  simp?[Rep] at h ⊢;let⟨a,vs,rfl,q,r⟩:=h;exact⟨a,vs,rfl,e.seq q,ar.mono e r⟩
 | .dict _,_,h=>h
theorem ar.mono{K:W.Frag}{H H':Hp}(e:aM H H'):∀ {ds:List D}{vs:List V},ar K H ds vs->ar K H' ds vs
 | [],_,h=>h
 | d::ds,_,h=>by
  simp?[ar] at h ⊢;let⟨v,r,rfl,a,b⟩:=h;exact⟨v,r,rfl,Rep.mono e a,ar.mono e b⟩
end
section
variable {K:W.Frag}
def ar.nil:ar K H [] []:=by simp[ar]
def ar.cons(a:Rep K H d v)(b:ar K H ds vs):ar K H (d::ds) (v::vs):=by
 simp?[ar];exact⟨v,vs,rfl,a,b⟩
def ar.cons_inv(h:ar K H (d::ds) vs):∃v r,vs=v::r/\Rep K H d v/\ar K H ds r:=by simpa only[ar] using h
def ar.nil_inv(h:ar K H [] vs):vs=[]:=by simpa only[ar] using h
def ar.length:∀ {ds:List D}{vs:List V},ar K H ds vs->vs.length=ds.length
 | [],_,h=>by rw[h.nil_inv];rfl
 | d::ds,_,h=>by let⟨v,r,rfl,_,b⟩:=h.cons_inv;simp[ar.length b]
def ar.getD:∀ {ds:List D}{vs:List V}{i:Nat}{d:D},ar K H ds vs->ds[i]?=some d->∃v,vs[i]?=some v/\Rep K H d v
 | [],_,i,d,h,e=>by simp at e
 | d::ds,_,i,d',h,e=>by
  let⟨v',r,rfl,a,b⟩:=h.cons_inv;cases i with
  | zero=>simp at e;subst e;exact⟨v',rfl,a⟩
  | succ i=>simp at e;let⟨v,h1,h2⟩:=ar.getD b e;exact⟨v,by simpa using h1,h2⟩
def ar.append:∀ {ds es:List D}{vs us:List V},ar K H ds vs->ar K H es us->ar K H (ds++es) (vs++us)
 | [],_,_,_,h,g=>by rw[h.nil_inv];exact g
 | d::ds,_,_,_,h,g=>by let⟨v,r,rfl,a,b⟩:=h.cons_inv;exact ar.cons a (ar.append b g)
def ar.take:∀ {ds:List D}{vs:List V}(n:Nat),ar K H ds vs->ar K H (ds.take n) (vs.take n)
 | [],_,n,h=>by rw[h.nil_inv];simp[ar]
 | d::ds,_,0,h=>by simp[ar]
 | d::ds,_,n+1,h=>by let⟨v,r,rfl,a,b⟩:=h.cons_inv;exact ar.cons a (ar.take n b)
def ar.drop:∀ {ds:List D}{vs:List V}(n:Nat),ar K H ds vs->ar K H (ds.drop n) (vs.drop n)
 | [],_,n,h=>by rw[h.nil_inv];simp[ar]
 | d::ds,_,0,h=>h
 | d::ds,_,n+1,h=>by let⟨v,r,rfl,a,b⟩:=h.cons_inv;exact ar.drop n b
def ar.reverse:∀ {ds:List D}{vs:List V},ar K H ds vs->ar K H ds.reverse vs.reverse
 | [],_,h=>by rw[h.nil_inv];simp[ar]
 | d::ds,_,h=>by
  let⟨v,r,rfl,a,b⟩:=h.cons_inv;rw[kJ,kJ];exact ar.append (ar.reverse b) (ar.cons a ar.nil)
end
structure bV(HF H Qp H':Hp):Prop where
 hh:aM H H'
 ff:aM HF Qp
 fh:aM Qp H'
 nw:∀a o,Qp a=some o->HF a=some o\/H a=none
def bV.refl(s:aM HF H):bV HF H HF H:=⟨.refl _,.refl _,s,λ_ _ e=>.inl e⟩
def bV.trans(a:bV HF H Qr H1)(b:bV Qr H1 QC H2):bV HF H QC H2 :=
 ⟨a.hh.trans b.hh,a.ff.trans b.ff,b.fh,λx o e=>(b.nw x o e).elim (λz=>a.nw x o z) λz=>.inr (a.hh.free z)⟩
def cI(h:H p=none):aM H (upd H p o):=λb u e=>by rw[ay (aF e h)];exact e
def bV.new(s:aM HF H)(h:H p=none):bV HF H (upd HF p o) (upd H p o):=by
 have hf:HF p=none:=s.free h;refine⟨cI h,cI hf,λb u e=>?_,λb u e=>?_⟩
 ·by_cases hb:b=p
  ·subst hb;rw[aC] at e ⊢;exact e
  ·rw[ay hb] at e ⊢;exact s b u e
 ·by_cases hb:b=p
  ·subst hb;exact .inr h
  ·rw[ay hb] at e;exact .inl e
def bV.own(s:aM HF H)(h:H p=none):bV HF H HF (upd H p o) :=
 ⟨cI h,.refl _,λb u e=>by rw[ay (aF (s b u e) h)];exact s b u e,λ_ _ e=>.inl e⟩
def bV.freeze(g:bV HF H Qr H1)(h:H p=none)(h1:H1 p=some o)(hf:Qr p=none):bV HF H (upd Qr p o) H1 :=
 ⟨g.hh,g.ff.trans (cI hf),λb u e=>by
  by_cases hb:b=p
  ·subst hb;rw[aC] at e;rw[h1,<- e]
  ·rw[ay hb] at e;exact g.fh b u e,λb u e=>by
  by_cases hb:b=p
  ·subst hb;exact .inr h
  ·rw[ay hb] at e;exact g.nw b u e⟩
def nQ:List Str:=["ways_of","turned_order","fairest"]
def dz(K:W.Frag)(HF:Hp):Prop:=∀ (f:Addr) (oc:Value) (od:Option Addr) (fd:FuncData) (sl:Array (Option Value)) (c P:Addr),K.lookup f=some ⟨oc,od,.func fd,sl⟩->fd.qualname∈nQ->fd.code=.ref c->W.codeHdIn K c P=true->HF P=some (.tab (fd.qualname++".<locals>."++"<lambda>"))
def dz.mono{K:W.Frag}(h:dz K HF)(e:aM HF Qp):dz K Qp:=λf oc od fd sl c P a b d q=>e _ _ (h f oc od fd sl c P a b d q)
abbrev Env:=List (Option D)
structure cK(K:W.Frag)(HF:Hp)(ρ:Env)(σ:L2.St):Prop where
 get:∀ (i:Nat) (d:D),ρ[i]?=some (some d)->∃v,σ[i]?=some (some v)/\Rep K HF d v
 len:ρ.length<=σ.length
 tb:dz K HF
def cK.mono{K:W.Frag}(h:cK K HF ρ σ)(e:aM HF Qp):cK K Qp ρ σ:=⟨λi d q=>let ⟨v,a,b⟩:=h.get i d q;⟨v,a,b.mono e⟩,h.len,h.tb.mono e⟩
def tD(K:W.Frag)(f:Env->Option D):TE:=λσ H Q=>∃HF ρ d,aM HF H/\cK K HF ρ σ/\f ρ=some d/\∀v H' Qp,bV HF H Qp H'->Rep K Qp d v->Q v H'
def DE(X:Cx)(e:Expr)(f:Env->Option D):Prop:=PE X e (tD X.K f)
def tF(K:W.Frag)(f:Env->Option (List D)):TE:=λσ H Q=>∃HF ρ ds,aM HF H/\cK K HF ρ σ/\f ρ=some ds /\
 ∀a vs H' Qp,bV HF H Qp H'->H a=none->Qp a=none->H' a=some (.lst vs)->ar K Qp ds vs->Q (.ref a) H'
def DF(X:Cx)(e:Expr)(f:Env->Option (List D)):Prop:=PE X e (tF X.K f)
def FJ(K:W.Frag)(f:Env->Option Bool):TT:=λσ H Q=>∃HF ρ b,aM HF H/\cK K HF ρ σ/\f ρ=some b/\∀H' Qp,bV HF H Qp H'->Q b H'
def DT(X:Cx)(e:Expr)(f:Env->Option Bool):Prop:=PT X e (FJ X.K f)
def N2(K:W.Frag)(f:Env->Option (List D)):TA:=λσ H Q=>∃HF ρ ds,aM HF H/\cK K HF ρ σ/\f ρ=some ds/\∀vs H' Qp,bV HF H Qp H'->ar K Qp ds vs->Q vs H'
def DA(X:Cx)(es:List Expr)(f:Env->Option (List D)):Prop:=PA X es (N2 X.K f)
def aB(h:PE X e t)(i:∀σ H Q,t' σ H Q->t σ H Q):PE X e t':=λpins s σ H Q I q=>h pins s σ H Q I (i σ H Q q)
def rA(h:PT X e t)(i:∀σ H Q,t' σ H Q->t σ H Q):PT X e t':=λpins s σ H Q I q=>h pins s σ H Q I (i σ H Q q)
def nM(h:PA X e t)(i:∀σ H Q,t' σ H Q->t σ H Q):PA X e t':=λpos pins s σ H Q I q=>h pos pins s σ H Q I (i σ H Q q)
def bs(h:x.bind f=some b):∃a,x=some a/\f a=some b:=by
 cases x with
 | none=>cases h
 | some a=>exact⟨a,rfl,h⟩
def DF.de(h:DF X e f):DE X e (λρ=>(f ρ).map PyData.list):=aB h λσ H Q ⟨HF,ρ,d,sm,eo,hf,q⟩=>by
 have hf:(f ρ).map PyData.list=some d:=hf;cases e1:f ρ with
 | none=>rw[e1] at hf;cases hf
 | some ds =>
  rw[e1] at hf;obtain rfl:PyData.list ds=d:=yZ hf;refine⟨HF,ρ,ds,sm,eo,e1,λa vs H' Qp g ha Tu h' r=>q _ _ (upd Qp a (.lst vs)) (g.freeze ha h' Tu) ?_⟩;simp?[Rep];exact⟨a,vs,rfl,.inl (.inl aC),r.mono (cI Tu)⟩
def ae(i:Nat):Env->Option D:=λρ=>(ρ[i]?).getD none
def LB(i:Nat)(hN:X.N[i]?=some x)(hv:FD X.env.scope x)(hd:(x == ("__debug__":Str))=false:=by decide)(Q8:(x == ("__classdict__":Str))=false:=by decide):DE X (.Name x pos) (ae i) :=
 aB (ji hN hv hd Q8) λσ H Q ⟨HF,ρ,d,sm,eo,hf,q⟩=>by
  have hf:(ρ[i]?).getD none=some d:=hf;cases e:ρ[i]? with
  | none=>rw[e] at hf;cases hf
  | some o =>
   rw[e] at hf;have hf:o=some d:=hf;subst hf;let⟨v,a,b⟩:=eo.get i d e;exact⟨v,a,q v H HF (.refl sm) b⟩
def fC(d:D):Env->Option D:=λ_=>some d
def JA{i j pos}:DE X (.Constant (.int i) j pos) (fC (.int i)):=aB wM λσ H Q ⟨HF,ρ,d,sm,eo,hf,q⟩=>by cases hf;exact q _ H HF (.refl sm) (by simp[Rep])
def ME{b j pos}:DE X (.Constant (.bool b) j pos) (fC (.bool b)):=aB Iy λσ H Q ⟨HF,ρ,d,sm,eo,hf,q⟩=>by cases hf;exact q _ H HF (.refl sm) (by simp[Rep])
def Je{j pos}:DE X (.Constant .none j pos) (fC .none):=aB DK λσ H Q ⟨HF,ρ,d,sm,eo,hf,q⟩=>by cases hf;exact q _ H HF (.refl sm) (by simp[Rep])
def K6{x j pos}:DE X (.Constant (.str x) j pos) (fC (.str x)):=aB Ko λσ H Q ⟨HF,ρ,d,sm,eo,hf,q⟩=>by cases hf;exact q _ H HF (.refl sm) (by simp[Rep])
def Ho(hg:Gl X x)(hm:X.mg x=some (.int i t))(hd:(x == ("__debug__":Str))=false:=by decide):DE X (.Name x pos) (fC (.int i)) :=
 aB (zm (v:=.int i) hg hm ⟨t,rfl⟩ hd) λσ H Q ⟨HF,ρ,d,sm,eo,hf,q⟩=>by cases hf;exact q _ H HF (.refl sm) (by simp[Rep])
def dP(K:W.Frag)(r:R2)(g:D->D->Option D):Prop:=∀HF H x y v1 v2 d Q,aM HF H->Rep K HF x v1->Rep K HF y v2->g x y=some d->(∀v H' Qp,bV HF H Qp H'->Rep K Qp d v->Q v H')->r v1 v2 H Q
def f2(g:D->D->Option D)(f1 f2:Env->Option D):Env->Option D:=λρ=>(f1 ρ).bind λx=>(f2 ρ).bind λy=>g x y
def Dt{X:Cx}{fa fb:Env->Option D}(hr:dP X.K r g):∀σ H Q,tD X.K (f2 g fa fb) σ H Q->Mh r (tD X.K fa) (tD X.K fb) σ H Q:=λσ H Q ⟨HF,ρ,d,sm,eo,hf,q⟩=>by
 let⟨x,hx,hf⟩:=bs hf;let⟨y,hy,hg⟩:=bs hf;exact⟨HF,ρ,x,sm,eo,hx,λv1 H1 Qr g1 r1=>⟨Qr,ρ,y,g1.fh,eo.mono g1.ff,hy,λv2 H2 QC g2 r2=>hr QC H2 x y v1 v2 d Q g2.fh (r1.mono g2.ff) r2 hg λv H' Qp g3 r3=>q v H' Qp ((g1.trans g2).trans g3) r3⟩⟩
def pV(ho:eZ X (binaryOp op) r)(hr:dP X.K r g)(ha:DE X a fa)(hb:DE X b fb):DE X (.BinOp a op b pos) (f2 g fa fb):=aB (BK ho ha hb) (Dt hr)
def eS(ho:eZ X (compareOp op) r)(hr:dP X.K r g)(ha:DE X a fa)(hb:DE X b fb)(hm:behindInMarks op b=false):DE X (.Compare a [op] [b] pos) (f2 g fa fb):=aB (Hg ho ha hb hm) (Dt hr)
def sx(C:Int->Int->Prop)[∀i j,Decidable (C i j)](g:Int->Int->D):D->D->Option D
 | .int i,.int j=>if C i j then some (g i j) else none
 | _,_=>none
def Di{K:W.Frag}{C:Int->Int->Prop}[∀i j,Decidable (C i j)]{gi:Int->Int->Int}:dP K (rI C λi j=>.int (gi i j)) (sx C λi j=>.int (gi i j)):=by
 intro HF H x y v1 v2 d Q sm r1 r2 hg q;cases x<;>cases y<;>simp?[sx] at hg<;>try cases hg
 rename_i i j;simp?[Rep] at r1 r2;by_cases hc:C i j
 ·rw[yH hc] at hg;cases hg;exact⟨i,j,r1,r2,hc,q _ H HF (.refl sm) (by simp[Rep])⟩
 ·rw[yJ hc] at hg;cases hg
def B0{K:W.Frag}{gi:Int->Int->Int}:dP K (FB λi j=>.int (gi i j)) (sx (λ_ _=>True) λi j=>.int (gi i j)):=by
 intro HF H x y v1 v2 d Q sm r1 r2 hg q;cases x<;>cases y<;>simp?[sx] at hg<;>try cases hg
 rename_i i j;simp?[Rep] at r1 r2;exact⟨i,j,r1,r2,q _ H HF (.refl sm) (by simp[Rep])⟩
def iF{K:W.Frag}{gi:Int->Int->Bool}:dP K (FB λi j=>.bl (gi i j)) (sx (λ_ _=>True) λi j=>.bool (gi i j)):=by
 intro HF H x y v1 v2 d Q sm r1 r2 hg q;cases x<;>cases y<;>simp?[sx] at hg<;>try cases hg
 rename_i i j;simp?[Rep] at r1 r2;exact⟨i,j,r1,r2,q _ H HF (.refl sm) (by simp[Rep])⟩
noncomputable instance (i j:Int):Decidable (rQ i j):=by unfold rQ;infer_instance
noncomputable instance (i j:Int):Decidable (F5 i j):=by unfold F5;infer_instance
section
variable {X:Cx}{a b c:Expr}{fa fb fc:Env->Option D}{pos:Pos}{rest:List Expr}
def oX(fa fb:Env->Option D):Env->Option D:=λρ=>(fa ρ).bind fun|.bool true=>fb ρ|.bool false=>some (.bool false)|_=>none
def OA(fa fb:Env->Option D):Env->Option D:=λρ=>(fa ρ).bind fun|.bool true=>some (.bool true)|.bool false=>fb ρ|_=>none
def MP:D->Option D|.bool b=>some (.bool (!b))|_=>none
def Ov(fa:Env->Option D):Env->Option D:=λρ=>(fa ρ).bind MP
def Jb{op}(h:DE X a fa):DE X (.BoolOp op [a] pos) fa:=J0 h
def KR(ha:DE X a fa)(hb:DE X (.BoolOp .And (b::rest) pos) fb):DE X (.BoolOp .And (a::b::rest) pos) (oX fa fb):=aB (IY ha hb) λσ H Q ⟨HF,ρ,d,sm,eo,hf,q⟩=>by
 let⟨x,hx,hf⟩:=bs hf;refine⟨HF,ρ,x,sm,eo,hx,λv1 H1 Qr g1 r1=>?_⟩;cases x<;>try cases hf
 rename_i k;simp?[Rep] at r1;refine⟨k,r1,?_⟩;cases k with
 | true=>exact k8 ⟨Qr,ρ,d,g1.fh,eo.mono g1.ff,hf,λv H' Qp g r=>q v H' Qp (g1.trans g) r⟩
 | false=>cases hf;exact nJ (q _ H1 Qr g1 (by simp[Rep]))
def MH(ha:DE X a fa)(hb:DE X (.BoolOp .Or (b::rest) pos) fb):DE X (.BoolOp .Or (a::b::rest) pos) (OA fa fb):=aB (DL ha hb) λσ H Q ⟨HF,ρ,d,sm,eo,hf,q⟩=>by
 let⟨x,hx,hf⟩:=bs hf;refine⟨HF,ρ,x,sm,eo,hx,λv1 H1 Qr g1 r1=>?_⟩;cases x<;>try cases hf
 rename_i k;simp?[Rep] at r1;refine⟨k,r1,?_⟩;cases k with
 | false=>exact nJ ⟨Qr,ρ,d,g1.fh,eo.mono g1.ff,hf,λv H' Qp g r=>q v H' Qp (g1.trans g) r⟩
 | true=>cases hf;exact k8 (q _ H1 Qr g1 (by simp[Rep]))
def gB:D->Option Bool|.bool b=>some b|_=>none
def fB(f:Env->Option D):Env->Option Bool:=λρ=>(f ρ).bind gB
def vY:∀σ H (Q:Bool->Hp->Prop),FJ X.K (fB f) σ H Q->tD X.K f σ H λx H1=>∃c,x=.bl c/\Q c H1:=λσ H Q ⟨HF,ρ,k,sm,eo,hf,q⟩=>by
 let⟨x,hx,hf⟩:=bs hf;refine⟨HF,ρ,x,sm,eo,hx,λv1 H1 Qr g1 r1=>?_⟩;cases x<;>try cases hf
 simp?[Rep] at r1;exact⟨_,r1,q H1 Qr g1⟩
def LC(h:DE X a f)(he:∀whole,isTrue a X.env whole=(do let v <- whole;standAt a.pos;holding [v] (truthy v)):=by intro _;rfl):DT X a (fB f):=rA (Eh h he) vY
def eH(ho:eZ X (compareOp op) r)(hr:dP X.K r g)(ha:DE X a fa)(hb:DE X b fb)(hm:behindInMarks op b=false):DT X (.Compare a [op] [b] pos) (fB (f2 g fa fb)) :=
 rA (yt ho ha hb hm) λσ H Q h=>Dt hr σ H _ (vY σ H Q h)
def oA(fa fb:Env->Option Bool):Env->Option Bool:=λρ=>(fa ρ).bind fun|true=>fb ρ|false=>some false
def d5(fa fb:Env->Option Bool):Env->Option Bool:=λρ=>(fa ρ).bind fun|true=>some true|false=>fb ρ
def cq(fa:Env->Option Bool):Env->Option Bool:=λρ=>(fa ρ).map (!·)
variable {ta tb:Env->Option Bool}
def DW(X:Cx)(e:Expr)(f:Env->Option Bool):Prop:=PW X e (FJ X.K f)
def BR(h:PW X e t)(i:∀σ H Q,t' σ H Q->t σ H Q):PW X e t':=λwh pins s σ H Q I q=>h wh pins s σ H Q I (i σ H Q q)
def DW.dt(h:DW X a ta):DT X a ta:=PW.pt h
def Fn(ha:DT X a ta):DW X (.BoolOp .And [a] pos) ta:=zj ha
def Js(ha:DT X a ta):DW X (.BoolOp .Or [a] pos) ta:=Ke ha
def Kb(ha:DT X a ta)(hb:DW X (.BoolOp .And (b::rest) pos) tb):DW X (.BoolOp .And (a::b::rest) pos) (oA ta tb):=BR (C9 ha hb) λσ H Q ⟨HF,ρ,d,sm,eo,hf,q⟩=>by
 let⟨x,hx,hf⟩:=bs hf;refine⟨HF,ρ,x,sm,eo,hx,λH1 Qr g1=>?_⟩;cases x with
 | true=>exact k8 ⟨Qr,ρ,d,g1.fh,eo.mono g1.ff,hf,λH' Qp g=>q H' Qp (g1.trans g)⟩
 | false=>cases hf;exact nJ (q H1 Qr g1)
def Mj(ha:DT X a ta)(hb:DW X (.BoolOp .Or (b::rest) pos) tb):DW X (.BoolOp .Or (a::b::rest) pos) (d5 ta tb):=BR (MR ha hb) λσ H Q ⟨HF,ρ,d,sm,eo,hf,q⟩=>by
 let⟨x,hx,hf⟩:=bs hf;refine⟨HF,ρ,x,sm,eo,hx,λH1 Qr g1=>?_⟩;cases x with
 | false=>exact nJ ⟨Qr,ρ,d,g1.fh,eo.mono g1.ff,hf,λH' Qp g=>q H' Qp (g1.trans g)⟩
 | true=>cases hf;exact k8 (q H1 Qr g1)
def JB(ha:DT X a ta):DT X (.UnaryOp .Not a pos) (cq ta):=rA (JF ha) λσ H Q ⟨HF,ρ,d,sm,eo,hf,q⟩=>by
 have hf:(ta ρ).map (!·)=some d:=hf;cases e:ta ρ with
 | none=>rw[e] at hf;cases hf
 | some k=>rw[e] at hf;cases hf;exact⟨HF,ρ,k,sm,eo,e,λH1 Qr g1=>q H1 Qr g1⟩
def Jl(tc:Env->Option Bool)(fa fb:Env->Option D):Env->Option D:=λρ=>(tc ρ).bind fun|true=>fa ρ|false=>fb ρ
def Np(hc:DT X c ta)(ha:DE X a fa)(hb:DE X b fb):DE X (.IfExp c a b pos) (Jl ta fa fb):=aB (tU hc ha hb) λσ H Q ⟨HF,ρ,d,sm,eo,hf,q⟩=>by
 let⟨x,hx,hf⟩:=bs hf;refine⟨HF,ρ,x,sm,eo,hx,λH1 Qr g1=>?_⟩;cases x with
 | true=>exact k8 ⟨Qr,ρ,d,g1.fh,eo.mono g1.ff,hf,λv H' Qp g r=>q v H' Qp (g1.trans g) r⟩
 | false=>exact nJ ⟨Qr,ρ,d,g1.fh,eo.mono g1.ff,hf,λv H' Qp g r=>q v H' Qp (g1.trans g) r⟩
def iE(g g':D->D->Option D)(fa fb fc:Env->Option D):Env->Option D:=λρ=>(fa ρ).bind λx=>(fb ρ).bind λy=>(g x y).bind fun|.bool true=>(fc ρ).bind λz=>g' y z|.bool false=>some (.bool false)|_=>none
def zd(hr:dP X.K r g)(Rq:dP X.K r' g'):∀σ H Q,tD X.K (iE g g' fa fb fc) σ H Q->vf r r' (tD X.K fa) (tD X.K fb) (tD X.K fc) σ H Q:=λσ H Q ⟨HF,ρ,d,sm,eo,hf,q⟩=>by
 let⟨x,hx,hf⟩:=bs hf;let⟨y,hy,hf⟩:=bs hf;let⟨z,hz,hf⟩:=bs hf;refine⟨HF,ρ,x,sm,eo,hx,λv1 H1 Qr g1 r1=>⟨Qr,ρ,y,g1.fh,eo.mono g1.ff,hy,λv2 H2 QC g2 r2=>hr QC H2 x y v1 v2 z _ g2.fh (r1.mono g2.ff) r2 hz λv3 H3 QN g3 r3=>?_⟩⟩;cases z<;>try cases hf
 rename_i k;simp?[Rep] at r3;refine⟨k,r3,?_⟩;have G:=(g1.trans g2).trans g3;cases k with
 | false=>cases hf;exact nJ (q _ H3 QN G (by simp[Rep]))
 | true =>
  let⟨w,hw,hg⟩:=bs hf;exact k8 ⟨QN,ρ,w,G.fh,eo.mono G.ff,hw,λv4 H4 Rz g4 r4=>Rq Rz H4 y w v2 v4 d Q g4.fh (r2.mono (g3.ff.trans g4.ff)) r4 hg λv H' Qp g5 r5=>q v H' Qp ((G.trans g4).trans g5) r5⟩
def EO(ho:eZ X (compareOp op) r)(hr:dP X.K r g)(Rl:eZ X (compareOp Sd) r')(Rq:dP X.K r' g')(ha:DE X a fa)(hb:DE X b fb)(hc:DE X c fc)
  (hm:lastMarks [op,Sd] [b,c]=false:=by with_unfolding_all rfl):DE X (.Compare a [op,Sd] [b,c] pos) (iE g g' fa fb fc):=aB (DH ho Rl ha hb hc hm) (zd hr Rq)
def Cq(ho:eZ X (compareOp op) r)(hr:dP X.K r g)(Rl:eZ X (compareOp Sd) r')(Rq:dP X.K r' g')(ha:DE X a fa)(hb:DE X b fb)(hc:DE X c fc)
  (hm:lastMarks [op,Sd] [b,c]=false:=by with_unfolding_all rfl):DT X (.Compare a [op,Sd] [b,c] pos) (fB (iE g g' fa fb fc)) :=
 rA (D3 ho Rl ha hb hc hm) λσ H Q h=>zd hr Rq σ H _ (vY σ H Q h)
def ah:Env->Option (List D):=λ_=>some []
def aa(f:Env->Option D)(g:Env->Option (List D)):Env->Option (List D):=λρ=>(f ρ).bind λx=>(g ρ).map (x::·)
def Kv:DA X [] ah:=nM cy λσ H Q ⟨HF,ρ,d,sm,eo,hf,q⟩=>by cases hf;exact q [] H HF (.refl sm) ar.nil
def GK(he:DE X e f)(hs:DA X es g)(RB:starEach (e::es) X.env=(false,eval e X.env)::starEach es X.env:=by rfl):DA X (e::es) (aa f g) :=
 nM (aW he hs RB) λσ H Q ⟨HF,ρ,d,sm,eo,hf,q⟩=>by
  let⟨x,hx,hf⟩:=bs hf;have hf:(g ρ).map (x::·)=some d:=hf;cases e1:g ρ with
  | none=>rw[e1] at hf;cases hf
  | some xs =>
   rw[e1] at hf;cases hf;exact⟨HF,ρ,x,sm,eo,hx,λv1 H1 Qr g1 r1=>⟨Qr,ρ,xs,g1.fh,eo.mono g1.ff,e1,λvs H2 QC g2 r2=>q (v1::vs) H2 QC (g1.trans g2) (ar.cons (r1.mono g2.ff) r2)⟩⟩
variable {es:List Expr}{fs:Env->Option (List D)}
def small(ds:List D):Option (List D):=if ds.length<=sizeLine then some ds else none
def dE{ds es:List D}(h:small ds=some es):es=ds/\ds.length<=sizeLine:=by
 unfold small at h;split at h
 ·cases h;exact⟨rfl,‹_›⟩
 ·cases h
def bT(g:Env->Option (List D)):Env->Option D:=λρ=>(g ρ).bind λds=>(small ds).map PyData.tuple
def cC(g:Env->Option (List D)):Env->Option (List D):=λρ=>(g ρ).bind small
def JM{x1}(h:DA X es fs):DE X (.Tuple es x1 pos) (bT fs):=aB (Cs h) λσ H Q ⟨HF,ρ,d,sm,eo,hf,q⟩=>by
 let⟨ds,hx,hf⟩:=bs hf;have hf:(small ds).map PyData.tuple=some d:=hf;cases e:small ds with
 | none=>rw[e] at hf;cases hf
 | some TC =>
  rw[e] at hf;cases hf;let⟨rfl,hz⟩:=dE e;refine⟨HF,ρ,_,sm,eo,hx,λvs H1 Qr g1 r1=>⟨by rw[r1.length];exact hz,λp hp=>q _ _ (upd Qr p (.tup vs)) (g1.trans (.new g1.fh hp)) ?_⟩⟩;simp?[Rep];exact⟨p,vs,rfl,.inl (.inl aC),r1.mono (cI (g1.fh.free hp))⟩
def JS(h:DA X es fs):DF X (.List es pos) (cC fs):=aB (sd h) λσ H Q ⟨HF,ρ,d,sm,eo,hf,q⟩=>by
 let⟨ds,hx,hf⟩:=bs hf;let⟨rfl,hz⟩:=dE hf;exact⟨HF,ρ,_,sm,eo,hx,λvs H1 Qr g1 r1=>⟨by rw[r1.length];exact hz,λp hp=>q p vs _ Qr (g1.trans (.own g1.fh hp)) (g1.hh.free hp) (g1.fh.free hp) aC r1⟩⟩
def bz:D->D->Option D
 | .tuple ds,.int i=>jh ds i
 | .list ds,.int i=>jh ds i
 | _,_=>none
def uL{K:W.Frag}(r:ar K HF ds vs)(h:jh ds i=some d):∃v,jh vs i=some v/\Rep K HF d v:=by
 unfold jh at h ⊢;rw[r.length];let⟨j,hj,h⟩:=bs h;let⟨v,a,b⟩:=r.getD h;exact⟨v,by rw[hj];exact a,b⟩
def Lw{K:W.Frag}:dP K (Pt K) bz:=by
 intro HF H x y v1 v2 d Q sm r1 r2 hg q;cases x<;>cases y<;>simp?[bz] at hg<;>try cases hg
 ·simp?[Rep] at r1 r2;let⟨a,vs,rfl,hs,r⟩:=r1;let⟨v,hv,rv⟩:=uL r hg;exact .inl ⟨a,vs,_,v,rfl,r2,sm.seq hs,hv,q v H HF (.refl sm) rv⟩
 ·simp?[Rep] at r1 r2;let⟨a,vs,rfl,hs,r⟩:=r1;let⟨v,hv,rv⟩:=uL r hg;exact .inr (.inl ⟨a,vs,_,v,rfl,r2,av sm hs,hv,q v H HF (.refl sm) rv⟩)
def Md(ha:DE X a fa)(hb:DE X b fb)(hs:k7 b:=by intro _ _;rfl):DE X (.Subscript a b pos) (f2 bz fa fb):=aB (C7 Eu ha hb hs) (Dt Lw)
mutual
theorem cE{pins:List (Addr×Obj)}{σ:L2.St}{H HF:Hp}{s:Shared}(I:Inv X pins σ H s)(sm:aM HF H):∀ {d:D}{v:V}{u:Value},Rep X.K HF d v->RelV v u->∃as,Reads s.heap u d as
 | .none,_,_,h,r=>by simp?[Rep] at h;subst h;cases r;exact⟨_,.none⟩
 | .bool b,_,_,h,r=>by simp?[Rep] at h;subst h;cases r;exact⟨_,.bool b⟩
 | .int i,_,_,h,r=>by simp?[Rep] at h;subst h;let⟨t,rfl⟩:=r;exact⟨_,.int i t⟩
 | .str i,_,_,h,r=>by simp?[Rep] at h;subst h;let⟨t,rfl⟩:=r;exact⟨_,.str i t⟩
 | .tuple ds,_,_,h,r=>by
  simp?[Rep] at h;let⟨a,vs,rfl,hs,rr⟩:=h;cases r;let⟨its,rv,⟨o,ho,hc,n,hd⟩,_⟩:=I.tuple (av sm hs);let⟨as,q⟩:=l9 I sm rr rv;exact⟨as,.tuple ho hc hd (by simpa using q)⟩
 | .list ds,_,_,h,r=>by
  simp?[Rep] at h;let⟨a,vs,rfl,hs,rr⟩:=h;cases r;let⟨its,rv,pl,_⟩:=I.list (sm.seq hs);let⟨o,ho,hc,n,hd⟩:=pl.isList;let⟨as,q⟩:=l9 I sm rr rv;exact⟨_,.list ho hc hd (by simpa using q)⟩
 | .dict _,_,_,h,r=>by simp?[Rep] at h
theorem l9{pins:List (Addr×Obj)}{σ:L2.St}{H HF:Hp}{s:Shared}(I:Inv X pins σ H s)(sm:aM HF H):∀ {ds:List D}{vs:List V}{us:List Value},ar X.K HF ds vs->aD vs us->∃as,ReadsAll s.heap us ds as
 | [],_,_,h,r=>by rw[h.nil_inv] at r;cases r;exact⟨_,.nil⟩
 | d::ds,_,_,h,r=>by
  let⟨v,vr,rfl,a,b⟩:=h.cons_inv;cases r with
  | cons r rr =>
   let⟨as,q⟩:=cE I sm a r;let⟨bs,p⟩:=l9 I sm b rr;exact⟨_,.cons q p⟩
end
def KH(K:W.Frag)(g:D->D->Option Bool):R2:=λv1 v2 H Q=>∃HF x y k,aM HF H/\Rep K HF x v1/\Rep K HF y v2/\g x y=some k/\Q (.bl k) H
def dY{K:W.Frag}:dP K (KH K g) (λx y=>(g x y).map PyData.bool):=by
 intro HF H x y v1 v2 d Q sm r1 r2 hg q;have hg:(g x y).map PyData.bool=some d:=hg;cases e:g x y with
 | none=>rw[e] at hg;cases hg
 | some k=>rw[e] at hg;cases hg;exact⟨HF,x,y,k,sm,r1,r2,e,q _ H HF (.refl sm) (by simp[Rep])⟩
def GN(x y:D):Option Bool:=if SeqAt.shaped x=true/\SeqAt.shaped y=true then some (PyData.eqv x y) else none
def HU(x y:D):Option Bool:=if SeqAt.shaped x=true/\SeqAt.shaped y=true then some (!PyData.eqv x y) else none
def wy(hu:X.A.units+64 < cLine):eZ X (compareOp .Eq) (KH X.K GN):=by
 intro pins s σ H v1 v2 u1 u2 Q I rx ry h;let⟨HF,x,y,k,sm,r1,r2,hg,q⟩:=h;unfold GN at hg;split at hg<;>cases hg;rename_i hh;let⟨as,ra⟩:=cE I sm r1 rx;let⟨bs,rb⟩:=cE I sm r2 ry;exact eq_dataH ra rb hh.1 hh.2 hu ⟨.bl _,H,I,rfl,q⟩
def EX(hu:X.A.units+64 < cLine):eZ X (compareOp .NotEq) (KH X.K HU):=by
 intro pins s σ H v1 v2 u1 u2 Q I rx ry h;let⟨HF,x,y,k,sm,r1,r2,hg,q⟩:=h;unfold HU at hg;split at hg<;>cases hg;rename_i hh;let⟨as,ra⟩:=cE I sm r1 rx;let⟨bs,rb⟩:=cE I sm r2 ry;exact ne_dataH ra rb hh.1 hh.2 hu ⟨.bl _,H,I,rfl,q⟩
def items:D->Option (List D)|.tuple ds=>some ds|.list ds=>some ds|_=>none
def Ou(x y:D):Option Bool:=match y with
 | .tuple ds=>if SeqAt.shaped x=true/\SeqAt.shaped y=true then some (ds.any λz=>PyData.eqv z x) else none
 | .list ds=>if SeqAt.shaped x=true/\SeqAt.shaped y=true then some (ds.any λz=>PyData.eqv z x) else none
 | _=>none
def C6(hu:X.A.units+66 < cLine):eZ X (compareOp .In) (KH X.K Ou):=by
 intro pins s σ H v1 v2 u1 u2 Q I rx ry h;let⟨HF,x,y,k,sm,r1,r2,hg,q⟩:=h;let⟨as,ra⟩:=cE I sm r1 rx;let⟨bs,rb⟩:=cE I sm r2 ry;cases y<;>simp?[Ou] at hg<;>try cases hg
 all_goals
  split at hg<;>cases hg;rename_i ds hh;have c1:=jV hh.1;have c2:=jV hh.2;have d1:=SeqAt.depth_of_shaped hh.1;simp?[PyData.canLay0] at c2;have m:=Nat.min_le_right (PyData.depthAll ds) x.depth
  first
   | exact SeqAt.in_list_reads rb ra c2 c1 (by lia) ⟨.bl _,H,I,rfl,q⟩
   | exact SeqAt.in_tuple_reads rb ra c2 c1 (by lia) ⟨.bl _,H,I,rfl,q⟩
end
def Nm(K:W.Frag)(n:Nat)(m:List D->Option D):Sp:=λvs H Q _=>∃HF ds d,aM HF H/\dz K HF/\ar K HF ds vs/\ds.length=n/\m ds=some d/\∀v H' Qp,bV HF H Qp H'->Rep K Qp d v->Q v H'
structure ES(P:Program)(w:World)(K:W.Frag)(mg:Str->Option Value)(base:Heap)(k:Nat)(x:Str)(n:Nat)(m:List D->Option D):Prop where
 ex:∃ (f:Addr) (fd:FuncData) (ps:List Str),mH P w K mg base Ie k f fd ps (Nm K n m)/\mg x=some (.ref f)/\W.keepIn K (.ref f)=true/\Binds K fd ps []
def ES.mono{K:W.Frag}(F:ES P w K mg base k x n m)(h:k<=j):ES P w K mg base j x n m:=by
 let⟨f,fd,ps,a,b,c,d⟩:=F.ex;exact⟨f,fd,ps,a.mono h,b,c,d⟩
def ai(n:Nat)(m:List D->Option D)(fs:Env->Option (List D)):Env->Option D:=λρ=>(fs ρ).bind λds=>if ds.length=n then m ds else none
def Hl(F:ES X.prog X.w X.K X.mg X.base k x n m)(hr:gK k X.A)(hg:Gl X x)(ha:DA X (e::es) fs)(QR:(x == ("__debug__":Str))=false:=by decide)
  (he:starEach (e::es) X.env=(false,eval e X.env)::starEach es X.env:=by rfl) (Rb:(backTo pos (starEach es X.env)).any (·.1)=false:=by rfl):DE X (.Call (.Name x p) (e::es) [] pos) (ai n m fs):=by
 let⟨f,fd,ps,ok,hm,hk,hb⟩:=F.ex;refine aB (yl (E:=E0) ok hr hg hm hk hb .nil MK ha QR he Rb) λσ H Q ⟨HF,ρ,d,sm,eo,hf,q⟩=>?_;let⟨ds,hx,hf⟩:=bs hf;split at hf
 ·rename_i hl;exact⟨HF,ρ,ds,sm,eo,hx,λvs H1 Qr g1 r1=>⟨Qr,ds,d,g1.fh,eo.tb.mono g1.ff,by rw[qC];exact r1,hl,hf,λv H' Qp g r=>q v H' Qp (g1.trans g) r⟩⟩
 ·cases hf
def Cb(K:W.Frag)(r:List V->Hp->VK->Prop)(g:List D->Option D):Prop:=∀HF H ds vs d Q,aM HF H->ar K HF ds vs->g ds=some d->(∀v H' Qp,bV HF H Qp H'->Rep K Qp d v->Q v H')->r vs H Q
def aY(g:List D->Option D)(fs:Env->Option (List D)):Env->Option D:=λρ=>(fs ρ).bind g
def Mu{X:Cx}{fs:Env->Option (List D)}(hs:Cb X.K r g):∀σ H Q,tD X.K (aY g fs) σ H Q->NK r (N2 X.K fs) σ H Q:=λσ H Q ⟨HF,ρ,d,sm,eo,hf,q⟩=>by
 let⟨ds,hx,hf⟩:=bs hf;exact⟨HF,ρ,ds,sm,eo,hx,λvs H1 Qr g1 r1=>hs Qr H1 ds vs d Q g1.fh r1 hf λv H' Qp g2 r2=>q v H' Qp (g1.trans g2) r2⟩
def zv(K:W.Frag)(r:List V->Hp->VK->Prop)(g:List D->Option (List D)):Prop:=∀HF H ds vs es Q,aM HF H->ar K HF ds vs->g ds=some es ->
 (∀a us H' Qp,bV HF H Qp H'->H a=none->Qp a=none->H' a=some (.lst us)->ar K Qp es us->Q (.ref a) H')->r vs H Q
def f7(g:List D->Option (List D))(fs:Env->Option (List D)):Env->Option (List D):=λρ=>(fs ρ).bind g
def IF{X:Cx}{fs:Env->Option (List D)}(hs:zv X.K r g):∀σ H Q,tF X.K (f7 g fs) σ H Q->NK r (N2 X.K fs) σ H Q:=λσ H Q ⟨HF,ρ,d,sm,eo,hf,q⟩=>by
 let⟨ds,hx,hf⟩:=bs hf;exact⟨HF,ρ,ds,sm,eo,hx,λvs H1 Qr g1 r1=>hs Qr H1 ds vs d Q g1.fh r1 hf λa us H' Qp g2 ha Tu h' r2=>q a us H' Qp (g1.trans g2) (g1.hh.free ha) Tu h' r2⟩
structure l7(X:Cx)(x:Str)(v:Value):Prop where
 gl:Gl X x
 mg:X.mg x=none
 bt:bootBuiltins x=some v
def gg{id:String}(hc:dc X (.builtin id) r)(hs:Cb X.K r g)(B:l7 X x (.builtin id))(ha:DA X (e::es) fs)(hn:x≠"__name__":=by decide)(QR:(x == ("__debug__":Str))=false:=by decide)
  (he:starEach (e::es) X.env=(false,eval e X.env)::starEach es X.env:=by rfl) (Rb:(backTo pos (starEach es X.env)).any (·.1)=false:=by rfl):DE X (.Call (.Name x p) (e::es) [] pos) (aY g fs) :=
 aB (ly hc B.gl B.mg B.bt ha hn QR he Rb) (Mu hs)
def Ew{id:String}(hc:dc X (.builtin id) r)(hs:zv X.K r g)(B:l7 X x (.builtin id))(ha:DA X (e::es) fs)(hn:x≠"__name__":=by decide)(QR:(x == ("__debug__":Str))=false:=by decide)
  (he:starEach (e::es) X.env=(false,eval e X.env)::starEach es X.env:=by rfl) (Rb:(backTo pos (starEach es X.env)).any (·.1)=false:=by rfl):DF X (.Call (.Name x p) (e::es) [] pos) (f7 g fs) :=
 aB (ly hc B.gl B.mg B.bt ha hn QR he Rb) (IF hs)
def lR(hc:dc X (.type T) r)(hs:Cb X.K r g)(B:l7 X x (.type T))(ha:DA X (e::es) fs)(hn:x≠"__name__":=by decide)(QR:(x == ("__debug__":Str))=false:=by decide)
  (he:starEach (e::es) X.env=(false,eval e X.env)::starEach es X.env:=by rfl) (Rb:(backTo pos (starEach es X.env)).any (·.1)=false:=by rfl):DE X (.Call (.Name x p) (e::es) [] pos) (aY g fs) :=
 aB (iZ hc B.gl B.mg B.bt ha hn QR he Rb) (Mu hs)
def Bm(hc:dc X (.type T) r)(hs:zv X.K r g)(B:l7 X x (.type T))(ha:DA X (e::es) fs)(hn:x≠"__name__":=by decide)(QR:(x == ("__debug__":Str))=false:=by decide)
  (he:starEach (e::es) X.env=(false,eval e X.env)::starEach es X.env:=by rfl) (Rb:(backTo pos (starEach es X.env)).any (·.1)=false:=by rfl):DF X (.Call (.Name x p) (e::es) [] pos) (f7 g fs) :=
 aB (iZ hc B.gl B.mg B.bt ha hn QR he Rb) (IF hs)
def gV:D->Option (List D)|.tuple ds=>some ds|.list ds=>some ds|_=>none
def oneOf:List D->Option D|[d]=>some d|_=>none
def eY(h:oneOf ds=some d):ds=[d]:=by
 cases ds with
 | nil=>cases h
 | cons x r=>cases r with
  | nil=>cases h;rfl
  | cons _ _=>cases h
def gH(h:gV d=some ds):d=.tuple ds\/d=.list ds:=by
 cases d<;>cases h
 ·exact .inr rfl
 ·exact .inl rfl
def cf:List D->Option (List D):=λds=>(oneOf ds).bind gV
def fH{ds es:List D}(h:cf ds=some es):ds=[.tuple es]\/ds=[.list es]:=by
 let⟨d,h1,h2⟩:=bs h;rw[eY h1];rcases gH h2 with rfl|rfl
 ·exact .inl rfl
 ·exact .inr rfl
def cB:List D->Option D:=λds=>(cf ds).map λes=>.int es.length
def af{α β:Type}{x:Option α}{f:α->β}{b:β}(h:x.map f=some b):∃a,x=some a/\f a=b:=by
 cases x with
 | none=>cases h
 | some a=>exact⟨a,rfl,yZ h⟩
def Hz{K:W.Frag}:Cb K (λxs H Q=>∃p ys,xs=[.ref p]/\(dM K H p ys\/fU K H p ys)/\Q (.int ys.length) H) cB:=by
 intro HF H ds vs d Q sm r hg q;let⟨es,h1,rfl⟩:=af hg;rcases fH h1 with rfl|rfl
 all_goals
  let⟨v,r',rfl,a,b⟩:=r.cons_inv;rw[b.nil_inv];simp?[Rep] at a;let⟨p,us,rfl,h,rr⟩:=a
 ·exact⟨p,us,rfl,.inr (av sm h),q _ H HF (.refl sm) (by simp[Rep,rr.length])⟩
 ·exact⟨p,us,rfl,.inl (sm.seq h),q _ H HF (.refl sm) (by simp[Rep,rr.length])⟩
def KB(B:l7 X "len" (.builtin "len"))(ha:DA X [e] fs)(he:starEach [e] X.env=(false,eval e X.env)::starEach [] X.env:=by rfl):DE X (.Call (.Name "len" p) [e] [] pos) (aY cB fs) :=
 gg rm Hz B ha (by decide) (by decide) he rfl
def BM{K:W.Frag}:zv K (λxs H Q=>∃p ys,xs=[.ref p]/\(dM K H p ys\/fU K H p ys)/\∀l,H l=none->Q (.ref l) (upd H l (.lst ys))) cf:=by
 intro HF H ds vs d Q sm r hg q;rcases fH hg with rfl|rfl
 all_goals
  let⟨v,r',rfl,a,b⟩:=r.cons_inv;rw[b.nil_inv];simp?[Rep] at a;let⟨p,us,rfl,h,rr⟩:=a
 ·exact⟨p,us,rfl,.inr (av sm h),λl hl=>q l us _ HF (.own sm hl) hl (sm.free hl) aC rr⟩
 ·exact⟨p,us,rfl,.inl (sm.seq h),λl hl=>q l us _ HF (.own sm hl) hl (sm.free hl) aC rr⟩
def G9(B:l7 X "list" (.type "list"))(ha:DA X [e] fs)(he:starEach [e] X.env=(false,eval e X.env)::starEach [] X.env:=by rfl):DF X (.Call (.Name "list" p) [e] [] pos) (f7 cf fs) :=
 Bm sr BM B ha (by decide) (by decide) he rfl
def cX{K:W.Frag}(h:HF l=none)(r:ar K HF ds vs):Rep K (upd HF l (.tup vs)) (.tuple ds) (.ref l):=by
 simp?[Rep];exact⟨l,vs,rfl,.inl (.inl aC),r.mono (cI h)⟩
def AM{K:W.Frag}:Cb K (λxs H Q=>∃p ys,xs=[.ref p]/\((dM K H p ys/\∀l,H l=none->Q (.ref l) (upd H l (.tup ys)))\/(fU K H p ys/\Q (.ref p) H))) (λds=>(cf ds).map PyData.tuple):=by
 intro HF H ds vs d Q sm r hg q;let⟨es,h1,rfl⟩:=af hg;rcases fH h1 with rfl|rfl
 all_goals
  let⟨v,r',rfl,a,b⟩:=r.cons_inv;rw[b.nil_inv];have a':=a;simp?[Rep] at a;let⟨p,us,rfl,h,rr⟩:=a
 ·exact⟨p,us,rfl,.inr ⟨av sm h,q _ H HF (.refl sm) a'⟩⟩
 ·exact⟨p,us,rfl,.inl ⟨sm.seq h,λl hl=>q _ _ _ (.new sm hl) (cX (sm.free hl) rr)⟩⟩
def CG(B:l7 X "tuple" (.type "tuple"))(ha:DA X [e] fs)(he:starEach [e] X.env=(false,eval e X.env)::starEach [] X.env:=by rfl):DE X (.Call (.Name "tuple" p) [e] [] pos) (aY (λds=>(cf ds).map PyData.tuple) fs) :=
 lR o7 AM B ha (by decide) (by decide) he rfl
def fO:D->String|.none=>"NoneType" | .bool _=>"bool" | .int _=>"int" | .str _=>"str" | .tuple _=>"tuple" | .list _=>"list" | .dict _=>"dict"
def qy(a b:String):Option Bool:=if ((Value.type a) == (Value.type b))=true then some true else if W.kitMeta b=true then (fastBuiltinMro a).map (·.contains (Value.type b)) else none
def Hx:∀a∈["NoneType","bool","int","str","tuple","list"],qy a "int"=some (a == "int"||a == "bool"):=by decide +kernel
def EW:∀a∈["NoneType","bool","int","str","tuple","list"],qy a "bool"=some (a == "bool"):=by decide +kernel
def kit_tuple:∀a∈["NoneType","bool","int","str","tuple","list"],qy a "tuple"=some (a == "tuple"):=by decide +kernel
def CP{A:Around}{E:Value->Shared->Prop}(I:Inv X pins σ H s)(sm:aM HF H)(r:Rep X.K HF d v)(rv:RelV v u)
  (e:qy (fO d) T=some k) (h:∀tk,Q (.bool k) { s with toks:=tk }):wpAny (model X.prog X.w) A (call (.builtin "isinstance") [u,.type T]) Q E s:=by
 have e':W.kitOne X.K (.type (fO d)) (.type T)=some k:=e;cases d<;>simp?[Rep] at r
 ·subst r;cases rv;exact W.kia_one W.kitx_none I.RW True.intro e' (λz=>nomatch z) h
 ·subst r;cases rv;exact W.kia_one W.kitx_bool I.RW True.intro e' (λz=>nomatch z) h
 ·subst r;let⟨t,rfl⟩:=rv;exact W.kia_one W.kitx_int I.RW True.intro e' (λz=>nomatch z) h
 ·subst r;let⟨t,rfl⟩:=rv;exact W.kia_one W.kitx_str I.RW True.intro e' (λz=>nomatch z) h
 ·let⟨a,vs,rfl,hs,rr⟩:=r;cases rv;let⟨its,rv,pl,_⟩:=I.list (sm.seq hs);let⟨o,ho,hc,n,hd⟩:=pl.isList;exact W.kia_one W.kitx_list I.RW ⟨o,ho,hc⟩ e' (λz=>nomatch z) h
 ·let⟨a,vs,rfl,hs,rr⟩:=r;cases rv;let⟨its,rv,⟨o,ho,hc,n,hd⟩,_⟩:=I.tuple (av sm hs);exact W.kia_one W.kitx_tuple I.RW ⟨o,ho,hc⟩ e' (λz=>nomatch z) h
def Iz(T:String)(f:Env->Option D):Env->Option D:=λρ=>(f ρ).bind λd=>(qy (fO d) T).map PyData.bool
def L9(B:l7 X "isinstance" (.builtin "isinstance"))(C:l7 X xT (.type T))(h:DE X e f)(hn:xT≠"__name__":=by decide)(hd:(xT == ("__debug__":Str))=false:=by decide)
  (he:starEach [e,.Name xT pT] X.env=(false,eval e X.env)::starEach [.Name xT pT] X.env:=by rfl):DE X (.Call (.Name "isinstance" p) [e,.Name xT pT] [] pos) (Iz T f):=by
 have hc:dc X (.builtin "isinstance") (λxs H Q=>∃HF d v k,xs=[v,.ty T]/\aM HF H/\Rep X.K HF d v/\qy (fO d) T=some k/\Q (.bl k) H):=by
  intro pins s σ H xs us Q I r h;let⟨HF,d,v,k,rfl,sm,rp,hk,q⟩:=h;cases r with
  | cons ra rr =>
   cases rr with
   | cons rb rn =>
    cases rn;cases rb;exact CP I sm rp ra hk λtk=>⟨.bl k,H,I.tok _,rfl,q⟩
 refine aB (ly hc B.gl B.mg B.bt (aW h (aW (GF (v:=.ty T) C.gl C.mg C.bt rfl hn hd) cy) he) (by decide) (by decide) he rfl) λσ H Q ⟨HF,ρ,d,sm,eo,hf,q⟩=>?_;let⟨x,hx,hf⟩:=bs hf;let⟨k,hk,rfl⟩:=af hf;exact⟨HF,ρ,x,sm,eo,hx,λv1 H1 Qr g1 r1=>⟨Qr,x,v1,k,rfl,g1.fh,r1,hk,q _ H1 Qr g1 (by simp[Rep])⟩⟩
def Hu:D->D->Option D
 | .tuple xs,.tuple ys=>(small (xs++ys)).map PyData.tuple
 | _,_=>none
def yi(K:W.Frag):R2:=λx y H Q=>∃a b xs ys,x=.ref a/\y=.ref b/\fU K H a xs/\fU K H b ys/\xs.length+ys.length<=sizeLine /\
 (xs=[]->Q (.ref b) H)/\(ys=[]->Q (.ref a) H)/\(∀p,H p=none->Q (.ref p) (upd H p (.tup (xs++ys))))
def AY:eZ X (binaryOp .Add) (yi X.K):=by
 intro pins s σ H x y v u Q I rx ry h;let⟨a,b,xs,ys,rfl,rfl,ha,hb,hz,q0,q1,q2⟩:=h;by_cases hx:xs=[]
 ·cases rx;cases ry;let⟨its,r1,p1,_⟩:=I.tuple ha;let⟨Q4,r2,p2,_⟩:=I.tuple hb;let⟨⟨cls,dd,data,sl⟩,ho,hc,n,hd⟩:=id p1;let⟨⟨Vw,Vh,data2,Tq⟩,Ts,Uh,n2,hd2⟩:=id p2;simp only at hc hd Uh hd2;subst hc hd Uh hd2;have e:its=[]:=(L2.aD.Rj r1).mpr hx;exact vN ⟨_,ho,rfl⟩ ⟨_,Ts,rfl⟩ noFill_tuple_add seq_tuple_add kR kM (kL _ _)
   (tuple_addW0 a b its.toArray Q4.toArray n n2 dd Vh sl Tq (by simp[e])) ⟨ho,Ts,⟨.ref b,H,I,rfl,q0 hx⟩⟩
 ·exact Gp pins s σ H _ _ v u Q I rx ry ⟨a,b,xs,ys,rfl,rfl,ha,hb,hx,hz,q1,λ_ p hp=>q2 p hp⟩
def Hr{K:W.Frag}:dP K (yi K) Hu:=by
 intro HF H x y v1 v2 d Q sm r1 r2 hg q;cases x<;>cases y<;>simp?[Hu] at hg<;>try cases hg
 rename_i xs ys;let⟨es,h1,rfl⟩:=af hg;let⟨rfl,hz⟩:=dE h1;have Vj:=r1;have Wo:=r2;simp?[Rep] at r1 r2;let⟨a,vs,rfl,ha,ra⟩:=r1;let⟨b,us,rfl,hb,rb⟩:=r2;refine⟨a,b,vs,us,rfl,rfl,av sm ha,av sm hb,by rw[ra.length,rb.length,<- zN];exact hz,λe=>?_,λe=>?_,λp hp=>q _ _ _ (.new sm hp) (cX (sm.free hp) (ra.append rb))⟩
 ·have:xs=[]:=by have:=ra.length;rw[e] at this;exact List.length_eq_zero_iff.mp this.symm
  subst this;exact q _ H HF (.refl sm) Wo
 ·have:ys=[]:=by have:=rb.length;rw[e] at this;exact List.length_eq_zero_iff.mp this.symm
  subst this;rw[qC] at q;exact q _ H HF (.refl sm) Vj
structure nA(K:W.Frag)(J:It)(HF:Hp)(ds:List D):Prop where
 go:∀i d QM QA,ds[i]?=some d->aM HF QA->aM QA QM->J.go i QM/\∀x RL,J.Tp i QM x RL->∃Ui,bV QA QM Ui RL/\Rep K Ui d x
 stop:∀QM QA,aM HF QA->aM QA QM->J.stop ds.length QM
def OQ(K:W.Frag)(f:Env->Option (List D)):TI:=λσ H R=>∃HF ρ ds,aM HF H/\cK K HF ρ σ/\f ρ=some ds/\∀J H' Qp,bV HF H Qp H'->nA K J Qp ds->R J H'
def DI(X:Cx)(tg iter:Expr)(f:Env->Option (List D)):Prop:=PI X tg iter (OQ X.K f)
def pb{K:W.Frag}(h:dM K HF a vs)(r:ar K HF ds vs):nA K (Nz K a) HF ds where
 go:=λi d QM QA e s1 s2=>by
  let⟨v,hv,rv⟩:=r.getD e;have q:=s2.seq (s1.seq h);refine⟨⟨vs,v,q,hv⟩,λx RL ⟨e2,hy⟩=>⟨QA,by rw[e2];exact .refl s2,?_⟩⟩;have:=hy vs q;rw[hv] at this;cases this;exact rv.mono s1
 stop:=λQM QA s1 s2=>⟨vs,s2.seq (s1.seq h),by rw[r.length];exact yI _⟩
def ub{K:W.Frag}(h:fU K HF a vs)(r:ar K HF ds vs):nA K (NJ K a) HF ds where
 go:=λi d QM QA e s1 s2=>by
  let⟨v,hv,rv⟩:=r.getD e;have q:=av s2 (av s1 h);refine⟨⟨vs,v,q,hv⟩,λx RL ⟨e2,hy⟩=>⟨QA,by rw[e2];exact .refl s2,?_⟩⟩;have:=hy vs q;rw[hv] at this;cases this;exact rv.mono s1
 stop:=λQM QA s1 s2=>⟨vs,av s2 (av s1 h),by rw[r.length];exact yI _⟩
def v9{K:W.Frag}{lo:Int}:nA K (NG lo n) HF ((List.range n).map λi=>PyData.int (lo+(i:Nat))) where
 go:=λi d QM QA e s1 s2=>by
  rw[zO] at e;let⟨j,hj,rfl⟩:=af e;let⟨hi,Vk⟩:=List.getElem?_eq_some_iff.mp hj;have Sv:i < n:=by simpa using hi
  have:j=i:=by rw[<- Vk];simp
  subst this;exact⟨Sv,λx RL ⟨e2,hx⟩=>⟨QA,by rw[e2];exact .refl s2,by simp[Rep,hx]⟩⟩
 stop:=λQM QA s1 s2=>by
  show n<=_;simp
section
variable {X:Cx}{tg l e:Expr}{f:Env->Option D}{fs:Env->Option (List D)}{pos p:Pos}
def nY(h:PI X tg l t)(i:∀σ H R,t' σ H R->t σ H R):PI X tg l t':=λpins s σ H R I q=>h pins s σ H R I (i σ H R q)
def KW(hl:PE X l tl):PI X tg l (λσ H R=>tl σ H λx H1=>∃a,x=.ref a/\((∃xs,dM X.K H1 a xs/\R (Nz X.K a) H1)\/∃xs,fU X.K H1 a xs/\R (NJ X.K a) H1)):=by
 intro pins s σ H R I h;refine bg (hl pins s σ H _ I h) λv s1 ⟨x,H1,I1,r1,q1⟩=>?_;let⟨a,e,q⟩:=q1;subst e;cases r1;rcases q with ⟨xs,hq,q⟩|⟨xs,hq,q⟩
 ·let⟨its,rv,pl,hz⟩:=I1.list hq;refine qG pl.isList ⟨s1.heap.objs.size,[s1.heap.objs.size],_,_,H1,rfl,I1.kept (t':=s1.toks) λb o e=>zR _ e,pW a _,⟨_,zU _ rfl,rfl,rfl⟩,λb hb=>?_,q⟩;cases List.mem_singleton.mp hb;exact I1.Rm (yI _) I1.fresh
 ·let⟨its,rv,pl,hz⟩:=I1.tuple hq;refine xO (show s1.heap.IsTuple a its.toArray from pl) ⟨s1.heap.objs.size,[s1.heap.objs.size],_,_,H1,rfl,I1.kept (t':=s1.toks) λb o e=>zR _ e,oz a _,⟨_,zU _ rfl,rfl,rfl⟩,λb hb=>?_,q⟩;cases List.mem_singleton.mp hb;exact I1.Rm (yI _) I1.fresh
def aH(f:Env->Option D):Env->Option (List D):=λρ=>(f ρ).bind gV
def EU(h:DE X l f):DI X tg l (aH f):=nY (KW h) λσ H R ⟨HF,ρ,ds,sm,eo,hf,q⟩=>by
 let⟨x,hx,hf⟩:=bs hf;refine⟨HF,ρ,x,sm,eo,hx,λv1 H1 Qr g1 r1=>?_⟩;rcases gH hf with rfl|rfl
 ·simp?[Rep] at r1;let⟨a,vs,rfl,hs,rr⟩:=r1;exact⟨a,rfl,.inr ⟨vs,av g1.fh hs,q _ H1 Qr g1 (ub hs rr)⟩⟩
 ·simp?[Rep] at r1;let⟨a,vs,rfl,hs,rr⟩:=r1;exact⟨a,rfl,.inl ⟨vs,g1.fh.seq hs,q _ H1 Qr g1 (pb hs rr)⟩⟩
def Bi(i:Int):Bool:=decide (-(2 ^ 62)<=i)&&decide (i < 2 ^ 62)
def lF:List D->Option (List D)
 | [.int j]=>if Bi j then some ((List.range j.toNat).map λi=>PyData.int ((i:Nat):Int)) else none
 | _=>none
def tG(h:lF ds=some es):∃j,ds=[.int j]/\Bi j=true/\es=(List.range j.toNat).map λi=>PyData.int ((i:Nat):Int):=by
 unfold lF at h;split at h
 ·split at h
  ·cases h;exact⟨_,rfl,‹_›,rfl⟩
  ·cases h
 ·cases h
def fK(fs:Env->Option (List D)):Env->Option (List D):=λρ=>(fs ρ).bind lF
def C0(B:l7 X "range" (.type "range"))(h:DA X [e] fs)(hs:starEach [e] X.env=[(false,eval e X.env)]:=by rfl):DI X tg (.Call (.Name "range" p) [e] [] pos) (fK fs) :=
 nY (BD B.gl B.mg h hs) λσ H R ⟨HF,ρ,ds,sm,eo,hf,q⟩=>by
  let⟨x,hx,hf⟩:=bs hf;let⟨j,rfl,hj,rfl⟩:=tG hf;refine⟨HF,ρ,_,sm,eo,hx,λvs H1 Qr g1 r1=>?_⟩;let⟨v,r,rfl,a,b⟩:=r1.cons_inv;rw[b.nil_inv];simp?[Rep] at a;subst a;unfold Bi at hj;rw[zF] at hj;refine⟨j,rfl,yM hj.1,yM hj.2,q _ H1 Qr g1 ?_⟩;have:=v9 (K:=X.K) (HF:=Qr) (lo:=0) (n:=j.toNat);simpa using this
def LZ(K:W.Frag)(f:Env->D->Option Env):TG:=λv σ H Q=>∃HF ρ d ρ',aM HF H/\cK K HF ρ σ/\Rep K HF d v/\f ρ d=some ρ'/\∀σ',cK K HF ρ' σ'->cK K HF ρ σ'->Q σ' H
def DG(X:Cx)(tg:Expr)(f:Env->D->Option Env):Prop:=PG X tg (LZ X.K f)
def lP(h:PG X tg t)(i:∀v σ H Q,t' v σ H Q->t v σ H Q):PG X tg t':=λpins s σ H v u Q I r q=>h pins s σ H v u Q I r (i v σ H Q q)
def isFree(ρ:Env)(i:Nat):Bool:=((ρ[i]?).getD none).isNone
def iP{K:W.Frag}(eo:cK K HF ρ σ)(r:Rep K HF d v):cK K HF (ρ.set i (some d)) (σ.set i (some v)):=by
 refine⟨λj e h=>?_,by rw[zZ,zZ];exact eo.len,eo.tb⟩;rw[xE] at h ⊢;by_cases QB:i=j
 ·rw[yH QB] at h ⊢;by_cases hl:i < ρ.length
  ·rw[yH hl] at h;cases h;rw[yH (zP hl eo.len)];exact⟨v,rfl,r⟩
  ·rw[yJ hl] at h;cases h
 ·rw[yJ QB] at h ⊢;exact eo.get j e h
def i5{K:W.Frag}(eo:cK K HF ρ σ)(hf:isFree ρ i=true):cK K HF ρ (σ.set i (some v)):=by
 refine⟨λj e h=>?_,by rw[zZ];exact eo.len,eo.tb⟩;have QB:i≠j:=by
  intro z;subst z;unfold isFree at hf;rw[h] at hf;cases hf
 rw[xE,yJ QB];exact eo.get j e h
def fG(i:Nat):Env->D->Option Env:=λρ d=>if isFree ρ i=true then some (ρ.set i (some d)) else none
def zp(i:Nat)(hN:X.N.Nodup)(hi:X.N[i]?=some x)(hx:Loc X.env.scope x)(hf:X.fn x=true\/X.env.scope.names.lookup x=some .local:=by first|exact .inl rfl|exact .inr rfl|assumption):DG X (.Name x pos) (fG i) :=
 lP (cQ hN hi hx hf) λv σ H Q ⟨HF,ρ,d,ρ',sm,eo,r,hf,q⟩=>by
  unfold fG at hf;split at hf
  ·cases hf;exact q _ (iP eo r) (i5 eo ‹_›)
  ·cases hf
def Fg(i j:Nat):Env->D->Option Env:=λρ d=>match d with
 | .tuple [x,y]=>if isFree ρ i=true/\isFree ρ j=true then some ((ρ.set i (some x)).set j (some y)) else none
 | _=>none
def K3(i j:Nat){px py:Pos}{k:Nat}(hc:X.calm=true)(hN:X.N.Nodup)(hi:X.N[i]?=some x)(hx:Loc X.env.scope x)(hj:X.N[j]?=some y)(hy:Loc X.env.scope y)
  (hf:X.fn x=true\/X.env.scope.names.lookup x=some .local:=by first|exact .inl rfl|exact .inr rfl|assumption) (Tu:X.fn y=true\/X.env.scope.names.lookup y=some .local:=by first|exact .inl rfl|exact .inr rfl|assumption) :
  DG X (.Tuple [.Name x px,.Name y py] k pos) (Fg i j) :=
 lP (oo hc (cv (cQ hN hi hx hf) (cv (cQ hN hj hy Tu) la))) λv σ H Q ⟨HF,ρ,d,ρ',sm,eo,r,hf,q⟩=>by
  unfold Fg at hf;split at hf
  ·rename_i x' y';split at hf
   ·rename_i hh;cases hf;simp?[Rep] at r;let⟨a,vs,rfl,hs,rr⟩:=r;let⟨v1,r1,rfl,a1,b1⟩:=rr.cons_inv;let⟨v2,r2,rfl,a2,b2⟩:=b1.cons_inv;rw[b2.nil_inv] at hs;exact⟨a,_,rfl,av sm hs,rfl,v1,_,rfl,v2,_,rfl,rfl,q _ (iP (iP eo a1) a2) (i5 (i5 eo hh.1) hh.2)⟩
   ·cases hf
  ·cases hf
def cw(tgt:Env->D->Option Env)(tt:Env->Option Bool)(te:Env->Option D)(ρ:Env):List D->Option (List D)
 | []=>some []
 | d::ds=>(tgt ρ d).bind λρ'=>(tt ρ').bind λb=>if b=true then (te ρ').bind λx=>(cw tgt tt te ρ ds).map (x::·) else cw tgt tt te ρ ds
def Iv(X:Cx)(ifs:List Expr)(f:Env->Option Bool):Prop:=Fd X ifs (FJ X.K f)
def zu:Iv X [] (λ_=>some true):=λpins s σ H Q I ⟨HF,ρ,b,sm,eo,hf,q⟩=>Gw pins s σ H Q I (by cases hf;exact q H HF (.refl sm))
def zz(h:DT X c t):Iv X [c] t:=Fq h
def gf(t:Nat)(cs:List Nat)(σ:L2.St):L2.St:=List.replicate t none++cs.map λj=>(σ[j]?).getD none
def eW(t:Nat)(cs:List Nat)(ρ:Env):Env:=List.replicate t none++cs.map λj=>(ρ[j]?).getD none
def zg{K:W.Frag}{cs:List Nat}(eo:cK K HF ρ σ):cK K HF (eW t cs ρ) (gf t cs σ):=by
 refine⟨λi d h=>?_,by simp[eW,gf],eo.tb⟩;unfold eW at h;unfold gf;by_cases hi:i < t
 ·rw[yO (by simpa using hi),yT,yH hi] at h;cases h
 ·rw[yP (by simpa using hi),zO,xH] at h;rw[yP (by simpa using hi),zO,xH];let⟨j,hj,h⟩:=af h;rw[hj];cases e:ρ[j]? with
  | none=>rw[e] at h;cases h
  | some o =>
   rw[e] at h;have h:o=some d:=h;subst h;let⟨v,a,b⟩:=eo.get j d e;exact⟨v,by show some ((σ[j]?).getD none)=_;rw[a];rfl,b⟩
def az(t:Nat)(cs:List Nat)(fi:Env->Option (List D))(tgt:Env->D->Option Env)(tt:Env->Option Bool)(te:Env->Option D):Env->Option (List D):=λρ=>(fi ρ).bind λds=>(cw tgt tt te (eW t cs ρ) ds).bind small
variable {elt iter:Expr}{ifs:List Expr}{scope:Scope}{N:List Str}{t:Nat}{cs:List Nat}{fi:Env->Option (List D)}{tgt:Env->D->Option Env}{tt:Env->Option Bool}{te:Env->Option D}
def Eo:∀σ H Q,tF X.K (az t cs fi tgt tt te) σ H Q->uM (OQ X.K fi) (LZ X.K tgt) (FJ X.K tt) (tD X.K te) (gf t cs) σ H Q:=λσ H Q ⟨HF,ρ,out,sm,eo,hf,q⟩=>by
 let⟨ds,hx,hf⟩:=bs hf;let⟨ZM,ho,hf⟩:=bs hf;let⟨rfl,hz⟩:=dE hf;refine⟨HF,ρ,ds,sm,eo,hx,λJ H1 Qr g1 it Dn hD=>?_⟩;have Xd:=zg (t:=t) (cs:=cs) (eo.mono g1.ff);have Xe:Qr Dn=none:=g1.fh.free hD;refine⟨λi m σ' H'=>m+i=ds.length/\∃Qp xs ys rest,bV Qr H1 Qp H'/\Qp Dn=none/\H' Dn=some (.lst ys)/\ar X.K Qp xs ys/\cK X.K Qp (eW t cs ρ) σ'/\cw tgt tt te (eW t cs ρ) (ds.drop i)=some rest/\xs++rest=out,
  ⟨ds.length,rfl,Qr,[],[],out,.own g1.fh hD,Xe,aC,ar.nil,Xd,ho,rfl⟩,?_⟩
 rintro i m σ' H' ⟨hm,Qp,xs,ys,rest,G,TR,Uj,rr,Xf,hc,Ta⟩;by_cases hi:i < ds.length
 ·refine .inr ?_;have hd:ds.drop i=ds[i]::ds.drop (i+1):=kH hi;have he:ds[i]?=some ds[i]:=List.getElem?_eq_some_iff.mpr ⟨hi,rfl⟩;generalize ds[i]=d at hd he;rw[hd] at hc;unfold cw at hc;let⟨ρ',h1,hc⟩:=bs hc;let⟨b,h2,hc⟩:=bs hc;let⟨go,Tp⟩:=it.go i d H' Qp he G.ff G.fh;refine⟨go,λx H2 y=>?_⟩;let⟨QC,G2,rx⟩:=Tp x H2 y;refine⟨QC,_,d,ρ',G2.fh,Xf.mono G2.ff,rx,h1,λRZ Vl Td=>?_⟩;refine⟨QC,ρ',b,G2.fh,Vl,h2,λH3 QN G3=>?_⟩;have VE:∀Rz H4,bV Qp H' Rz H4->Rz Dn=none:=λRz H4 G4=>by
   cases e4:Rz Dn with
   | none=>rfl
   | some o =>
    rcases G4.nw Dn o e4 with z|z
    ·rw[TR] at z;cases z
    ·rw[Uj] at z;cases z
  cases b with
  | false =>
   refine nJ ⟨m - 1,by lia,by lia,QN,xs,ys,rest,(G.trans G2).trans G3,VE _ _ (G2.trans G3),(G2.trans G3).hh _ _ Uj,rr.mono (G2.trans G3).ff,Td.mono G3.ff,by simpa using hc,Ta⟩
  | true =>
   rw[yH rfl] at hc;let⟨z,h3,hc⟩:=bs hc;let⟨Uk,h4,rfl⟩:=af hc;refine k8 ⟨QN,ρ',z,G3.fh,Vl.mono G3.ff,h3,λv H4 Rz G4 rv=>?_⟩;have GG:=(G2.trans G3).trans G4;have n4:=VE _ _ GG;have Xg:=GG.hh _ _ Uj;have hlen:ys.length < sizeLine:=by
    have e1:=rr.length;have e2:out.length=xs.length+(Uk.length+1):=by rw[<- Ta];simp
    lia
   refine⟨ys,Xg,hlen,m - 1,by lia,by lia,Rz,xs++[z],ys++[v],Uk,?_,n4,aC,(rr.mono GG.ff).append (ar.cons rv ar.nil),Td.mono (G3.ff.trans G4.ff),h4,by simp[<- Ta]⟩;have G5:=G.trans GG;refine⟨λb o e=>?_,G5.ff,λb o e=>?_,G5.nw⟩
   ·rw[ay (aF e hD)];exact G5.hh b o e
   ·rw[ay (aF e n4)];exact G5.fh b o e
 ·have Sv:i=ds.length:=by lia
  subst Sv;rw[List.drop_length] at hc;cases hc;rw[qC] at Ta;subst Ta;exact .inl ⟨it.stop H' Qp G.ff G.fh,q Dn ys H' Qp (g1.trans G) (g1.hh.free hD) TR Uj rr⟩
def Hs(hc:X.calm=true)(S:fM X scope N (gf t cs))(hi:DI X tg iter fi)
  (hY:∀fp s H,DG (aq X scope N fp s H) tg tgt/\Iv (aq X scope N fp s H) ifs tt/\DE (aq X scope N fp s H) elt te)
  (hs:∀x,foldedSetIterable iter X.env x=pure x:=by intro _;rfl):DF X (.ListComp elt [⟨tg,iter,ifs,0⟩] scope pos) (az t cs fi tgt tt te):=aB (GI (g:=LZ X.K tgt) (tt:=FJ X.K tt) (te:=tD X.K te) hc S hi hY hs) Eo
end
inductive Slot where
 | Qo|val (d:D)|own (ds:List D)|nest (Qu:List (List D))
abbrev au:=List Slot
def Slot.all:Slot->Option D|.Qo=>none|.val d=>some d|.own ds=>some (.list ds)|.nest Qu=>some (.list (Qu.map PyData.list))
def Slot.QY:Slot->Option D|.val d=>some d|_=>none
def Slot.VF:Slot->Slot|.own ds=>.val (.list ds)|.nest Qu=>.val (.list (Qu.map PyData.list))|s=>s
def aL(ρ:au):Env:=ρ.map Slot.all
def bR(ρ:au):Env:=ρ.map Slot.QY
def hand(fz:List Nat):Nat->au->au
 | _,[]=>[]
 | k,s::r=>(if fz.contains k=true then s.VF else s)::hand fz (k+1) r
def fY(fz:List Nat):∀ (ρ:au) (k i:Nat),(hand fz k ρ)[i]?=(ρ[i]?).map λs=>if fz.contains (k+i)=true then s.VF else s
 | [],k,i=>by simp[hand]
 | s::r,k,0=>by simp[hand]
 | s::r,k,i+1=>by
  simp?[hand,yU];rw[fY fz r (k+1) i,Nat.add_assoc,Nat.add_comm 1 i]
def uJ(fz:List Nat):∀ (ρ:au) (k:Nat),(hand fz k ρ).length=ρ.length
 | [],k=>rfl
 | s::r,k=>by simp[hand,uJ fz r (k+1)]
inductive pR(K:W.Frag)(HF H Qn:Hp):List Addr->List (List D)->Prop
 | nil:pR K HF H Qn [] []
 | cons {b:Addr}{bs:List Addr}{ds:List D}{Qu:List (List D)}{vs:List V}:H b=some (.lst vs)->HF b=none->Qn b=none->ar K HF ds vs->pR K HF H Qn bs Qu->pR K HF H Qn (b::bs) (ds::Qu)
structure xc(K:W.Frag)(HF H Qn:Hp)(a:Addr)(bs:List Addr)(Qu:List (List D)):Prop where
 hd:H a=some (.lst (bs.map V.ref))
 fz:HF a=none
 h0:Qn a=none
 ins:pR K HF H Qn bs Qu
 nd:(a::bs).Nodup
section
variable {K:W.Frag}{a:Addr}{bs:List Addr}{Qu:List (List D)}
def pR.imp(h:pR K HF H Qn bs Qu)(s:aM HF Qp)(e:∀b∈bs,∀o,H b=some o->HF b=none->H' b=some o/\Qp b=none):pR K Qp H' Qn bs Qu:=by
 induction h with
 | nil=>exact .nil
 | cons h1 h2 h3 r _ ih =>
  let⟨z1,z2⟩:=e _ zE _ h1 h2;exact .cons z1 z2 h3 (r.mono s) (ih λb hb=>e b (zC _ hb))
def xc.imp(h:xc K HF H Qn a bs Qu)(s:aM HF Qp)(e:∀b∈a::bs,∀o,H b=some o->HF b=none->H' b=some o/\Qp b=none):xc K Qp H' Qn a bs Qu :=
 let z:=e a zE _ h.hd h.fz
 ⟨z.1,z.2,h.h0,h.ins.imp s λb hb=>e b (zC _ hb),h.nd⟩
def pR.there(h:pR K HF H Qn bs Qu):∀b∈bs,HF b=none/\Qn b=none/\∃vs,H b=some (.lst vs):=by
 induction h with
 | nil=>exactλb hb=>by cases hb
 | cons h1 h2 h3 _ _ ih =>
  intro b hb;rcases List.mem_cons.mp hb with e|e
  ·rw[e];exact⟨h2,h3,_,h1⟩
  ·exact ih b e
def xc.there(h:xc K HF H Qn a bs Qu):∀b∈a::bs,HF b=none/\Qn b=none/\∃vs,H b=some (.lst vs):=λb hb=>by
 rcases List.mem_cons.mp hb with e|e
 ·rw[e];exact⟨h.fz,h.h0,_,h.hd⟩
 ·exact h.ins.there b e
def pR.Xh(h:pR K HF H Qn bs Qu)(s:aM HF H):ar K H (Qu.map PyData.list) (bs.map V.ref):=by
 induction h with
 | nil=>exact ar.nil
 | cons h1 _ _ r _ ih=>exact ar.cons (by simp?[Rep];exact⟨_,_,rfl,dM.of h1,r.mono s⟩) ih
def xc.rep(h:xc K HF H Qn a bs Qu)(s:aM HF H):Rep K H (.list (Qu.map PyData.list)) (.ref a):=by
 simp?[Rep];exact⟨a,_,rfl,dM.of h.hd,h.ins.Xh s⟩
def pR.VG(h:pR K HF H Qn bs Qu)(s:aM HF Qr)(e:∀b∈bs,Qr b=H b):ar K Qr (Qu.map PyData.list) (bs.map V.ref):=by
 induction h with
 | nil=>exact ar.nil
 | cons h1 _ _ r _ ih=>exact ar.cons (by simp?[Rep];exact⟨_,_,rfl,dM.of ((e _ zE).trans h1),r.mono s⟩) (ih λb hb=>e b (zC _ hb))
def xc.Xi(h:xc K HF H Qn a bs Qu)(s:aM HF Qr)(e:∀b∈a::bs,Qr b=H b):Rep K Qr (.list (Qu.map PyData.list)) (.ref a):=by
 simp?[Rep];exact⟨a,_,rfl,dM.of ((e a zE).trans h.hd),h.ins.VG s λb hb=>e b (zC _ hb)⟩
end
structure eK(K:W.Frag)(Qm Qn HF H:Hp)(ρ:au)(σ:L2.St):Prop where
 gr:bV Qm Qn HF H
 val:∀ (i:Nat) (d:D),ρ[i]?=some (.val d)->∃v,σ[i]?=some (some v)/\Rep K HF d v
 own:∀ (i:Nat) (ds:List D),ρ[i]?=some (.own ds)->∃a vs,σ[i]?=some (some (.ref a))/\H a=some (.lst vs)/\HF a=none/\Qn a=none/\ar K HF ds vs
 inj:∀ (i j:Nat) (ds es:List D) (a:Addr),ρ[i]?=some (.own ds)->ρ[j]?=some (.own es)->σ[i]?=some (some (.ref a))->σ[j]?=some (some (.ref a))->i=j
 len:ρ.length<=σ.length
 tb:dz K HF
 Sn:∀ (i:Nat) (Qu:List (List D)),ρ[i]?=some (.nest Qu)->∃a bs,σ[i]?=some (some (.ref a))/\xc K HF H Qn a bs Qu/\∀ (j:Nat) (ds:List D) (b:Addr),ρ[j]?=some (.own ds)->σ[j]?=some (some (.ref b))->b∉a::bs
 one:∀ (i j:Nat) (Qu Xj:List (List D)),ρ[i]?=some (.nest Qu)->ρ[j]?=some (.nest Xj)->i=j
section
variable {K:W.Frag}
def eK.all(S:eK K Qm Qn HF H ρ σ):cK K H (aL ρ) σ:=by
 refine⟨λi d h=>?_,by simpa [aL] using S.len,S.tb.mono S.gr.fh⟩;unfold aL at h;rw[zO] at h;let⟨s,hs,h⟩:=af h;cases s with
 | Qo=>cases h
 | val e=>cases h;let⟨v,a,b⟩:=S.val i _ hs;exact⟨v,a,b.mono S.gr.fh⟩
 | own ds =>
  cases h;let⟨a,vs,e1,e2,e3,_,e4⟩:=S.own i ds hs;exact⟨.ref a,e1,by simp?[Rep];exact⟨a,vs,rfl,dM.of e2,e4.mono S.gr.fh⟩⟩
 | nest Qu =>
  cases h;let⟨a,bs,e1,n,_⟩:=S.Sn i Qu hs;exact⟨.ref a,e1,n.rep S.gr.fh⟩
def eK.QY(S:eK K Qm Qn HF H ρ σ):cK K HF (bR ρ) σ:=by
 refine⟨λi d h=>?_,by simpa [bR] using S.len,S.tb⟩;unfold bR at h;rw[zO] at h;let⟨s,hs,h⟩:=af h;cases s with
 | Qo=>cases h
 | val e=>cases h;exact S.val i _ hs
 | own ds=>cases h
 | nest Qu=>cases h
def bV.QL(g:bV HF H Qp H')(e3:HF a=none)(e2:H a=some u):Qp a=none:=by
 cases e:Qp a with
 | none=>rfl
 | some o =>
  rcases g.nw a o e with z|z
  ·rw[e3] at z;cases z
  ·rw[e2] at z;cases z
def eK.grow(S:eK K Qm Qn HF H ρ σ)(g:bV HF H Qp H'):eK K Qm Qn Qp H' ρ σ where
 gr:=S.gr.trans g
 val:=λi d h=>let ⟨v,a,b⟩:=S.val i d h;⟨v,a,b.mono g.ff⟩
 own:=λi ds h=>by
  let⟨a,vs,e1,e2,e3,e5,e4⟩:=S.own i ds h;exact⟨a,vs,e1,g.hh _ _ e2,g.QL e3 e2,e5,e4.mono g.ff⟩
 inj:=S.inj
 len:=S.len
 tb:=S.tb.mono g.ff
 Sn:=λi Qu h=>by
  let⟨a,bs,e1,n,di⟩:=S.Sn i Qu h;exact⟨a,bs,e1,n.imp g.ff λb _ o z1 z2=>⟨g.hh _ _ z1,g.QL z2 z1⟩,di⟩
 one:=S.one
def eK.step(S:eK K Qm Qn HF H ρ σ)(g:aM H H'):eK K Qm Qn HF H' ρ σ:=S.grow ⟨g,.refl _,S.gr.fh.trans g,λ_ _ e=>.inl e⟩
def nc:∀ {xs ys:List Addr},xs.map V.ref=ys.map V.ref->xs=ys
 | [],[],_=>rfl
 | [],_::_,h=>by simp at h
 | _::_,[],h=>by simp at h
 | x::xs,y::ys,h=>by
  rw[zI,zI] at h;injection h with h1 h2
  injection h1 with h1
  rw[h1,nc h2]
def lM{ρ:au}{fz:List Nat}{i:Nat}{Qu:List (List D)}(h:(Dl.hand fz 0 ρ)[i]?=some (Slot.nest Qu)):ρ[i]?=some (Slot.nest Qu)/\¬ fz.contains i=true:=by
 rw[fY,qY] at h;let⟨s,hs,h⟩:=af h;cases s<;>split at h<;>cases h<;>exact⟨hs,by assumption⟩
def jy{ρ:au}{fz:List Nat}{i:Nat}{ds:List D}(h:(Dl.hand fz 0 ρ)[i]?=some (Slot.own ds)):ρ[i]?=some (Slot.own ds)/\¬ fz.contains i=true:=by
 rw[fY,qY] at h;let⟨s,hs,h⟩:=af h;cases s<;>split at h<;>cases h<;>exact⟨hs,by assumption⟩
def eK.hand(S:eK K Qm Qn HF H ρ σ)(fz:List Nat):∃Qr,aM HF Qr/\eK K Qm Qn Qr H (hand fz 0 ρ) σ:=by
 let P:Addr->Prop:=λa=>(∃ (i:Nat) (ds:List D),fz.contains i=true/\ρ[i]?=some (.own ds)/\σ[i]?=some (some (.ref a)))\/∃ (i:Nat) (Qu:List (List D)) (a':Addr) (bs:List Addr),fz.contains i=true/\ρ[i]?=some (.nest Qu)/\σ[i]?=some (some (.ref a'))/\xc K HF H Qn a' bs Qu/\a∈a'::bs;have cl:=Classical.propDecidable;let Qr:Hp:=λa=>if P a then H a else HF a
 have hP:∀a,P a->HF a=none/\Qn a=none:=λa z=>by
  rcases z with ⟨i,ds,_,h1,h2⟩|⟨i,Qu,a',bs,_,_,_,n,hm⟩
  ·let⟨a',vs,e1,e2,e3,e5,e4⟩:=S.own i ds h1;rw[h2] at e1;cases e1;exact⟨e3,e5⟩
  ·exact⟨(n.there a hm).1,(n.there a hm).2.1⟩
 have s1:aM HF Qr:=λb o e=>by
  show (if P b then H b else HF b)=some o;by_cases h:P b
  ·rw[(hP b h).1] at e;cases e
  ·rw[yJ h];exact e
 have s2:aM Qr H:=λb o e=>by
  have e:(if P b then H b else HF b)=some o:=e;by_cases h:P b
  ·rw[yH h] at e;exact e
  ·rw[yJ h] at e;exact S.gr.fh b o e
 refine⟨Qr,s1,⟨S.gr.hh,S.gr.ff.trans s1,s2,λb o e=>?_⟩,λi d h=>?_,λi ds h=>?_,λi j ds es a h1 h2=>S.inj i j ds es a (jy h1).1 (jy h2).1,by rw[uJ];exact S.len,S.tb.mono s1,λi Qu h=>?_,λi j ks ls h1 h2=>S.one i j ks ls (lM h1).1 (lM h2).1⟩
 ·have e:(if P b then H b else HF b)=some o:=e;by_cases h:P b
  ·exact .inr (hP b h).2
  ·rw[yJ h] at e;exact S.gr.nw b o e
 ·rw[fY] at h;let⟨s,hs,h⟩:=af h;rw[qY] at h;cases s with
  | Qo=>split at h<;>cases h
  | val e =>
   have:Slot.val e=Slot.val d:=by split at h<;>exact h
   cases this;let⟨v,a,b⟩:=S.val i _ hs;exact⟨v,a,b.mono s1⟩
  | own ds =>
   split at h
   ·rename_i hc;cases h;let⟨a,vs,e1,e2,e3,e5,e4⟩:=S.own i ds hs;refine⟨.ref a,e1,?_⟩;simp?[Rep];refine⟨a,vs,rfl,.inl (.inl ?_),e4.mono s1⟩;show (if P a then H a else HF a)=_;rw[yH (.inl ⟨i,ds,hc,hs,e1⟩)];exact e2
   ·cases h
  | nest Qu =>
   split at h
   ·rename_i hc;cases h;let⟨a,bs,e1,n,di⟩:=S.Sn i Qu hs;exact⟨.ref a,e1,n.Xi s1 λb hb=>yH (.inr ⟨i,Qu,a,bs,hc,hs,e1,n,hb⟩)⟩
   ·cases h
 ·let⟨hs,hc⟩:=jy h;let⟨a,vs,e1,e2,e3,e5,e4⟩:=S.own i ds hs;refine⟨a,vs,e1,e2,?_,e5,e4.mono s1⟩;show (if P a then H a else HF a)=none;rw[yJ ?_]
  ·exact e3
  ·rintro (⟨j,es,hj,h1,h2⟩|⟨j,Qu,a',bs,hj,h1,h2,n,hm⟩)
   ·have:=S.inj i j ds es a hs h1 e1 h2;subst this;exact hc hj
   ·let⟨a2,Xl,f1,n2,di⟩:=S.Sn j Qu h1;rw[h2] at f1;cases f1;have hb:bs=Xl:=nc (by have:=n.hd;rw[n2.hd] at this;injection this with this;injection this with this;exact this.symm);subst hb;exact di i ds a hs e1 hm
 ·let⟨hs,hc⟩:=lM h;let⟨a,bs,e1,n,di⟩:=S.Sn i Qu hs;refine⟨a,bs,e1,n.imp s1 λb hb o z1 z2=>⟨z1,?_⟩,λj ds b h1 h2=>di j ds b (jy h1).1 h2⟩;show (if P b then H b else HF b)=none;rw[yJ ?_]
  ·exact z2
  ·rintro (⟨j,es,hj,h1,h2⟩|⟨j,Xj,a',UR,hj,h1,h2,n',hm⟩)
   ·exact di j es b h1 h2 hb
   ·have:=S.one i j Qu Xj hs h1;subst this;exact hc hj
def eK.Rr(S:eK K Qm Qn HF H ρ σ)(r:Rep K HF d v):eK K Qm Qn HF H (ρ.set i (.val d)) (σ.set i (some v)):=by
 have ne:∀ {j:Nat}{s:Slot},(ρ.set i (.val d))[j]?=some s->(∀e,s≠.val e)->i≠j/\ρ[j]?=some s:=λ{j s} h hn=>by
  rw[xE] at h;by_cases QB:i=j
  ·rw[yH QB] at h;split at h
   ·cases h;exact absurd rfl (hn _)
   ·cases h
  ·rw[yJ QB] at h;exact⟨QB,h⟩
 refine⟨S.gr,λj e h=>?_,λj ds h=>?_,λj k ds es a h1 h2 h3 h4=>?_,by rw[zZ,zZ];exact S.len,S.tb,λj ks h=>?_,λj k ks ls h1 h2=>S.one j k ks ls (ne h1 λe z=>by cases z).2 (ne h2 λe z=>by cases z).2⟩
 ·rw[xE] at h ⊢;by_cases QB:i=j
  ·rw[yH QB] at h ⊢;split at h
   ·rename_i hl;cases h;rw[yH (zP hl S.len)];exact⟨v,rfl,r⟩
   ·cases h
  ·rw[yJ QB] at h ⊢;exact S.val j e h
 ·let⟨QB,h⟩:=ne h λe z=>by cases z
  rw[xE,yJ QB];exact S.own j ds h
 ·let⟨n1,h1⟩:=ne h1 λe z=>by cases z
  let⟨n2,h2⟩:=ne h2 λe z=>by cases z
  rw[xE,yJ n1] at h3;rw[xE,yJ n2] at h4;exact S.inj j k ds es a h1 h2 h3 h4
 ·let⟨QB,h⟩:=ne h λe z=>by cases z
  rw[xE,yJ QB];let⟨a,bs,e1,n,di⟩:=S.Sn j ks h;refine⟨a,bs,e1,n,λk ds b h1 h2=>?_⟩;let⟨Rk,h1⟩:=ne h1 λe z=>by cases z
  rw[xE,yJ Rk] at h2;exact di k ds b h1 h2
def eK.Te(S:eK K Qm Qn HF H ρ σ)(ha:H a=none)(s:aM H H')(j:Nat)(Qu:List (List D))(a':Addr)(bs:List Addr)(h:ρ[j]?=some (.nest Qu))(h1:σ[j]?=some (some (.ref a')))(h2:H' a'=some (.lst (bs.map V.ref))):a∉a'::bs:=λhm=>by
 let⟨a2,Xl,e1,n,_⟩:=S.Sn j Qu h;rw[h1] at e1;cases e1;have:=s _ _ n.hd;rw[h2] at this;obtain rfl:bs=Xl:=nc (by injection this with this;injection this);let⟨_,_,vs,e⟩:=n.there a hm;rw[ha] at e;cases e
def eK.Xm(S:eK K Qm Qn HF H ρ σ)(hs:aM H H')(h1:H' a=some (.lst vs))(h2:HF a=none)(h3:Qn a=none)(r:ar K HF ds vs)
  (fr:∀j es,i≠j->ρ[j]?=some (.own es)->σ[j]?≠some (some (.ref a))) (fn:∀ (j:Nat) (Qu:List (List D)) (a':Addr) (bs:List Addr),ρ[j]?=some (.nest Qu)->σ[j]?=some (some (.ref a'))->H' a'=some (.lst (bs.map V.ref))->a∉a'::bs):eK K Qm Qn HF H' (ρ.set i (.own ds)) (σ.set i (some (.ref a))):=by
 have S:=S.step hs;have nt:∀ {j:Nat}{ks:List (List D)},(ρ.set i (.own ds))[j]?=some (.nest ks)->i≠j/\ρ[j]?=some (.nest ks):=λ{j ks} h=>by
  rw[xE] at h;by_cases QB:i=j
  ·rw[yH QB] at h;split at h<;>cases h
  ·rw[yJ QB] at h;exact⟨QB,h⟩
 refine⟨S.gr,λj e h=>?_,λj es h=>?_,λj k xs ys b e1 e2 e3 e4=>?_,by rw[zZ,zZ];exact S.len,S.tb,λj ks h=>?_,λj k ks ls h1 h2=>S.one j k ks ls (nt h1).2 (nt h2).2⟩
 ·rw[xE] at h ⊢;by_cases QB:i=j
  ·rw[yH QB] at h;split at h<;>cases h
  ·rw[yJ QB] at h ⊢;exact S.val j e h
 ·rw[xE] at h ⊢;by_cases QB:i=j
  ·rw[yH QB] at h ⊢;split at h
   ·rename_i hl;cases h;rw[yH (zP hl S.len)];exact⟨a,vs,rfl,h1,h2,h3,r⟩
   ·cases h
  ·rw[yJ QB] at h ⊢;exact S.own j es h
 ·rw[xE] at e1 e2 e3 e4;by_cases QB:i=j
  ·by_cases Rk:i=k
   ·exact QB.symm.trans Rk
   ·rw[yH QB] at e1 e3;rw[yJ Rk] at e2 e4;split at e3
    ·cases e3;exact absurd e4 (fr k ys Rk e2)
    ·cases e3
  ·by_cases Rk:i=k
   ·rw[yJ QB] at e1 e3;rw[yH Rk] at e2 e4;split at e4
    ·cases e4;exact absurd e3 (fr j xs QB e1)
    ·cases e4
   ·rw[yJ QB] at e1 e3;rw[yJ Rk] at e2 e4;exact S.inj j k xs ys b e1 e2 e3 e4
 ·let⟨QB,h⟩:=nt h;rw[xE,yJ QB];let⟨a',bs,e1,n,di⟩:=S.Sn j ks h;refine⟨a',bs,e1,n,λk es b h1 h2=>?_⟩;rw[xE] at h1 h2;by_cases Rk:i=k
  ·rw[yH Rk] at h2;split at h2
   ·cases h2;exact fn j ks a' bs h e1 n.hd
   ·cases h2
  ·rw[yJ Rk] at h1 h2;exact di k es b h1 h2
end
inductive Out where
 | nx (ρ:au)|rt (d:D)
def Ae(K:W.Frag)(Qm Qn HF:Hp)(E:Ends):Out->Prop
 | .nx ρ'=>∀σ' H' Qp,eK K Qm Qn Qp H' ρ' σ'->aM HF Qp->E.nx σ' H'
 | .rt d=>∀v H' Qp,bV Qm Qn Qp H'->Rep K Qp d v->E.rt v H'
def tS(K:W.Frag)(Qm Qn:Hp)(g:au->Option Out):TS:=λE σ H=>∃HF ρ o,eK K Qm Qn HF H ρ σ/\g ρ=some o/\Ae K Qm Qn HF E o
def DS(X:Cx)(Qm Qn:Hp)(st:Stmt)(g:au->Option Out):Prop:=PS X st (tS X.K Qm Qn g)
def xk(X:Cx)(Qm Qn:Hp)(st:List Stmt)(g:au->Option Out):Prop:=uE X st (tS X.K Qm Qn g)
section
variable {X:Cx}{Qm Qn:Hp}{st:Stmt}{rest:List Stmt}{g g1 g2:au->Option Out}{e:Expr}{pos:Pos}
def bW(h:PS X st t)(i:∀E σ H,t' E σ H->t E σ H):PS X st t':=λpins s σ H E I q=>h pins s σ H E I (i E σ H q)
def rW(h:uE X rest t)(i:∀E σ H,t' E σ H->t E σ H):uE X rest t':=λpins s σ H E I q=>h pins s σ H E I (i E σ H q)
def hV:au->Option Out:=λρ=>some (.nx ρ)
def aA(g1 g2:au->Option Out):au->Option Out:=λρ=>(g1 ρ).bind fun|.nx ρ'=>g2 ρ'|.rt d=>some (.rt d)
def Ae.mono{K:W.Frag}(s:aM HF Qp)(h:Ae K Qm Qn HF E o):Ae K Qm Qn Qp E o:=by
 cases o with
 | nx ρ'=>exactλσ' H' QC S s2=>h σ' H' QC S (s.trans s2)
 | rt d=>exact h
def F6:xk X Qm Qn [] hV:=rW mR λE σ H ⟨HF,ρ,o,S,hg,q⟩=>by cases hg;exact q σ H HF S (.refl _)
def uy(h1:DS X Qm Qn st g1)(h2:xk X Qm Qn rest g2):xk X Qm Qn (st::rest) (aA g1 g2):=rW (ib h1 h2) λE σ H ⟨HF,ρ,o,S,hg,q⟩=>by
 let⟨o1,h,hg⟩:=bs hg;refine⟨HF,ρ,o1,S,h,?_⟩;cases o1 with
 | nx ρ'=>exactλσ' H' Qp S' s=>⟨Qp,ρ',o,S',hg,q.mono s⟩
 | rt d=>cases hg;exact q
def Gy(h1:DS X Qm Qn st g1):xk X Qm Qn [st] g1:=FQ h1
def Gh:DS X Qm Qn (.Pass pos) hV:=bW FY λE σ H ⟨HF,ρ,o,S,hg,q⟩=>by cases hg;exact q σ H HF S (.refl _)
def Jp{x j pos pos'}:DS X Qm Qn (.Expr (.Constant (.str x) j pos) pos') hV:=bW K8 λE σ H ⟨HF,ρ,o,S,hg,q⟩=>by cases hg;exact q σ H HF S (.refl _)
def iW(t:Env->Option Bool)(g1 g2:au->Option Out):au->Option Out:=λρ=>(t (aL ρ)).bind λb=>if b=true then g1 ρ else g2 ρ
def MO(hc:DT X c t)(ha:xk X Qm Qn a g1)(hb:xk X Qm Qn b g2):DS X Qm Qn (.If c a b pos) (iW t g1 g2):=bW (EJ hc ha hb) λE σ H ⟨HF,ρ,o,S,hg,q⟩=>by
 let⟨b,h,hg⟩:=bs hg;refine⟨H,aL ρ,b,.refl _,S.all,h,λH' Qp G=>?_⟩;cases b with
 | true=>exact k8 ⟨HF,ρ,o,S.step G.hh,hg,q⟩
 | false=>exact nJ ⟨HF,ρ,o,S.step G.hh,hg,q⟩
def tO:∀ (ρ:au) (k n:Nat),k+ρ.length<=n->bR (hand (List.range n) k ρ)=aL ρ
 | [],k,n,h=>rfl
 | s::r,k,n,h=>by
  have hk:(List.range n).contains k=true:=by simp at h ⊢;lia
  have ih:=tO r (k+1) n (by simp at h;lia);unfold bR aL at ih ⊢;rw[hand,yH hk,zI,zI,ih];cases s<;>rfl
def bh(f:Env->Option D):au->Option Out:=λρ=>(f (aL ρ)).map Out.rt
def K0(h:DE X e f):DS X Qm Qn (.Return (some e) pos) (bh f):=bW (vg h) λE σ H ⟨HF,ρ,o,S,hg,q⟩=>by
 let⟨d,h,rfl⟩:=af hg;let⟨Qr,s1,S1⟩:=S.hand (List.range ρ.length);refine⟨Qr,aL ρ,d,S1.gr.fh,?_,h,λv H' Qp G r=>q v H' Qp (S1.gr.trans G) r⟩;have:=S1.QY;rw[tO ρ 0 ρ.length (by lia)] at this;exact this
def mM:D->Bool|.none=>true|.bool _=>true|.int _=>true|.str _=>true|_=>false
def sZ{K:W.Frag}(h:mM d=true)(r:Rep K HF d v):Rep K Qp d v:=by
 cases d<;>cases h<;>(simp?[Rep] at r ⊢;exact r)
mutual
def gS:D->Bool
 | .tuple ds=>jg ds
 | .list _=>false
 | .dict _=>false
 | _=>true
def jg:List D->Bool
 | []=>true
 | d::ds=>gS d&&jg ds
end
mutual
theorem sJ{K:W.Frag}{H1 H2:Hp}(ht:∀a xs,fU K H1 a xs->fU K H2 a xs):∀ {d:D}{v:V},gS d=true->Rep K H1 d v->Rep K H2 d v
 | .none,_,_,r=>by simp?[Rep] at r ⊢;exact r
 | .bool _,_,_,r=>by simp?[Rep] at r ⊢;exact r
 | .int _,_,_,r=>by simp?[Rep] at r ⊢;exact r
 | .str _,_,_,r=>by simp?[Rep] at r ⊢;exact r
 | .tuple ds,v,h,r=>by
  simp?[gS] at h;simp?[Rep] at r ⊢;let⟨a,vs,e,q,rr⟩:=r;exact⟨a,vs,e,ht _ _ q,pZ ht h rr⟩
 | .list _,_,h,_=>by simp[gS] at h
 | .dict _,_,h,_=>by simp[gS] at h
theorem pZ{K:W.Frag}{H1 H2:Hp}(ht:∀a xs,fU K H1 a xs->fU K H2 a xs):∀ {ds:List D}{vs:List V},jg ds=true->ar K H1 ds vs->ar K H2 ds vs
 | [],_,_,r=>by simp?[ar] at r ⊢;exact r
 | d::ds,vs,h,r=>by
  simp?[jg,zF] at h;simp?[ar] at r ⊢;let⟨v,r',e,a,b⟩:=r;exact⟨v,r',e,sJ ht h.1 a,pZ ht h.2 b⟩
end
def eK.back{K:W.Frag}(S:eK K Qm Qn HF H ρ σ)(S1:eK K Qm Qn Qr H ρ1 σ)(s1:aM HF Qr)(G:bV Qr H Qp H'):∃QC,aM HF QC/\eK K Qm Qn QC H' ρ σ/\(∀d v,gS d=true->Rep K Qp d v->Rep K QC d v)/\∀b o,QC b=some o->Qp b=some o:=by
 have cl:=Classical.propDecidable;let O:Addr->Prop:=λa=>(∃ (i:Nat) (ds:List D),ρ[i]?=some (Slot.own ds)/\σ[i]?=some (some (V.ref a)))\/∃ (i:Nat) (Qu:List (List D)) (a':Addr) (bs:List Addr),ρ[i]?=some (Slot.nest Qu)/\σ[i]?=some (some (V.ref a'))/\xc K HF H Qn a' bs Qu/\a∈a'::bs;let QC:Hp:=λa=>if O a then none else Qp a
 have hO:∀a,O a->HF a=none/\∃vs,H a=some (.lst vs):=λa z=>by
  rcases z with ⟨i,ds,h1,h2⟩|⟨i,Qu,a',bs,_,_,n,hm⟩
  ·let⟨a',vs,e1,e2,e3,_,_⟩:=S.own i ds h1;rw[h2] at e1;cases e1;exact⟨e3,vs,e2⟩
  ·exact⟨(n.there a hm).1,(n.there a hm).2.2⟩
 have h2:∀a,¬ O a->QC a=Qp a:=λa n=>yJ n;have h3:∀a,O a->QC a=none:=λa n=>yH n;have sa:aM HF QC:=λb o e=>by
  have nb:¬ O b:=λz=>by rw[(hO b z).1] at e;cases e
  rw[h2 b nb];exact G.ff b o (s1 b o e)
 have sb:∀b o,QC b=some o->Qp b=some o:=λb o e=>by
  by_cases z:O b
  ·rw[h3 b z] at e;cases e
  ·rwa [h2 b z] at e
 have g2:=S1.gr.trans G;refine⟨QC,sa,⟨⟨g2.hh,S.gr.ff.trans sa,λb o e=>G.fh b o (sb b o e),λb o e=>g2.nw b o (sb b o e)⟩,λi d h=>?_,λi ds h=>?_,S.inj,S.len,S.tb.mono sa,λi Qu h=>?_,S.one⟩,λd v hn r=>sJ (λa xs q=>?_) hn r,sb⟩
 ·let⟨v,e1,r⟩:=S.val i d h;exact⟨v,e1,r.mono sa⟩
 ·let⟨a,vs,e1,e2,e3,e5,e4⟩:=S.own i ds h;exact⟨a,vs,e1,G.hh _ _ e2,h3 a (.inl ⟨i,ds,h,e1⟩),e5,e4.mono sa⟩
 ·let⟨a,bs,e1,n,di⟩:=S.Sn i Qu h;exact⟨a,bs,e1,n.imp sa λb hb o z1 z2=>⟨G.hh _ _ z1,h3 b (.inr ⟨i,Qu,a,bs,h,e1,n,hb⟩)⟩,di⟩
 ·have nt:∀o,Qp a=some o->(∀vs,o≠.lst vs)->QC a=some o:=λo e QS=>by
   by_cases z:O a
   ·let⟨_,vs,e2⟩:=hO a z;have:=G.hh _ _ e2;rw[G.fh a o e] at this;cases this;exact absurd rfl (QS vs)
   ·rw[h2 a z];exact e
  rcases q with (q|⟨o,q⟩)|q
  ·exact .inl (.inl (nt _ q λvs z=>by cases z))
  ·exact .inl (.inr ⟨o,nt _ q λvs z=>by cases z⟩)
  ·exact .inr q
def aS(i:Nat)(fz:List Nat)(f:Env->Option D):au->Option Out:=λρ=>(f (aL ρ)).bind λd=>if mM d=true then some (.nx (ρ.set i (.val d))) else (f (bR (hand fz 0 ρ))).map λd'=>.nx ((if gS d'=true then ρ else hand fz 0 ρ).set i (.val d'))
def L8:∀E σ H,tS X.K Qm Qn (aS i fz f) E σ H->Cr (tD X.K f) (sR i) E σ H:=λE σ H ⟨HF,ρ,o,S,hg,q⟩=>by
 let⟨d,h,hg⟩:=bs hg;split at hg
 ·rename_i hs;cases hg;exact⟨H,aL ρ,d,.refl _,S.all,h,λv H' Qp G r=>q _ H' HF ((S.step G.hh).Rr (sZ hs r)) (.refl _)⟩
 ·let⟨d',h',rfl⟩:=af hg;let⟨Qr,s1,S1⟩:=S.hand fz;refine⟨Qr,_,d',S1.gr.fh,S1.QY,h',λv H' Qp G r=>?_⟩;by_cases hn:gS d'=true
  ·rw[yH hn] at q;let⟨QC,s2,S2,hb,_⟩:=S.back S1 s1 G;exact q _ H' QC (S2.Rr (hb d' v hn r)) s2
  ·rw[yJ hn] at q;exact q _ H' Qp ((S1.grow G).Rr r) (s1.trans G.ff)
def JC(i:Nat)(fz:List Nat)(hN:X.N.Nodup)(hi:X.N[i]?=some x)(hx:Loc X.env.scope x)(he:DE X e f)(hs:swapsWith e (some (.Name x pos')) pos.line X.env=pure false:=by rfl)
  (hf:X.fn x=true\/X.env.scope.names.lookup x=some .local:=by first|exact .inl rfl|exact .inr rfl|assumption):DS X Qm Qn (.Assign [.Name x pos'] e pos) (aS i fz f):=bW (oF hN hi hx he hs hf) L8
def bf(i:Nat)(fz:List Nat)(f:Env->Option (List D)):au->Option Out:=λρ=>(f (bR (hand fz 0 ρ))).map λds=>.nx ((hand fz 0 ρ).set i (.own ds))
def EG:∀E σ H,tS X.K Qm Qn (bf i fz f) E σ H->Cr (tF X.K f) (sR i) E σ H:=λE σ H ⟨HF,ρ,o,S,hg,q⟩=>by
 let⟨ds,h,rfl⟩:=af hg;let⟨Qr,s1,S1⟩:=S.hand fz;refine⟨Qr,_,ds,S1.gr.fh,S1.QY,h,λa vs H' Qp G ha hf h' r=>q _ H' Qp ?_ (s1.trans G.ff)⟩;have S2:=S1.grow G;refine S2.Xm (.refl _) h' hf (S1.gr.hh.free ha) r (λj es _ hj z=>?_) (S1.Te ha G.hh);let⟨b,us,e1,e2,_⟩:=S1.own j es hj;rw[e1] at z;cases z;rw[ha] at e2;cases e2
def si(i:Nat)(fz:List Nat)(hN:X.N.Nodup)(hi:X.N[i]?=some x)(hx:Loc X.env.scope x)(he:DF X e f)(hs:swapsWith e (some (.Name x pos')) pos.line X.env=pure false:=by rfl)
  (hf:X.fn x=true\/X.env.scope.names.lookup x=some .local:=by first|exact .inl rfl|exact .inr rfl|assumption):DS X Qm Qn (.Assign [.Name x pos'] e pos) (bf i fz f):=bW (oF hN hi hx he hs hf) EG
def Fo(i:Nat)(fz:List Nat){cs:List Nat}
  (hc:X.calm=true) (S:fM X scope N (gf t cs)) (hi:DI X tg iter fi)
  (hY:∀fp s H,DG (aq X scope N fp s H) tg tgt/\Iv (aq X scope N fp s H) ifs tt/\DE (aq X scope N fp s H) elt te)
  (hN:X.N.Nodup) (Xb:X.N[i]?=some y) (hy:X.env.scope.names.lookup y=some .local)
  (Xc:swapsWith (.ListComp elt [⟨tg,iter,ifs,0⟩] scope pos) (some (.Name y py)) Rp.line X.env=pure true)
  (hs:∀x,foldedSetIterable iter X.env x=pure x:=by intro _;rfl):DS X Qm Qn (.Assign [.Name y py] (.ListComp elt [⟨tg,iter,ifs,0⟩] scope pos) Rp) (bf i fz (az t cs fi tgt tt te)) :=
 bW (F4 (g:=LZ X.K tgt) (tt:=FJ X.K tt) (te:=tD X.K te) hc S hi hY hN Xb hy Xc hs) λE σ H q=>by
  have:=EG E σ H q;exact Eo σ H _ this
def PP(K:W.Frag)(Qm Qn:Hp)(f:au->D->Option au):TG:=λv σ H Q=>∃HF ρ d ρ',eK K Qm Qn HF H ρ σ/\Rep K HF d v/\f ρ d=some ρ'/\∀σ',eK K Qm Qn HF H ρ' σ'->Q σ' H
def MV(X:Cx)(Qm Qn:Hp)(tg:Expr)(f:au->D->Option au):Prop:=PG X tg (PP X.K Qm Qn f)
def uz(i:Nat):au->D->Option au:=λρ d=>some (ρ.set i (.val d))
def BX(i:Nat)(hN:X.N.Nodup)(hi:X.N[i]?=some x)(hx:Loc X.env.scope x)(hf:X.fn x=true\/X.env.scope.names.lookup x=some .local:=by first|exact .inl rfl|exact .inr rfl|assumption):MV X Qm Qn (.Name x pos) (uz i) :=
 lP (cQ hN hi hx hf) λv σ H Q ⟨HF,ρ,d,ρ',S,r,hf,q⟩=>by cases hf;exact q _ (S.Rr r)
def AZ(i j:Nat):au->D->Option au:=λρ d=>match d with
 | .tuple [x,y]=>some ((ρ.set i (.val x)).set j (.val y))
 | _=>none
def He(i j:Nat){px py:Pos}{k:Nat}(hc:X.calm=true)(hN:X.N.Nodup)(hi:X.N[i]?=some x)(hx:Loc X.env.scope x)(hj:X.N[j]?=some y)(hy:Loc X.env.scope y)
  (hf:X.fn x=true\/X.env.scope.names.lookup x=some .local:=by first|exact .inl rfl|exact .inr rfl|assumption) (Tu:X.fn y=true\/X.env.scope.names.lookup y=some .local:=by first|exact .inl rfl|exact .inr rfl|assumption) :
  MV X Qm Qn (.Tuple [.Name x px,.Name y py] k pos) (AZ i j) :=
 lP (oo hc (cv (cQ hN hi hx hf) (cv (cQ hN hj hy Tu) la))) λv σ H Q ⟨HF,ρ,d,ρ',S,r,hf,q⟩=>by
  unfold AZ at hf;split at hf
  ·cases hf;simp?[Rep] at r;let⟨a,vs,rfl,hs,rr⟩:=r;let⟨v1,r1,rfl,a1,b1⟩:=rr.cons_inv;let⟨v2,r2,rfl,a2,b2⟩:=b1.cons_inv;rw[b2.nil_inv] at hs;exact⟨a,_,rfl,av S.gr.fh hs,rfl,v1,_,rfl,v2,_,rfl,rfl,q _ ((S.Rr a1).Rr a2)⟩
  ·cases hf
def g9(tgt:au->D->Option au)(gb:au->Option Out):List D->au->Option Out
 | [],ρ=>some (.nx ρ)
 | d::ds,ρ=>(tgt ρ d).bind λρ1=>(gb ρ1).bind fun|.nx RC=>g9 tgt gb ds RC|.rt v=>some (.rt v)
def mI(fz:List Nat)(fi:Env->Option (List D))(tgt:au->D->Option au)(gb:au->Option Out):au->Option Out:=λρ=>(fi (bR (hand fz 0 ρ))).bind λds=>g9 tgt gb ds (hand fz 0 ρ)
def Ka(fz:List Nat)(hp:PassesOwn (model X.prog X.w) X.A X.env X.xe)(hc:X.calm=true)(hi:DI X tg iter fi)(hg:MV X Qm Qn tg tgt)(hb:xk X Qm Qn body gb)
  (hs:∀x,foldedSetIterable iter X.env x=pure x:=by intro _;rfl):DS X Qm Qn (.For tg iter body [] pos) (mI fz fi tgt gb):=bW (Ks hp hc hi hg hb hs) λE σ H ⟨HF,ρ,o,S,hg,q⟩=>by
 let⟨ds,h,hg⟩:=bs hg;let⟨Qr,s1,S1⟩:=S.hand fz;refine⟨Qr,_,ds,S1.gr.fh,S1.QY,h,λJ H2 QC G it=>?_⟩;refine⟨λi m σ' H'=>m+i=ds.length/\∃Qp ρ',eK X.K Qm Qn Qp H' ρ' σ'/\aM QC Qp/\g9 tgt gb (ds.drop i) ρ'=some o,⟨ds.length,rfl,QC,_,S1.grow G,.refl _,hg⟩,?_⟩;rintro i m σ' H' ⟨hm,Qp,ρ',S',s',hf⟩;by_cases hi:i < ds.length
 ·refine .inr ?_;have hd:ds.drop i=ds[i]::ds.drop (i+1):=kH hi;have he:ds[i]?=some ds[i]:=List.getElem?_eq_some_iff.mpr ⟨hi,rfl⟩;generalize ds[i]=d at hd he;rw[hd] at hf;unfold g9 at hf;let⟨ρ1,h1,hf⟩:=bs hf;let⟨o1,h2,hf⟩:=bs hf;let⟨go,Tp⟩:=it.go i d H' Qp he s' S'.gr.fh;refine⟨go,λRZ H3=>∃QN Sw,eK X.K Qm Qn QN H3 Sw RZ/\aM QC QN/\g9 tgt gb (ds.drop (i+1)) Sw=some o,λRZ H3 ⟨QN,Sw,a1,a2,a3⟩=>⟨m - 1,by lia,by lia,QN,Sw,a1,a2,a3⟩,λx H3 y=>?_⟩;let⟨QN,G3,rx⟩:=Tp x H3 y;refine⟨QN,ρ',d,ρ1,S'.grow G3,rx,h1,λRZ S2=>⟨QN,ρ1,o1,S2,h2,?_⟩⟩;cases o1 with
  | nx RC=>exactλZN H4 Rz S4 s4=>⟨Rz,RC,S4,(s'.trans G3.ff).trans s4,hf⟩
  | rt d=>cases hf;exact q
 ·have Sv:i=ds.length:=by lia
  subst Sv;rw[List.drop_length] at hf;cases hf;exact .inl ⟨it.stop H' Qp s' S'.gr.fh,q σ' H' Qp S' ((s1.trans G.ff).trans s')⟩
end
def Dz(X:Cx)(sc:Scope):Prop:=∀x k,sc.names.lookup x=some k->X.env.kindOf x=some k\/(k=.free/\X.env.kindOf x=some .cell)
structure Bk(X:Cx)(N:List Str)(sc:Scope)(k:Nat):Prop where
 n:X.N=N
 nd:N.Nodup
 tb:Dz X sc
 calm:X.calm=true
 fn:∀x,sc.names.lookup x=some .cell->X.fn x=true
 room:gK k X.A
 xe:X.xe=λ_ _=>False
 kd:X.env.scope.kind=.function
def cU:List Str:=["len","isinstance","int","bool","tuple","list","range","all","any","set","sorted","enumerate","zip","sum","min","max","reversed","abs","dict","str","type","iter","next"]
def Bn(X:Cx):Prop:=∀x∈cU,X.mg x=none
def o9(sc:Scope)(x:Str):Bool:=decide (sc.names.lookup x=some .globalImplicit)
def uY(N:List Str)(sc:Scope)(i:Nat)(x:Str):Bool:=decide (N[i]?=some x)&&(decide (sc.names.lookup x=some .local)||decide (sc.names.lookup x=some .cell)||decide (sc.names.lookup x=some .free))&&!(x == ("__debug__":Str))&&!(x == ("__classdict__":Str))
def jw(N:List Str)(sc:Scope)(i:Nat)(x:Str):Bool:=decide (N[i]?=some x)&&(decide (sc.names.lookup x=some .local)||decide (sc.names.lookup x=some .cell))
def Bk.gl(C:Bk X N sc k)(h:o9 sc x=true):Gl X x:=by
 rcases C.tb x _ (yM h) with q|⟨q,_⟩
 ·exact q
 ·cases q
def Bk.Wq(C:Bk X N sc k)(h:uY N sc i x=true):X.N[i]?=some x/\FD X.env.scope x/\(x == ("__debug__":Str))=false/\(x == ("__classdict__":Str))=false:=by
 unfold uY at h;simp?[zF,qV,zJ,yL] at h;let⟨⟨⟨h1,h2⟩,h3⟩,h4⟩:=h;refine⟨by rw[C.n];exact h1,?_,h3,h4⟩;rcases h2 with (h2|h2)|h2
 ·rcases C.tb x _ h2 with q|⟨q,_⟩
  ·exact .inl q
  ·cases q
 ·rcases C.tb x _ h2 with q|⟨q,_⟩
  ·exact .inr (.inl q)
  ·cases q
 ·rcases C.tb x _ h2 with q|⟨_,q⟩
  ·exact .inr (.inr q)
  ·exact .inr (.inl q)
def Bk.loc(C:Bk X N sc k)(h:jw N sc i x=true):X.N.Nodup/\X.N[i]?=some x/\Loc X.env.scope x/\(X.fn x=true\/X.env.scope.names.lookup x=some .local):=by
 unfold jw at h;simp?[zF,qV,zJ] at h;let⟨h1,h2⟩:=h;refine⟨by rw[C.n];exact C.nd,by rw[C.n];exact h1,?_⟩;rcases h2 with h2|h2
 ·rcases C.tb x _ h2 with q|⟨q,_⟩
  ·exact⟨.inl q,.inr q⟩
  ·cases q
 ·rcases C.tb x _ h2 with q|⟨q,_⟩
  ·exact⟨.inr q,.inl (C.fn x h2)⟩
  ·cases q
def Bk.blt(C:Bk X N sc k)(B:Bn X)(h:o9 sc x=true)(hm:x∈cU)(hv:bootBuiltins x=some v):l7 X x v:=⟨C.gl h,B x hm,hv⟩
def Bk.v(C:Bk X N sc k)(i:Nat)(h:uY N sc i x=true):DE X (.Name x pos) (ae i):=let ⟨a,b,c,d⟩:=C.Wq h;LB i a b c d
def Bk.pass(C:Bk X N sc k):PassesOwn (model X.prog X.w) X.A X.env X.xe:=by rw[C.xe];exact PassesOwn.never
def om(sc scope:Scope)(N N':List Str)(t:Nat)(cs:List Nat):Bool :=
 decide (scope.kind=.function)&&scope.names.all (λp=>(!decide (p.2=NameKind.free)||decide (sc.names.lookup p.1=some .cell)||decide (sc.names.lookup p.1=some .free))&&(!decide (p.2=NameKind.local)||decide (scope.names.lookup p.1=some .local)))
  &&scope.names.all (λp=>!decide (p.2=NameKind.cell)||!scope.names.any λq=>decide (q.1=p.1)&&decide (q.2=NameKind.free))
  &&decide (N'.length=t+cs.length)&&decide (N'.drop t=cs.filterMap λj=>N[j]?)&&cs.all (λj=>decide (j < N.length))&&(N'.drop t).all (λx=>decide (scope.names.lookup x=some .free))&&decide N'.Nodup
def filterMap_get(N:List α):∀ (cs:List Nat),(∀j∈cs,j < N.length)->∀ (i:Nat),(cs.filterMap λj=>N[j]?)[i]?=(cs[i]?).bind λj=>N[j]?
 | [],_,i=>by simp
 | c::cs,h,i=>by
  have hc:=h c zE;rw[jB,zK hc];cases i with
  | zero=>simp[hc]
  | succ i =>
   simp?[yU];exact filterMap_get N cs (λj hj=>h j (zC _ hj)) i
def Bk.comp(C:Bk X N sc k){cs:List Nat}(h:om sc scope N N' t cs=true):fM X scope N' (gf t cs)/\∀fp s H,Bk (aq X scope N' fp s H) N' scope k:=by
 unfold om at h;simp?[zF,zJ,xC,qV,yL,yX] at h;obtain⟨⟨⟨⟨⟨⟨⟨h1,h2⟩,h3⟩,h4⟩,h5⟩,h6⟩,h7⟩,h8⟩:=h;refine⟨⟨h1,λx hx hk=>?_,λ{x} a b=>?_,λx hx hk=>?_,λσ i x v e1 e2=>?_,λσ=>?_⟩,λfp s H=>⟨rfl,h8,λx k hx=>lV hx,C.calm,λx hx=>zX hx,C.room,rfl,h1⟩⟩
 ·rcases (h2 x hx).1 with (q|q)|q
  ·exact absurd hk q
  ·rcases C.tb _ _ q with z|⟨z,_⟩
   ·exact .inl z
   ·cases z
  ·rcases C.tb _ _ q with z|⟨_,z⟩
   ·exact .inr z
   ·exact .inl z
 ·rcases h3 _ a with q|q
  ·exact q rfl
  ·have:(scope.names.any λq=>decide (q.1=x)&&decide (q.2=NameKind.free))=true:=List.any_eq_true.mpr ⟨_,b,by simp⟩;rw[this] at q;cases q
 ·rcases (h2 x hx).2 with q|q
  ·exact absurd hk q
  ·exact q
 ·unfold gf at e2;by_cases hi:i < t
  ·rw[yO (by simpa using hi),yT,yH hi] at e2;cases e2
  ·rw[yP (by simpa using hi),zO,xH] at e2;let⟨j,hj,e2⟩:=af e2;have e3:(N'.drop t)[i - t]?=some x:=by rw[List.getElem?_drop];rw[show t+(i - t)=i by lia];exact e1
   refine⟨h7 x (xY e3),j,?_,?_⟩
   ·rw[h5,filterMap_get N cs h6,hj] at e3;rw[C.n];exact e3
   ·cases e:σ[j]? with
    | none=>rw[e] at e2;cases e2
    | some o=>rw[e] at e2;have e2:o=some v:=e2;rw[e2]
 ·unfold gf;rw[zN,xH,zD,h4]
def bN(g:au->Option Out)(n:Nat)(args:List D):Option D:=(g (args.map Slot.val++List.replicate (n - args.length) .Qo)).map fun|.rt d=>d|.nx _=>.none
def mW{ds:List D}{n i:Nat}{ks:List (List D)}:¬ (ds.map Slot.val++List.replicate n .Qo)[i]?=some (.nest ks):=λh=>by
 rcases List.mem_append.mp (xY h) with z|z
 ·let⟨d,_,e⟩:=List.mem_map.mp z;cases e
 ·cases List.eq_of_mem_replicate z
def HV{K:W.Frag}{st:Stmt}(F:E8 K x qual st f fd)(S:cO N ps (aj st))
  (body:∀X:Cx,X.prog=P->X.w=w->X.K=K->X.mg=mg->X.base=base->Bk X N (aj st) k->X.env.code=fd.code->X.env.qual=qual++".<locals>."->∀Qm Qn,xk X Qm Qn (bo st) g):mH P w K mg base Ie (k+1) f fd ps (Nm K ps.length (bN g N.length)):=by
 let⟨oc,od,kV,doc,pm,an,QU,ct,SR,rfl,lk,Q8⟩:=F.ex;refine BS lk Q8 S (λvs H Q E ⟨HF,ds,d,h1,_,h2,h3,_⟩=>by rw[h2.length,h3]) λA outer s H vs Q E hr ⟨HF,ds,d,sm,tb,rr,hl,hd,q⟩=>?_;refine⟨_,(body (rH Ie P w K mg base N qual (aj st) f QU A outer s H E).QF rfl rfl rfl rfl rfl ⟨rfl,S.nd,λy kd hy=>.inl hy,rfl,λ_ _=>rfl,hr,rfl,S.kind⟩ rfl rfl HF H).QF,?_⟩;unfold bN at hd;let⟨o,ho,hd⟩:=af hd;have Rb:ps.length<=N.length:=by have:=qX List.length S.pre;rw[jO] at this;lia
 refine⟨HF,_,o,⟨.refl sm,λi e h=>?_,λi es h=>?_,λi j es fs a h=>?_,?_,tb,λi ks h=>absurd h mW,λi j ks ls h=>absurd h mW⟩,ho,?_⟩
 ·have hi:i < ds.length:=by
   by_cases hi:i < ds.length
   ·exact hi
   ·rw[yP (by simpa using hi),yT] at h;split at h<;>cases h
  rw[yO (by simpa using hi),zO] at h;let⟨d',SH,h⟩:=af h;cases h;let⟨v,hv,rv⟩:=rr.getD SH;refine⟨v,?_,rv⟩;unfold L2.start;rw[yO (by simpa [rr.length] using hi),zO,hv];rfl
 ·exfalso;by_cases hi:i < ds.length
  ·rw[yO (by simpa using hi),zO] at h;let⟨d',SH,h⟩:=af h;cases h
  ·rw[yP (by simpa using hi),yT] at h;split at h<;>cases h
 ·exfalso;by_cases hi:i < ds.length
  ·rw[yO (by simpa using hi),zO] at h;let⟨d',SH,h⟩:=af h;cases h
  ·rw[yP (by simpa using hi),yT] at h;split at h<;>cases h
 ·unfold L2.start;rw[zN,zN,zD,zD,xH,xH,rr.length];exact yI _
 ·cases o with
  | rt d'=>cases hd;exactλv H' Qp G r=>q v H' Qp G r
  | nx ρ'=>cases hd;exactλσ' H' Qp S' _=>q .Qo H' Qp S'.gr (by simp[Rep])
def P4{K:W.Frag}{st:Stmt}(F:E8 K x qual st f fd)(S:cO N ps (aj st))(hb:Binds K fd ps [])(hm:mg x=some (.ref f))
  (body:∀X:Cx,X.prog=P->X.w=w->X.K=K->X.mg=mg->X.base=base->Bk X N (aj st) k->X.env.code=fd.code->X.env.qual=qual++".<locals>."->∀Qm Qn,xk X Qm Qn (bo st) g):ES P w K mg base (k+1) x ps.length (bN g N.length):=⟨f,fd,ps,HV F S body,hm,F.kp,hb⟩
def mj(fz:List Nat)(f:Env->Option D)(ρ:au):Option (D×au):=(f (aL ρ)).bind λd=>if mM d=true then some (d,ρ) else (f (bR (hand fz 0 ρ))).map λd'=>(d',hand fz 0 ρ)
def lZ{K:W.Frag}(S:eK K Qm Qn HF H ρ σ)(h:mj fz f ρ=some (d,ρ'))
  (q:∀v H' Qp,aM HF Qp->eK K Qm Qn Qp H' ρ' σ->aM H H'->Rep K Qp d v->Q v H'):tD K f σ H Q:=by
 let⟨d1,h1,h⟩:=bs h;split at h
 ·rename_i hs;cases h;exact⟨H,aL ρ,d,.refl _,S.all,h1,λv H' Qp G r=>q v H' HF (.refl _) (S.step G.hh) G.hh (sZ hs r)⟩
 ·let⟨d2,h2,h⟩:=af h;cases h;let⟨Qr,s1,S1⟩:=S.hand fz;exact⟨Qr,_,d,S1.gr.fh,S1.QY,h2,λv H' Qp G r=>q v H' Qp (s1.trans G.ff) (S1.grow G) G.hh r⟩
def o8(i:Nat)(m:List D->Option (List D))(ρ:au):Option Out:=match ρ[i]? with
 | some (.own ds)=>(m ds).map λes=>.nx (ρ.set i (.own es))
 | _=>none
def iR(h:o8 i m ρ=some o):∃ds es,ρ[i]?=some (.own ds)/\m ds=some es/\o=.nx (ρ.set i (.own es)):=by
 unfold o8 at h;split at h
 ·rename_i ds hd;let⟨es,h1,h2⟩:=af h;exact⟨ds,es,hd,h1,h2.symm⟩
 ·cases h
def eK.mut{K:W.Frag}(S:eK K Qm Qn HF H ρ σ)(h:ρ[i]?=some (.own ds))(ha:σ[i]?=some (some (.ref a)))(hH:H a=some (.lst vs))(r:ar K HF es us) :
  eK K Qm Qn HF (upd H a (.lst us)) (ρ.set i (.own es)) σ:=by
 let⟨a',TU,e1,e2,e3,e5,e4⟩:=S.own i ds h;rw[ha] at e1;cases e1;have hl:i < ρ.length:=(List.getElem?_eq_some_iff.mp h).1;have gr:bV Qm Qn HF (upd H a (.lst us)):=⟨λb o e=>by rw[ay (aF e e5)];exact S.gr.hh b o e,S.gr.ff,λb o e=>by rw[ay (aF e e3)];exact S.gr.fh b o e,S.gr.nw⟩
 have nt:∀ {j:Nat}{ks:List (List D)},(ρ.set i (.own es))[j]?=some (.nest ks)->ρ[j]?=some (.nest ks):=λ{j ks} h=>by
  rw[xE] at h;by_cases QB:i=j
  ·rw[yH QB] at h;split at h<;>cases h
  ·rw[yJ QB] at h;exact h
 refine⟨gr,λj d hj=>?_,λj xs hj=>?_,λj k xs ys b f1 f2 f3 f4=>?_,by rw[zZ];exact S.len,S.tb,λj ks hj=>?_,λj k ks ls h1 h2=>S.one j k ks ls (nt h1) (nt h2)⟩
 ·rw[xE] at hj;by_cases QB:i=j
  ·rw[yH QB] at hj;split at hj<;>cases hj
  ·rw[yJ QB] at hj;exact S.val j d hj
 ·rw[xE] at hj;by_cases QB:i=j
  ·subst QB;rw[yH rfl,yH hl] at hj;cases hj;exact⟨a,us,ha,aC,e3,e5,r⟩
  ·rw[yJ QB] at hj;let⟨b,ws,f1,f2,f3,f5,f4⟩:=S.own j xs hj;refine⟨b,ws,f1,?_,f3,f5,f4⟩;rw[ay]
   ·exact f2
   ·rintro rfl;exact QB (S.inj i j ds xs b h hj ha f1)
 ·have old:∀ {j:Nat}{xs:List D},(ρ.set i (.own es))[j]?=some (.own xs)->∃ys,ρ[j]?=some (.own ys):=λ{j xs} hj=>by
   rw[xE] at hj;by_cases QB:i=j
   ·subst QB;exact⟨ds,h⟩
   ·rw[yJ QB] at hj;exact⟨xs,hj⟩
  let⟨ZO,g1⟩:=old f1;let⟨ZP,g2⟩:=old f2;exact S.inj j k ZO ZP b g1 g2 f3 f4
 ·let⟨a',bs,g1,n,di⟩:=S.Sn j ks (nt hj);refine⟨a',bs,g1,n.imp (.refl _) λb hb o z1 z2=>⟨?_,z2⟩,λk xs b h1 h2=>?_⟩
  ·rw[ay (show b≠a fromλz=>di i ds a h ha (z ▸ hb))];exact z1
  ·rw[xE] at h1;by_cases Rk:i=k
   ·subst Rk;exact di i ds b h h2
   ·rw[yJ Rk] at h1;exact di k xs b h1 h2
def j1(i:Nat)(fz:List Nat)(f:Env->Option D):au->Option Out:=λρ=>(mj fz f ρ).bind λp=>o8 i (λds=>if ds.length < sizeLine then some (ds++[p.1]) else none) p.2
def A7(i:Nat)(fz:List Nat)(hN:X.N[i]?=some x)(hv:FD X.env.scope x)(h:DE X e f)(hd:(x == ("__debug__":Str))=false:=by decide)(Q8:(x == ("__classdict__":Str))=false:=by decide)
  (QI:((backTo Qq (starEach [e] X.env)).all (λx=>!x.1)&&(backToKw Qq (keywordEach [] X.env)).all (λx=>x.1.isSome)&&decide ([e].length+([]:List Keyword).length+(if ([]:List Keyword).isEmpty then 0 else 1) < 30))=true:=by rfl)
  (Qv:(apos.endLine == Qq.line)=true:=by rfl) (hs:starEach [e] X.env=(false,eval e X.env)::starEach [] X.env:=by rfl) :
  DS X Qm Qn (.Expr (.Call (.Attribute (.Name x px) "append" apos) [e] [] Qq) pos) (j1 i fz f) :=
 bW (iT (jb qK PySem.F.slot_list_append PySem.F.type_list_append iS (ji hN hv hd Q8) (aW h cy hs) rfl QI Qv hs rfl)) λE σ H ⟨HF,ρ,o,S,hg,q⟩=>by
  let⟨⟨d,ρ'⟩,h1,hg⟩:=bs hg;let⟨ds,es,h2,h3,rfl⟩:=iR hg;have R3:∃US,ρ[i]?=some (.own US):=by
   let⟨d1,_,h1⟩:=bs h1;split at h1
   ·cases h1;exact⟨ds,h2⟩
   ·let⟨d2,_,h1⟩:=af h1;cases h1;rw[fY] at h2;let⟨s,hs,h2⟩:=af h2;cases s with
    | Qo=>split at h2<;>cases h2
    | nest _=>split at h2<;>cases h2
    | val _=>split at h2<;>cases h2
    | own xs=>exact⟨xs,hs⟩
  let⟨US,R3⟩:=R3;let⟨a,vs,e1,e2,e3,e5,e4⟩:=S.own i US R3;refine⟨.ref a,e1,.inl ⟨rfl,vs,dM.of e2⟩,lZ S h1 λv H' Qp s1 S' sh r=>?_⟩;let⟨a',TU,f1,f2,f3,f5,f4⟩:=S'.own i ds h2;rw[e1] at f1;cases f1;split at h3
  ·rename_i hz;cases h3;exact⟨a,TU,v,rfl,rfl,f2,by rw[f4.length];exact hz,q σ _ Qp (S'.mut h2 e1 f2 (f4.append (ar.cons r ar.nil))) s1⟩
  ·cases h3
def qm(K:W.Frag)(o:Obj):Option (Addr×Str):=match o.data with
 | .func fd=>if nQ.contains fd.qualname=true then (match fd.code with
   | .ref c=>(match K.lookup c with
    | some ⟨_,_,.fields vs,_⟩=>(match (vs[11]?:Option Value) with
     | some (.ref P)=>if W.codeHdIn K c P=true then some (P,fd.qualname++".<locals>."++"<lambda>") else none
     | _=>none)
    | _=>none)
   | _=>none) else none
 | _=>none
def fQ(K:W.Frag):List (Addr×Str):=K.filterMap λp=>qm K p.2
def lu(K:W.Frag)(ts:List Addr):Bool:=(fQ K).all λp=>ts.contains p.1&&(K.lookup p.1).isNone&&decide ((fQ K).lookup p.1=some p.2)
def tL{K:W.Frag}(h:qm K o=some (P,q)):∃c,W.codeHdIn K c P=true:=by
 unfold qm at h;split at h
 ·split at h
  ·split at h
   ·split at h
    ·split at h
     ·split at h
      ·cases h;exact⟨_,‹_›⟩
      ·cases h
     ·cases h
    ·cases h
   ·cases h
  ·cases h
 ·cases h
def td{K:W.Frag}(h:(P,q)∈fQ K):∃c,W.codeHdIn K c P=true:=by
 let⟨p,_,e⟩:=List.mem_filterMap.mp h;exact tL e
def wL{K:W.Frag}(a:K.lookup f=some ⟨oc,od,.func fd,sl⟩)(b:fd.qualname∈nQ)(d:fd.code=.ref c)(e:W.codeHdIn K c P=true) :
  (P,fd.qualname++".<locals>."++"<lambda>")∈fQ K:=by
 refine List.mem_filterMap.mpr ⟨(f,_),W.mem_of_lookupK a,?_⟩;have e':=e;unfold W.codeHdIn at e';unfold qm;simp?[d,List.contains_iff_mem,b,xD];split at e'
 ·rename_i vs YB hl;simp?[hl];simp?[zF] at e';have e1:=e'.1.1.1.1.1;split at e1
  ·rename_i P' hv;have:P'=P:=by simpa using e1
   subst this;simp?[hv,e,xD]
  ·cases e1
 ·cases e'
def BI:∀ {l:List (Addr×α)},l.lookup b=some q->(b,q)∈l
 | [],e=>by cases e
 | (c,x)::r,e=>by
  rw[zY] at e;cases h:b == c with
  | true=>rw[h] at e;cases e;rw[eq_of_beq h];exact zE
  | false=>rw[h] at e;exact zC _ (BI e)
def e8(K:W.Frag)(h0:Hp):Hp:=λb=>match (fQ K).lookup b with|some q=>some (.tab q)|none=>h0 b
def Ay{K:W.Frag}(h:lu K ts=true):dz K (e8 K h0):=λf oc od fd sl c P a b d e=>by
 have hm:=wL a b d e;have:=List.all_eq_true.mp h _ hm;simp?[zF,zJ] at this;unfold e8;rw[this.2]
def Aw{w:World}{K:W.Frag}{CX:Fx}{k:Nat}{fa:Addr}{fd:FuncData}{sp:Sp}{vs:List Value}{ns:List Int}
  (KX:K.In Qs.heap) (RT:Qs.heap.Ns mainGlobals mg) (hb:Qs.heap.Ns builtinsNs mb) (ZQ:∀x:Str,x≠"__name__"->mb x=bootBuiltins x) (Xn:Qs.heap.NoLimit) (Vm:Ow mg Qs.heap) (hg:Qs.gens=#[])
  (ht:lu K ts=true) (Xo:∀P∈ts,Qs.heap.get? P=some (W.tabObj #[]))
  (ha:Qs.heap.get? a=some { cls:=.type "list",data:=.seq vs.toArray }) (hi:IntsAre vs ns) (hl:ns.length<=sizeLine) (hr:gK k callerA)
  (F:∀base:Heap,K.In base->base.Ns mainGlobals mg->mH P w K mg base CX k fa fd [x] sp) (VH:∀ (s:Shared) (u:Value),BindsTo s fd ⟨[u],[]⟩ [(x,u)])
  (Vg:∀H:Hp,dz K H->dM K H a (ns.map V.int)->sp [.ref a] H (λv _=>v=.bl true) λ_ _ _=>False)
  (Xp:∀H e s',CX [] H Qs (λ_ _ _=>False) e s'->False) :
  codeAny (model P w) callerA (.call (.ref fa) ⟨[.ref a],[]⟩) (λr s'=>r=.ok (.ret (.bool true))/\OldK Qs.heap s'.heap/\s'.os=Qs.os/\AllBare s'.gens) Qs:=by
 have rv:=pk hi;have Xq:=hi.length;have tabAt:∀b q,(fQ K).lookup b=some q->Qs.heap.get? b=some (W.tabObj #[])/\K.lookup b=none/\∃c,W.CodeHd Qs.heap c b:=λb q e=>by
  have hm:=BI e;have:=List.all_eq_true.mp ht _ hm;simp?[zF,zJ,List.contains_iff_mem,Option.isNone_iff_eq_none] at this;let⟨c,hc⟩:=td hm;exact⟨Xo b this.1.1,this.1.2,c,W.codeHd_of_K KX hc⟩
 have aT:(fQ K).lookup a=none:=by
  cases e:(fQ K).lookup a with
  | none=>rfl
  | some q=>have:=(tabAt a q e).1;rw[ha] at this;cases this
 have core:∀h0:Hp,dM K (e8 K h0) a (ns.map V.int)->lW P w (e8 K h0) Qs.heap->(∀b,h0 b≠none->b=a)->(h0 a≠none->K.lookup a=none)->(∀b,h0 b=none\/∃o xs,h0 b=some (.QY o (.lst xs))) ->
   codeAny (model P w) callerA (.call (.ref fa) ⟨[.ref a],[]⟩) (λr s'=>r=.ok (.ret (.bool true))/\OldK Qs.heap s'.heap/\s'.os=Qs.os/\AllBare s'.gens) Qs:=by
  intro h0 hS Qt hA hK hO;have look:∀b u,e8 K h0 b=some u->(∃q,(fQ K).lookup b=some q/\u=.tab q)\/(b=a/\h0 b=some u):=λb u e=>by
   unfold e8 at e;split at e
   ·rename_i q hq;cases e;exact .inl ⟨q,hq,rfl⟩
   ·exact .inr ⟨hA b (by rw[e];simp),e⟩
  have dH:∀ {b:Addr}{o:Obj},Qs.heap.get? b=some o->e8 K h0 b=none->(rJ Qs.heap (e8 K h0)).get? b=some o:=λe n=>Df e n;have Vf:∀ {b:Addr}{o:Obj},Qs.heap.get? b=some o->(∀vs n,o.data≠.seq vs n)->(∀vs,o.data≠.fields vs)->e8 K h0 b=none:=λ{b o} e d d2=>by
   cases q:e8 K h0 b with
   | none=>rfl
   | some u =>
    rcases look b u q with ⟨q',z,_⟩|⟨z,_⟩
    ·rw[(tabAt b q' z).1] at e;cases e;exact absurd rfl (d2 _)
    ·subst z;rw[ha] at e;cases e;exact absurd rfl (d _ _)
  have Wr:∀ {b:Addr}{m:Str->Option Value},Qs.heap.Ns b m->(rJ Qs.heap (e8 K h0)).Ns b m:=λ{b m} ⟨o,es,ep,e,d,r⟩=>⟨o,es,ep,dH e (Vf e (λ_ _ z=>by rw[d] at z;cases z) λ_ z=>by rw[d] at z;cases z),d,r⟩
  have YJ:K.In (rJ Qs.heap (e8 K h0)):=λb o e=>dH (KX b o e) (by
   cases q:e8 K h0 b with
   | none=>rfl
   | some u =>
    rcases look b u q with ⟨q',z,_⟩|⟨z,z2⟩
    ·rw[(tabAt b q' z).2.1] at e;cases e
    ·subst z;rw[hK (by rw[z2];simp)] at e;cases e)
  have hM:Mod K mg (rJ Qs.heap (e8 K h0)):=⟨YJ,Wr RT,⟨mb,Wr hb,ZQ⟩,let ⟨mc,h1,h2⟩:=Xn;⟨mc,Wr h1,h2⟩,
   let ⟨bm,o,b1,b2,b3,b4,b5,b6,b7⟩:=Vm;⟨bm,o,b1,b2,b3,dH b4 (Vf b4 (λ_ _ z=>by rw[b7] at z;cases z) λ_ z=>by rw[b7] at z;cases z),b5,b6,b7⟩⟩
  have e0:Gq P w K mg (rJ Qs.heap (e8 K h0)) callerA [] Qs (e8 K h0):=⟨rfl,hM,λb o e=>HI e,Nat.le_of_eq (Aq _ _),trivial,λb hb=>absurd (show b∈([]:List Addr) from hb) (by simp),Qt,.of_eq hg⟩
  refine jK ((F _ YJ (Wr RT)).run callerA [] Qs (e8 K h0) ⟨[.ref a],[]⟩ [.ref a] [.ref a] _ _ hr e0 (VH Qs (.ref a)) (.cons rfl .nil) (Vg _ (Ay ht) hS)) λr s' h=>?_;cases r with
  | error e=>exact (Xp _ e s' h).elim
  | ok fl =>
   cases fl with
   | next=>exact False.elim h
   | brk=>exact False.elim h
   | cont=>exact False.elim h
   | ret u =>
    let⟨v,H',os,bare,un,Xr,r',q⟩:=h;have q':v=.bl true:=q;subst q';obtain rfl:u=Value.bool true:=r';have key:∀b o,Qs.heap.get? b=some o->s'.heap.get? b=some o\/(isCodeTable Qs.heap b/\o=W.tabObj #[]/\∃ps,s'.heap.get? b=some (W.tabObj ps)):=λb o e=>by
     cases q:e8 K h0 b with
     | none=>exact .inl (un.keep b o e q (by intro z;exact absurd (show b∈([]:List Addr) from z) (by simp)) (by simp))
     | some u =>
      rcases look b u q with ⟨q',z,rfl⟩|⟨z,z2⟩
      ·let⟨t1,_,c,t3⟩:=tabAt b q' z;let⟨more,m1⟩:=un.Q2.gr b q' #[] q t1;rw[e] at t1;cases t1;exact .inr ⟨(t3.tab e).isCodeTable,rfl,_,m1⟩
      ·rcases hO b with z3|⟨ob,xs,z3⟩
       ·rw[z2] at z3;cases z3
       ·rw[z2] at z3;cases z3;have z4:=un.Q1 b ob _ q;let⟨e1,_⟩:=Qt b _ q;let⟨e2,_⟩:=Xr b _ z4;rw[e] at e1;cases e1;exact .inl e2
    refine⟨rfl,⟨λb o e=>?_,λb o e=>?_⟩,os,bare⟩
    ·rcases key b o e with z|⟨t,rfl,ps,z⟩
     ·exact .inl z
     ·exact .inr (.inl ⟨t,rfl,#[],ps,rfl,by rw[Array.empty_append];exact z⟩)
    ·rcases key b o e with z|⟨_,_,ps,z⟩
     ·exact⟨o,z⟩
     ·exact⟨_,z⟩
 have YK:∀ (h0:Hp) b q,(fQ K).lookup b=some q->dI P w (e8 K h0) Qs.heap b (.tab q):=λh0 b q e=>⟨#[],(tabAt b q e).1,trivial,λpos v z=>by cases z⟩
 cases hk:K.lookup a with
 | some o =>
  have e:=KX a o hk;rw[ha] at e;cases e;refine core (λ_=>none) (.inr ⟨_,vs.toArray,_,hk,rfl,rfl,rfl,by rw[zH,Xq];exact hl,by simpa using rv⟩) (λb u z=>?_) (λb z=>absurd rfl z) (λz=>absurd rfl z) λ_=>.inl rfl;unfold e8 at z;split at z
  ·rename_i q hq;cases z;exact YK _ b q hq
  ·cases z
 | none =>
  refine core (λb=>if b=a then some (.QY { cls:=.type "list",data:=.seq vs.toArray } (.lst (ns.map V.int))) else none) (.inl (.inr ⟨{ cls:=.type "list",data:=.seq vs.toArray },?_⟩)) (λb u z=>?_) (λb z=>?_) (λ_=>hk) λb=>?_
  ·unfold e8;rw[aT];exact yH rfl
  ·unfold e8 at z;split at z
   ·rename_i q hq;cases z;exact YK _ b q hq
   ·by_cases hb:b=a
    ·replace z:=(yH hb).symm.trans z;cases z;subst hb;exact⟨ha,by rw[zD];exact hl,vs,_,rv,ha⟩
    ·replace z:=(yJ hb).symm.trans z;cases z
  ·by_cases hb:b=a
   ·exact hb
   ·exact absurd (yJ hb) z
  ·by_cases hb:b=a
   ·exact .inr ⟨_,_,yH hb⟩
   ·exact .inl (yJ hb)
def DY{l:W.OpenLaw}{n k:Nat}{q:Program}{loose:List Str}{XP:(Str->Option Value)->Heap->Prop}{YP:World->Heap->Prop}{d:DefRec}{K:Params->W.Frag}{CX:World->Fx}{sp:World->Sp}{x:Str}{ts:List Addr}
  (hn:l.most=some n) (Xu:n<=sizeLine) (VB:d.params.defaults=[]) (hr:gK k callerA)
  (hY:∀ (w:World) (h:Heap),YP w h->(K w.params).In h/\∀P∈ts,h.get? P=some (W.tabObj #[])) (ht:∀w:World,lu (K w.params) ts=true)
  (F:∀ (w:World) (mg:Str->Option Value) (fa:Addr) (h:Heap),(K w.params).In h->h.Ns mainGlobals mg->mg d.name=some (.ref fa) ->
   ∃fd:FuncData,(∀ (s:Shared) (u:Value),BindsTo s fd ⟨[u],[]⟩ [(x,u)]) /\
    ∀base:Heap,(K w.params).In base->base.Ns mainGlobals mg->mH l.prog w (K w.params) mg base (CX w) k fa fd [x] (sp w))
  (Vg:∀ (w:World) (H:Hp) (a:Addr) (ns:List Int),ns.length<=n->dz (K w.params) H->dM (K w.params) H a (ns.map V.int)->sp w [.ref a] H (λv _=>v=.bl true) λ_ _ _=>False)
  (Xp:∀ (w:World) (H:Hp) (s:Shared) (e:Value) (s':Shared),CX w [] H s (λ_ _ _=>False) e s'->False) :
  W.WalkO q loose XP YP l.row.toRowW d [] (λf vs=>PySem.call f vs):=by
 refine YG.RJ hn VB λw Qz Qs mg mb fa o pm cd doc a vs ns G Y ho hd Q8 VC UI hints hlen hg=>?_;let⟨KX,Xo⟩:=hY w _ Y;let⟨fd,hb,hF⟩:=F w mg fa _ KX G.T.g VC;have Vm:Ow mg Qs.heap:=by
  let⟨bm,ob,b1,b2,b3,b4,b5,b6⟩:=G.T.bmain;refine⟨bm,ob,b1,b2,λz=>?_,b3,b4,b5,b6⟩;let⟨o',es,ep,e1,e2,_⟩:=G.T.g;rw[<- z,b3] at e1;cases e1;rw[b6] at e2;cases e2
 exact Aw KX G.T.g G.T.b G.T.builtins G.T.nolimit Vm hg (ht w) Xo UI hints (yA hlen Xu) hr hF hb (λH hT hS=>Vg w H a ns hlen hT hS) λH e s'=>Xp w H Qs e s'
end Dl
namespace SP
open PySem PySem.W PyProof.Rows
def run(lt:Nat->Nat->Bool):KasT α->α
 | .ret a=>a
 | .ask i j k=>run lt (k (lt i j))
def fW(lt:Nat->Nat->Bool)(f:α->KasT β):∀t:KasT α,run lt (t.bind f)=run lt (f (run lt t))
 | .ret a=>rfl
 | .ask i j k=>by
  show run lt ((k (lt i j)).bind f)=run lt (f (run lt (k (lt i j))));exact fW lt f (k (lt i j))
def G6(n:Nat):KasT α->Prop
 | .ret _=>True
 | .ask i j k=>i < n/\j < n/\∀b,G6 n (k b)
def wp_run(hc:∀i j C,i < n->j < n->C (lt i j) s->cmp i j C s):∀ (t:KasT α) {Q:α->Shared->Prop},G6 n t->Q (run lt t) s->t.kasWp cmp Q s
 | .ret a,Q,_,h=>h
 | .ask i j k,Q,b,h=>hc i j _ b.1 b.2.1 (wp_run hc (k (lt i j)) (b.2.2 _) h)
def ny(n:Nat)(R:α->Prop):KasT α->Prop
 | .ret a=>R a
 | .ask i j k=>i < n/\j < n/\∀b,ny n R (k b)
def lE:∀ {t:KasT α},ny n R t->(∀a,R a->G6 n (f a))->G6 n (t.bind f)
 | .ret a,b,h=>h a b
 | .ask i j k,b,h=>⟨b.1,b.2.1,λc=>lE (b.2.2 c) h⟩
def gF:∀ {t:KasT α},ny n R t->(∀a,R a->ny n S (f a))->ny n S (t.bind f)
 | .ret a,b,h=>h a b
 | .ask i j k,b,h=>⟨b.1,b.2.1,λc=>gF (b.2.2 c) h⟩
def Bd(n:Nat)(p:Array Nat):Prop:=∀a,p.getD a 0 < n
def Bd.perm(h:Bd n p)(e:q.Perm p):Bd n q:=by
 intro a;rw[qA];cases ha:q[a]? with
 | none=>have:=h p.size;rw[qA] at this;simpa using this
 | some x =>
  have hx:x∈q:=Array.mem_of_getElem? ha;have Xv:x∈p:=e.mem_iff.mp hx;let⟨i,hi,rfl⟩:=Array.mem_iff_getElem.mp Xv;have:=h i;rw[qA] at this;simpa [hi] using this
def C3(h:Bd n p):∀f m,ny n (λ_=>True) (kas_asc p f m)
 | 0,m=>trivial
 | f+1,m=>⟨h _,h _,λc=>by
  dsimp only;split
  ·trivial
  ·exact C3 h f (m+1)⟩
def sU(h:Bd n p)(i j:Nat):Bd n (kas_rev p i j):=h.perm (mirror_perm _ _ _ _)
def su:∀ (f:Nat) {p:Array Nat}(h:Bd n p) (m q:Nat),ny n (λr=>Bd n r.1) (kas_desc f p m q)
 | 0,p,h,m,q=>h
 | f+1,p,h,m,q=>⟨h _,h _,λc=>by
  dsimp only;split
  ·split
   ·exact su f (sU h _ _) (m+1) 0
   ·exact su f h (m+1) 0
  ·exact⟨h _,h _,λd=>by
    dsimp only;split
    ·exact h
    ·exact su f h (m+1) (q+1)⟩⟩
def Ah(h:Bd n p)(m nrem:Nat):ny n (λr=>Bd n r.2) (kas_tail3 m nrem p):=gF (C3 (sU h 0 m) _ _) λ_ _=>sU h 0 m
def nu(h:Bd n p)(m nrem:Nat):ny n (λr=>Bd n r.2) (kas_descPart m nrem p):=gF (su _ h _ _) λr hr=>by
 split
 ·exact Ah (sU hr _ _) _ _
 ·exact Ah hr _ _
def Hh(h:Bd n p)(nrem:Nat):ny n (λr=>Bd n r.2) (kas_count nrem p):=gF (C3 h _ _) λm _=>by
 split
 ·exact h
 ·split
  ·exact⟨h _,h _,λc=>by
    dsimp only;split
    ·exact h
    ·exact nu (sU h _ _) _ _⟩
  ·exact nu h _ _
def qo(h:Bd n p)(k:Nat):∀f l r,ny n (λ_=>True) (kas_place p k f l r)
 | 0,l,r=>trivial
 | f+1,l,r=>by
  unfold kas_place;split
  ·trivial
  ·exact⟨h _,h _,λc=>by
    dsimp only;split
    ·exact qo h k f _ _
    ·exact qo h k f _ _⟩
def IC:∀ (f:Nat) {p:Array Nat}(h:Bd n p) (k:Nat),G6 n (kas_bin f p k)
 | 0,p,h,k=>trivial
 | f+1,p,h,k=>lE (qo h k _ _ _) λl _=>IC f (h.perm (bubble_perm _ _ _)) (k+1)
def Jz(h1:1<=n):G6 n (kas_sort n):=by
 have h:Bd n (List.toArray (List.range n)):=λa=>by
  rw[qA];by_cases ha:a < n
  ·simp[ha]
  ·simp[ha];lia
 refine lE (Hh h n) λr hr=>?_;split
 ·exact IC _ hr _
 ·trivial
section
variable (z:Nat->Int)
def Z(p:Array Nat)(a:Nat):Int:=z (p.getD a 0)
def dU:Nat->Nat->Bool:=λi j=>decide (z i < z j)
def ko(h:p[a]?=q[b]?):Z z p a=Z z q b:=by
 unfold Z;rw[qA,qA,h]
def CW(hj:j<=p.size)(k:Nat):Z z (kas_rev p i j) k=if i<=k/\k < j then Z z p (i+j - 1 - k) else Z z p k:=by
 have e:=getElem?_mirror_all (xs:=p) (i:=i) hj k;unfold kas_rev;by_cases h1:i<=k/\k < j
 ·rw[yH h1] at e ⊢;exact ko z e
 ·rw[yJ h1] at e ⊢;exact ko z e
def CJ(hs:src < p.size)(hd:d<=src)(k:Nat):Z z (bubble p src d) k=if k=src - d then Z z p src else if src - d < k/\k<=src then Z z p (k - 1) else Z z p k:=by
 have e:=getElem?_bubble hs d hd k;by_cases h1:k=src - d
 ·rw[yH h1] at e ⊢;exact ko z e
 ·rw[yJ h1] at e ⊢;by_cases h2:src - d < k/\k<=src
  ·rw[yH h2] at e ⊢;exact ko z e
  ·rw[yJ h2] at e ⊢;exact ko z e
def Up(p:Array Nat)(n:Nat):Prop:=∀a b,a<=b->b < n->Z z p a<=Z z p b
def Dn(p:Array Nat)(n:Nat):Prop:=∀a b,a<=b->b < n->Z z p b<=Z z p a
variable {z}
def Fy(h:Up z p n)(hn:1<=n)(h1:Z z p (n - 1)<=Z z p n):Up z p (n+1):=by
 intro a b Q9 hb;by_cases UT:b < n
 ·exact h a b Q9 UT
 ·have e:b=n:=by lia
  subst e;by_cases ha:a=b
  ·subst ha;exact xW _
  ·exact jM (h a (b - 1) (by lia) (by lia)) h1
def Od:∀ (f n:Nat),1<=n->Up z p n->n<=run (dU z) (kas_asc p f n)/\run (dU z) (kas_asc p f n)<=n+f/\Up z p (run (dU z) (kas_asc p f n))/\(run (dU z) (kas_asc p f n) < n+f->Z z p (run (dU z) (kas_asc p f n)) < Z z p (run (dU z) (kas_asc p f n) - 1))
 | 0,n,hn,h=>⟨yI _,yI _,h,λq=>absurd q (qB _)⟩
 | f+1,n,hn,h=>by
  unfold kas_asc;show n<=run (dU z) (if dU z (p.getD n 0) (p.getD (n - 1) 0)=true then .ret n else kas_asc p f (n+1))/\run (dU z) (if dU z (p.getD n 0) (p.getD (n - 1) 0)=true then .ret n else kas_asc p f (n+1))<=n+(f+1)/\Up z p (run (dU z) (if dU z (p.getD n 0) (p.getD (n - 1) 0)=true then .ret n else kas_asc p f (n+1)))/\(run (dU z) (if dU z (p.getD n 0) (p.getD (n - 1) 0)=true then .ret n else kas_asc p f (n+1)) < n+(f+1)->Z z p (run (dU z) (if dU z (p.getD n 0) (p.getD (n - 1) 0)=true then .ret n else kas_asc p f (n+1))) < Z z p (run (dU z) (if dU z (p.getD n 0) (p.getD (n - 1) 0)=true then .ret n else kas_asc p f (n+1)) - 1))
  by_cases hc:dU z (p.getD n 0) (p.getD (n - 1) 0)=true
  ·rw[yH hc];exact⟨yI _,jN _ _,h,λ_=>yM hc⟩
  ·rw[yJ hc];have h1:Z z p (n - 1)<=Z z p n:=by
    have:¬ (Z z p n < Z z p (n - 1)):=λq=>hc (zX q);lia
   let⟨a,b,c,d⟩:=Od f (n+1) (by lia) (Fy h hn h1);exact⟨by lia,by lia,c,λq=>d (by lia)⟩
def vW(hj:j<=p.size)(h:∀a b,i<=a->a < j->i<=b->b < j->Z z p a=Z z p b)(k:Nat):Z z (kas_rev p i j) k=Z z p k:=by
 rw[CW z hj];split
 ·rename_i hk;exact h _ _ (by lia) (by lia) hk.1 hk.2
 ·rfl
def C4(e:∀k,Z z q k=Z z p k)(h:Dn z p n):Dn z q n:=λa b Q9 hb=>by rw[e,e];exact h a b Q9 hb
def KS(hn:n<=p.size)(h:Dn z p n):Up z (kas_rev p 0 n) n:=by
 intro a b Q9 hb;rw[CW z hn,CW z hn,yH ⟨xR _,by lia⟩,yH ⟨xR _,hb⟩];exact h _ _ (by lia) (by lia)
def kg(p:Array Nat)(i j:Nat):(kas_rev p i j).size=p.size:=mirror_size _ _ _ _
def lC(p:Array Nat)(i j:Nat):(kas_rev p i j).Perm p:=mirror_perm _ _ _ _
structure J6(z:Nat->Int)(QH p:Array Nat)(n q nrem:Nat):Prop where
 perm:p.Perm QH
 size:p.size=QH.size
 le:n<=nrem
 qn:q+1<=n
 dn:Dn z p n
 eq:∀a b,n - (q+1)<=a->a < n->n - (q+1)<=b->b < n->Z z p a=Z z p b
def FX(hz:nrem<=QH.size):∀ (f:Nat) (p:Array Nat) (n q:Nat),n+f<=nrem->J6 z QH p n q nrem ->
  let r:=run (dU z) (kas_desc f p n q);J6 z QH r.1 r.2.1 r.2.2 nrem
 | 0,p,n,q,hn,h=>h
 | f+1,p,n,q,hn,h=>by
  intro r;have hr:r=run (dU z) (if dU z (p.getD n 0) (p.getD (n - 1) 0)=true then (if q > 0 then kas_desc f (kas_rev p (n - (q+1)) n) (n+1) 0 else kas_desc f p (n+1) 0)
   else .ask (p.getD (n - 1) 0) (p.getD n 0) λd=>if d=true then .ret (p,n,q) else kas_desc f p (n+1) (q+1)):=rfl
  have hq:=h.qn;by_cases hc:dU z (p.getD n 0) (p.getD (n - 1) 0)=true
  ·rw[yH hc] at hr;have QW:Z z p n < Z z p (n - 1):=yM hc;have step:∀p':Array Nat,p'.Perm QH->p'.size=QH.size->(∀k,Z z p' k=Z z p k)->J6 z QH p' (n+1) 0 nrem:=λp' a1 a2 a3=>by
    refine⟨a1,a2,by lia,by lia,λa b Q9 hb=>?_,λa b h1 h2 h3 h4=>by rw[show a=b by lia]⟩;rw[a3,a3];by_cases UT:b < n
    ·exact h.dn a b Q9 UT
    ·have e:b=n:=by lia
     subst e;by_cases ha:a=b
     ·subst ha;exact xW _
     ·exact jM (Int.le_of_lt QW) (h.dn a (b - 1) (by lia) (by lia))
   by_cases YL:q > 0
   ·rw[yH YL] at hr;rw[hr];exact FX hz f _ (n+1) 0 (by lia) (step _ ((lC _ _ _).trans h.perm) (by rw[kg,h.size]) (vW (by rw[h.size];lia) h.eq))
   ·rw[yJ YL] at hr;rw[hr];exact FX hz f p (n+1) 0 (by lia) (step p h.perm h.size λ_=>rfl)
  ·rw[yJ hc] at hr;have Ul:Z z p (n - 1)<=Z z p n:=by
    have:¬ (Z z p n < Z z p (n - 1)):=λq=>hc (zX q);lia
   have Rq:r=run (dU z) (if dU z (p.getD (n - 1) 0) (p.getD n 0)=true then .ret (p,n,q) else kas_desc f p (n+1) (q+1)):=hr;by_cases hd:dU z (p.getD (n - 1) 0) (p.getD n 0)=true
   ·rw[yH hd] at Rq;rw[Rq];exact h
   ·rw[yJ hd] at Rq;rw[Rq];have heq:Z z p n=Z z p (n - 1):=by
     have:¬ (Z z p (n - 1) < Z z p n):=λq=>hd (zX q);lia
    refine FX hz f p (n+1) (q+1) (by lia) ⟨h.perm,h.size,by lia,by lia,λa b Q9 hb=>?_,λa b h1 h2 h3 h4=>?_⟩
    ·by_cases UT:b < n
     ·exact h.dn a b Q9 UT
     ·have e:b=n:=by lia
      subst e;by_cases ha:a=b
      ·subst ha;exact xW _
      ·rw[heq];exact h.dn a (b - 1) (by lia) (by lia)
    ·have key:∀c,n+1 - (q+1+1)<=c->c < n+1->Z z p c=Z z p (n - 1):=λc c1 c2=>by
      by_cases ZR:c < n
      ·exact h.eq c (n - 1) (by lia) ZR (by lia) (by lia)
      ·have e:c=n:=by lia
       subst e;exact heq
     rw[key a h1 h2,key b h3 h4]
structure Nu(z:Nat->Int)(QH:Array Nat)(nrem:Nat)(r:Nat×Array Nat):Prop where
 perm:r.2.Perm QH
 size:r.2.size=QH.size
 ge:1<=r.1
 le:r.1<=nrem
 up:Up z r.2 r.1
def tail3(hz:nrem<=QH.size)(h1:1<=n)(hn:n<=nrem)(hp:p.Perm QH)(hs:p.size=QH.size)(hd:Dn z p n):Nu z QH nrem (run (dU z) (kas_tail3 n nrem p)):=by
 unfold kas_tail3;rw[fW];let⟨a,b,c,_⟩:=Od (nrem - n) n h1 (KS (by lia) hd);exact⟨(lC _ _ _).trans hp,by show (kas_rev p 0 n).size=_;rw[kg,hs],by show 1<=run _ (kas_asc _ _ _);lia,by show run _ (kas_asc _ _ _)<=nrem;lia,c⟩
def descPart(hz:nrem<=QH.size)(h1:1<=n)(hn:n < nrem)(hp:p.Perm QH)(hs:p.size=QH.size)(hd:Dn z p n)(QW:Z z p n<=Z z p (n - 1)):Nu z QH nrem (run (dU z) (kas_descPart n nrem p)):=by
 unfold kas_descPart;rw[fW];have D:=FX (z:=z) hz (nrem - (n+1)) p (n+1) 0 (by lia) ⟨hp,hs,by lia,by lia,λa b Q9 hb=>by
  by_cases UT:b < n
  ·exact hd a b Q9 UT
  ·have e:b=n:=by lia
   subst e;by_cases ha:a=b
   ·subst ha;exact xW _
   ·exact jM QW (hd a (b - 1) (by lia) (by lia)),λa b h1 h2 h3 h4=>by rw[show a=b by lia]⟩
 dsimp only at D;generalize run (dU z) (kas_desc (nrem - (n+1)) p (n+1) 0)=r at D;have hq:=D.qn;split
 ·exact tail3 hz (by lia) D.le ((lC _ _ _).trans D.perm) (by rw[kg,D.size]) (C4 (vW (by have:=D.size;have:=D.le;lia) D.eq) D.dn)
 ·exact tail3 hz (by lia) D.le D.perm D.size D.dn
def count(hz:nrem<=p.size)(h1:1<=nrem):Nu z p nrem (run (dU z) (kas_count nrem p)):=by
 unfold kas_count;rw[fW];let⟨a,b,c,d⟩:=Od (z:=z) (p:=p) (nrem - 1) 1 (yI _) (λx y YM hy=>by rw[show x=y by lia];exact xW _);generalize run (dU z) (kas_asc p (nrem - 1) 1)=n at a b c d;split
 ·exact⟨Array.Perm.refl _,rfl,a,by show n<=nrem;lia,c⟩
 ·rename_i QS;have QW:n < nrem:=by
   have:n≠nrem:=λe=>QS (by simp[e]);lia
  have hd:=d (by lia);split
  ·rename_i hn1;show Nu z p nrem (run (dU z) (if dU z (p.getD 0 0) (p.getD (n - 1) 0)=true then .ret (n,p) else kas_descPart n nrem (kas_rev p 0 n)));by_cases hc:dU z (p.getD 0 0) (p.getD (n - 1) 0)=true
   ·rw[yH hc];exact⟨Array.Perm.refl _,rfl,a,by show n<=nrem;lia,c⟩
   ·rw[yJ hc];have Ul:Z z p (n - 1)<=Z z p 0:=by
     have:¬ (Z z p 0 < Z z p (n - 1)):=λq=>hc (zX q);lia
    have all:∀x,x < n->Z z p x=Z z p 0:=λx hx=>by
     have e1:=c 0 x (xR _) hx;have e2:=c x (n - 1) (by lia) (by lia);lia
    have same:=vW (z:=z) (p:=p) (i:=0) (j:=n) (by lia) λx y _ hx _ hy=>by rw[all x hx,all y hy]
    refine descPart hz (by lia) QW (lC _ _ _) (by rw[kg]) (λx y YM hy=>?_) ?_
    ·rw[same,same,all x (by lia),all y hy];exact xW _
    ·rw[same,same];lia
  ·exact descPart hz (by lia) QW (Array.Perm.refl _) rfl (λx y YM hy=>by rw[show x=y by lia];exact xW _) (by lia)
def place(hu:Up z p k):∀ (f l r:Nat),r - l<=f->l<=r->r<=k->(∀a,a < l->Z z p a<=Z z p k)->(∀a,r<=a->a < k->Z z p k<=Z z p a) ->
  let m:=run (dU z) (kas_place p k f l r);m<=k/\(∀a,a < m->Z z p a<=Z z p k)/\(∀a,m<=a->a < k->Z z p k<=Z z p a)
 | 0,l,r,hf,hl,hr,h1,h2=>by
  intro m;have e:l=r:=by lia
  subst e;exact⟨hr,h1,h2⟩
 | f+1,l,r,hf,hl,hr,h1,h2=>by
  intro m;have hm:m=run (dU z) (if l >= r then .ret l else .ask (p.getD k 0) (p.getD ((l+r) / 2) 0) λc=>if c=true then kas_place p k f l ((l+r) / 2) else kas_place p k f ((l+r) / 2+1) r):=rfl;by_cases YN:l >= r
  ·rw[yH YN] at hm;rw[hm];have e:l=r:=by lia
   subst e;exact⟨hr,h1,h2⟩
  ·rw[yJ YN] at hm;have RE:m=run (dU z) (if dU z (p.getD k 0) (p.getD ((l+r) / 2) 0)=true then kas_place p k f l ((l+r) / 2) else kas_place p k f ((l+r) / 2+1) r):=hm;by_cases hc:dU z (p.getD k 0) (p.getD ((l+r) / 2) 0)=true
   ·rw[yH hc] at RE;rw[RE];have QW:Z z p k < Z z p ((l+r) / 2):=yM hc;exact place hu f l ((l+r) / 2) (by lia) (by lia) (by lia) h1 λa ha YO=>jM (Int.le_of_lt QW) (hu _ a ha YO)
   ·rw[yJ hc] at RE;rw[RE];have Ul:Z z p ((l+r) / 2)<=Z z p k:=by
     have:¬ (Z z p k < Z z p ((l+r) / 2)):=λq=>hc (zX q);lia
    exact place hu f ((l+r) / 2+1) r (by lia) (by lia) hr (λa ha=>jM (hu a ((l+r) / 2) (by lia) (by lia)) Ul) h2
def bin:∀ (f:Nat) (p:Array Nat) (k:Nat),p.Perm QH->p.size=QH.size->k+f<=QH.size->Up z p k ->
  (run (dU z) (kas_bin f p k)).Perm QH/\(run (dU z) (kas_bin f p k)).size=QH.size/\Up z (run (dU z) (kas_bin f p k)) (k+f)
 | 0,p,k,hp,hs,hk,hu=>⟨hp,hs,hu⟩
 | f+1,p,k,hp,hs,hk,hu=>by
  unfold kas_bin;rw[fW];have P:=place hu k 0 k (by lia) (by lia) (yI _) (λa ha=>absurd ha (kW _)) λa ha YO=>absurd ha (by lia);dsimp only at P;generalize run (dU z) (kas_place p k k 0 k)=l at P;let⟨p1,p2,p3⟩:=P;have zb:=CJ z (p:=p) (src:=k) (d:=k - l) (by lia) (by lia);have e:k - (k - l)=l:=by lia
  rw[e] at zb;let⟨q1,q2,q3⟩:=bin f (bubble p k (k - l)) (k+1) ((bubble_perm _ _ _).trans hp) (by rw[bubble_size,hs]) (by lia) λa b Q9 hb=>by
   rw[zb,zb];by_cases YQ:a=l
   ·rw[yH YQ];by_cases VI:b=l
    ·rw[yH VI];exact xW _
    ·rw[yJ VI];rw[yH (by lia)];exact p3 _ (by lia) (by lia)
   ·rw[yJ YQ];by_cases VI:b=l
    ·rw[yH VI,yJ (by lia)];exact p2 a (by lia)
    ·rw[yJ VI];by_cases YR:l < a/\a<=k
     ·rw[yH YR,yH (by lia)];exact hu _ _ (by lia) (by lia)
     ·rw[yJ YR];by_cases YS:l < b/\b<=k
      ·rw[yH YS];exact hu _ _ (by lia) (by lia)
      ·rw[yJ YS];exact hu _ _ Q9 (by lia)
  exact⟨q1,q2,by rw[show k+(f+1)=k+1+f by lia];exact q3⟩
def iU(h1:1<=n):(run (dU z) (kas_sort n)).toList.Perm (List.range n)/\((run (dU z) (kas_sort n)).toList.map z).Pairwise (·<=·):=by
 have Se:(List.toArray (List.range n)).size=n:=by simp
 have C:=count (z:=z) (p:=List.toArray (List.range n)) (nrem:=n) (by lia) h1;have fin:∀p:Array Nat,p.Perm (List.toArray (List.range n))->p.size=n->Up z p n->p.toList.Perm (List.range n)/\(p.toList.map z).Pairwise (·<=·):=λp a b c=>by
  refine⟨by have:=a.toList;simpa using this,?_⟩;rw[List.pairwise_iff_getElem];intro i j hi hj QB;have Sv:i < n:=by simpa [b] using hi
  have Vk:j < n:=by simpa [b] using hj
  have:=c i j (jL QB) Vk;unfold Z at this;have e1:p.getD i 0=p[i]:=by simp[Array.getD,b,Sv]
  have e2:p.getD j 0=p[j]:=by simp[Array.getD,b,Vk]
  rw[e1,e2] at this;simpa using this
 unfold kas_sort;rw[fW];generalize run (dU z) (kas_count n (List.toArray (List.range n)))=r at C;let⟨k,p⟩:=r;have hs:=C.size;rw[Se] at hs;split
 ·rename_i QW;have Ul:=C.ge;have e:max k 1=k:=by have:1<=k:=Ul;lia
  rw[e];let⟨q1,q2,q3⟩:=bin (z:=z) (n - k) p k C.perm C.size (by rw[Se];have:k < n:=QW;lia) C.up;refine fin _ q1 (by rw[q2,Se]) ?_;rw[show k+(n - k)=n by have:k < n:=QW;lia] at q3;exact q3
 ·rename_i Xw;have hle:=C.le;have e:k=n:=by have h3:k<=n:=hle;have h4:¬ k < n:=Xw;lia
  subst e;exact fin p C.perm hs C.up
end
end SP
namespace Tf
open PySem PySem.W PySem.Calls PyProof.Rows
def QZ(z:Nat->Int)(vs:List Value):List Value:=if vs.length < 2 then vs else (SP.run (SP.dU z) (kas_sort vs.length)).toList.map λi=>vs.getD i Value.none
def Tg(z:Nat->Int)(vs:List Value):(QZ z vs).length=vs.length:=by
 unfold QZ;split
 ·rfl
 ·rename_i h;have:=(SP.iU (z:=z) (n:=vs.length) (by lia)).1.length_eq;simpa using this
def R4{P:PySem.Fin->Shared->Prop}(ho:s.heap.get? a=some (seqObj "list" vs.toArray n))(Um:vs.length < 64)(z:Nat->Int)(κ:SortKind)
  (hk:2<=vs.length->∀h':Heap,(∀b o,b≠a->s.heap.get? b=some o->h'.get? b=some o)->∀Q':SortKind->Shared->Prop,Q' κ { s with heap:=h' }->wpAny (model prog w) A (keyKind' vs.toArray) Q' (λ_ _=>False) { s with heap:=h' })
  (QW:2<=vs.length->∀h':Heap,(∀b o,b≠a->s.heap.get? b=some o->h'.get? b=some o)->∀i j C,i < vs.length->j < vs.length->C (SP.dU z i j) { s with heap:=h' }->kas_ask prog w A κ vs i j C { s with heap:=h' })
  (h:∀ (h':Heap) (c:Nat),(∀b o,b≠a->s.heap.get? b=some o->h'.get? b=some o)->h'.get? a=some (seqObj "list" (QZ z vs).toArray c)->P (.done (.ret .none)) { s with heap:=h' }) :
  wpAny (model prog w) A (Builtin.«list.sort» ⟨[.ref a],[]⟩) P E s:=by
 rw[list_sort_plain];have ha:a < s.heap.objs.size:=zV ho;have Tv:vs.length<=sizeLine:=by rw[sizeLine_eq];lia
 refine zS (listItems_at ho rfl (zS (listUpdate_at ho rfl ?_ (by simpa using Tv) (xR _))));obtain⟨e1,Xx⟩:∃e,(s.heap.update a (Obj.mapSeq λ_=>(#[]:Array Value))).get? a=some (seqObj "list" #[] e):=⟨_,get?_update_seq ho λ_=>#[]⟩
 have YT:∀b o,b≠a->s.heap.get? b=some o->(s.heap.update a (Obj.mapSeq λ_=>(#[]:Array Value))).get? b=some o:=λb o hb e=>(xI _ _ (jG hb)).trans e;refine zS (seqEpoch_at Xx rfl (zS (wpAny_newTuple ?_ (by simpa using Tv))));refine zS (wpAny_newList (xU ?_) (xR _));have Wt:(((s.heap.update a (Obj.mapSeq λ_=>(#[]:Array Value))).push (seqObj "tuple" vs.toArray 0)).push (seqObj "list" #[] 0)).get? a=some (seqObj "list" #[] e1):=zR _ (zR _ Xx);have Wu:∀b o,b≠a->s.heap.get? b=some o->(((s.heap.update a (Obj.mapSeq λ_=>(#[]:Array Value))).push (seqObj "tuple" vs.toArray 0)).push (seqObj "list" #[] 0)).get? b=some o:=λb o hb e=>zR _ (zR _ (YT b o hb e));show wpAny _ A _ P E { s with heap:=((s.heap.update a (Obj.mapSeq λ_=>(#[]:Array Value))).push (seqObj "tuple" vs.toArray 0)).push (seqObj "list" #[] 0) };generalize ((s.heap.update a (Obj.mapSeq λ_=>(#[]:Array Value))).push (seqObj "tuple" vs.toArray 0)).push (seqObj "list" #[] 0)=h3 at Wt Wu;clear Xx YT;dsimp only;have fin:∀Rn:SortSt,(arrOf Rn).map (·.2)=(QZ z vs).toArray->failedOf Rn=none ->
   wpAny (model prog w) A (do
    let sorted:=(arrOf Rn).map (·.2);let touched:=(<- seqEpoch a) != e1
    Builtin.List.listUpdate (.ref a) λ_=>sorted
    if let some e:=failedOf Rn then rule "list.sort.comparison-raised";throw e
    if touched then rule "list.sort.modified";raiseError "ValueError" "list modified during sort"
    ret .none) P E { s with heap:=h3 }:=λRn h1 h2=>by
  dsimp only;rw[h1,h2];refine zS (seqEpoch_at Wt rfl ?_);refine zS (listUpdate_at Wt rfl ?_ (xR _) (by show (QZ z vs).toArray.size<=_;rw[zH,Tg];lia));obtain⟨c,hc⟩:∃c,(h3.update a (Obj.mapSeq λ_=>(QZ z vs).toArray)).get? a=some (seqObj "list" (QZ z vs).toArray c):=⟨_,get?_update_seq Wt λ_=>(QZ z vs).toArray⟩
  have q:=h _ c (λb o hb e=>(xI _ _ (jG hb)).trans (Wu b o hb e)) hc;simp?[bne_self_eq_false,yK,qL];exact zT q
 by_cases h2:vs.toArray.size < 2
 ·rw[yH h2,yH h2];refine zS (zT ?_);rw[StateT.run_pure];refine zS (zT (fin _ ?_ rfl));have VJ:vs.length < 2:=by simpa using h2
  unfold QZ;rw[yH VJ];show ((vs.toArray.zip vs.toArray).map (·.2))=vs.toArray;apply Array.toList_inj.mp;simp?[Array.toList_map,Array.toList_zip];exact List.map_snd_zip (yI _)
 ·rw[yJ h2,yJ h2];have VJ:2<=vs.length:=by
   have:¬ vs.length < 2:=by simpa using h2
   lia
  refine zS (yW (hk VJ h3 Wu (λYU s'=>YU=κ/\s'={ s with heap:=h3 }) ⟨rfl,rfl⟩) (λYU s' hs=>?_) λ_ _ x=>x.elim);let⟨rfl,rfl⟩:=hs;refine zS (yW (kat_run (Q:=λRn s'=>s'={ s with heap:=h3 }/\(arrOf Rn).map (·.2)=(QZ z vs).toArray/\failedOf Rn=none) (G:=λp s'=>s'={ s with heap:=h3 }/\p=SP.run (SP.dU z) (kas_sort vs.length))
   rfl VJ Um (λp Rn s' a1 a2 a3 a4=>⟨a4.1,?_,a3⟩) (SP.wp_run (QW VJ h3 Wu) (kas_sort vs.length) (SP.Jz (by lia)) ⟨rfl,rfl⟩)) ?_ λ_ _ e=>e)
  ·rw[kat_snds rfl a2,a4.2];unfold QZ;rw[yJ (by lia)]
  ·rintro⟨⟨⟩,Rn⟩ s' ⟨hs,h4,h5⟩;subst hs;exact fin Rn h4 h5
def TV(h:Heap)(l:Addr)(vs:List Value):Prop:=∃ (o:Obj) (T:String) (n:Nat),(T="list"\/T="tuple")/\h.get? l=some o/\o.cls=.type T/\o.data=.seq vs.toArray n
def Th(hl:TV s.heap l vs)
  (h:Q vs { s with heap:=(s.heap.push (seqObj "list" #[] 0)).update s.heap.objs.size (Obj.mapSeq (·++vs.toArray)) }) (Se:vs.length<=sizeLine):wpAny (model prog w) A (collect (.ref l)) Q E s:=by
 let⟨o,T,n,hT,ho,hc,hd⟩:=hl;unfold collect;refine zS (wpAny_runValue (jS entry_proto_collect' ?_));show wpAny _ _ (do again (.builtin "list.__iadd__" ⟨[<- newList [],.ref l],[]⟩)) _ _ s;refine zS (wpAny_newList (zT ⟨vK _ (by decide +kernel),jS entry_list_iadd' ?_⟩));show wpAny _ _ (Builtin.List.listExtendWith (.ref s.heap.objs.size) (.ref l) (.ref s.heap.objs.size)) _ _ { s with heap:=s.heap.push (seqObj "list" #[] 0) };unfold Builtin.List.listExtendWith;have Rl:(s.heap.push (seqObj "list" #[] 0)).get? l=some o:=zR _ ho;refine zS (vM (T:=T) ⟨o,Rl,hc⟩ ?_);rw[yH (by rcases hT with rfl|rfl<;>simp)];refine zS (listItems_at Rl hd (zS (listItems_at (xs:=#[]) (n:=0) (zU _ rfl) rfl ?_)));rw[yJ (by simp)];refine zS (listUpdate_at (xs:=#[]) (n:=0) (zU _ rfl) rfl ?_ (xR _) (by show (#[]++vs.toArray).size<=sizeLine+1;simp?[Array.size_append,zH,xG];lia));refine zT ?_;refine zS (wpAny_load (get?_update_seq (zU _ rfl) _) ?_);show wpAny _ _ (pure ((#[]:Array Value)++vs.toArray).toList) Q E _;rw[show ((#[]:Array Value)++vs.toArray).toList=vs by simp];exact zT h
def TX{s:Shared}{Q:Value->Shared->Prop}(hl:TV s.heap l vs)(Um:vs.length < 64)(z:Nat->Int)(κ:SortKind)
  (hk:2<=vs.length->∀h':Heap,(∀b o,s.heap.get? b=some o->h'.get? b=some o)->∀Q':SortKind->Shared->Prop,Q' κ { s with heap:=h' }->wpAny (model prog w) A.in1.in1 (keyKind' vs.toArray) Q' (λ_ _=>False) { s with heap:=h' })
  (QW:2<=vs.length->∀h':Heap,(∀b o,s.heap.get? b=some o->h'.get? b=some o)->∀i j C,i < vs.length->j < vs.length->C (SP.dU z i j) { s with heap:=h' }->kas_ask prog w A.in1.in1 κ vs i j C { s with heap:=h' })
  (h:∀ (h':Heap) (D:Addr) (c:Nat),(∀b o,s.heap.get? b=some o->h'.get? b=some o)->s.heap.objs.size<=D->h'.get? D=some (seqObj "list" (QZ z vs).toArray c)->Q (.ref D) { s with heap:=h' }) :
  wpAny (model prog w) A (call (.builtin "sorted") [.ref l]) Q E s:=by
 have Tv:vs.length<=sizeLine:=by rw[sizeLine_eq];lia
 refine Calls.call_function_entry kind_sorted plain_sorted entry_sorted (args_sorted1 _) ?_;unfold Builtin.«sorted»;refine zS (m:=checkCount "sorted" 1 1 _) (zT (zS (Th hl ?_ Tv)));refine zS (wpAny_newList ?_ (by simpa using Tv));have Se:((s.heap.push (seqObj "list" #[] 0)).update s.heap.objs.size (Obj.mapSeq (·++vs.toArray))).objs.size=s.heap.objs.size+1:=by rw[Heap.size_update,size_push']
 have kp:∀b o,s.heap.get? b=some o->(((s.heap.push (seqObj "list" #[] 0)).update s.heap.objs.size (Obj.mapSeq (·++vs.toArray))).push (seqObj "list" vs.toArray 0)).get? b=some o:=λb o e =>
  zR _ ((xI _ _ (jC (zV e))).trans (zR _ e))
 have Xy:(((s.heap.push (seqObj "list" #[] 0)).update s.heap.objs.size (Obj.mapSeq (·++vs.toArray))).push (seqObj "list" vs.toArray 0)).get? (s.heap.objs.size+1)=some (seqObj "list" vs.toArray 0):=by
  rw[<- Se];exact zU _ rfl
 show wpAny _ _ _ _ _ { s with heap:=((s.heap.push (seqObj "list" #[] 0)).update s.heap.objs.size (Obj.mapSeq (·++vs.toArray))).push (seqObj "list" vs.toArray 0) };rw[Se];generalize ((s.heap.push (seqObj "list" #[] 0)).update s.heap.objs.size (Obj.mapSeq (·++vs.toArray))).push (seqObj "list" vs.toArray 0)=h1 at kp Xy;have kk:∀h':Heap,(∀b o,b≠s.heap.objs.size+1->h1.get? b=some o->h'.get? b=some o)->∀b o,s.heap.get? b=some o->h'.get? b=some o:=λh' q b o e=>q b o (yN (jH (zV e))) (kp b o e);refine zS (xU (qQ slot_list_sort ⟨_,Xy,rfl⟩ entry_list_sort (R4 Xy Um z κ (λa h' q=>hk a h' (kk h' q)) (λa h' q=>QW a h' (kk h' q)) λh' c q e=>⟨_,rfl,?_⟩) (args_list_sort _)));exact zT ⟨_,rfl,h h' _ c (kk h' q) (by lia) e⟩
end Tf
namespace Dl
open PySem L2 PySem.Spec PyProof.Rows
def oV(i:Nat)(fz:List Nat)(f:Env->Option (List D)):au->Option Out:=λρ=>(f (bR (hand fz 0 ρ))).bind λus=>o8 i (λds=>if ds.length+us.length<=sizeLine then some (ds++us) else none) (hand fz 0 ρ)
def AU(i:Nat)(fz:List Nat)(hN:X.N[i]?=some x)(hv:FD X.env.scope x)(h:DF X e f)(hd:(x == ("__debug__":Str))=false:=by decide)(Q8:(x == ("__classdict__":Str))=false:=by decide)
  (QI:((backTo Qq (starEach [e] X.env)).all (λx=>!x.1)&&(backToKw Qq (keywordEach [] X.env)).all (λx=>x.1.isSome)&&decide ([e].length+([]:List Keyword).length+(if ([]:List Keyword).isEmpty then 0 else 1) < 30))=true:=by rfl)
  (Qv:(apos.endLine == Qq.line)=true:=by rfl) (hs:starEach [e] X.env=(false,eval e X.env)::starEach [] X.env:=by rfl) :
  DS X Qm Qn (.Expr (.Call (.Attribute (.Name x px) "extend" apos) [e] [] Qq) pos) (oV i fz f) :=
 bW (iT (jb qK PySem.F.slot_list_extend PySem.F.type_list_extend AN (ji hN hv hd Q8) (aW h cy hs) rfl QI Qv hs rfl)) λE σ H ⟨HF,ρ,o,S,hg,q⟩=>by
  let⟨us,h1,hg⟩:=bs hg;let⟨ds,es,h2,h3,rfl⟩:=iR hg;let⟨Qr,s1,S1⟩:=S.hand fz;let⟨a,vs,e1,e2,e3,e5,e4⟩:=S1.own i ds h2;refine⟨.ref a,e1,.inl ⟨rfl,vs,dM.of e2⟩,Qr,_,us,S1.gr.fh,S1.QY,h1,λb ws H' Qp G hb hf h' r=>?_⟩;have S2:=S1.grow G;let⟨a',TU,f1,f2,f3,f5,f4⟩:=S2.own i ds h2;rw[e1] at f1;cases f1;split at h3
  ·rename_i hz;cases h3;exact⟨a,b,TU,ws,rfl,rfl,f2,h',by rw[f4.length,r.length];exact hz,q σ _ Qp (S2.mut h2 e1 f2 (f4.append r)) (s1.trans G.ff)⟩
  ·cases h3
def IM(ds:List D)(k:Int)(d:D):List D:=let j:=if k < 0 then (k+(ds.length:Int)).toNat else min k.toNat ds.length;ds.take j++d::ds.drop j
def Gr:V->List V->Hp->VK->Prop:=λx vs H Q=>∃l xs k y,x=.ref l/\vs=[.int k,y]/\H l=some (.lst xs)/\xs.length < sizeLine/\-(2 ^ 62)<=k/\k < 2 ^ 62 /\
 Q .Qo (upd H l (.lst (xs.take (if k < 0 then (k+(xs.length:Int)).toNat else min k.toNat xs.length)++y::xs.drop (if k < 0 then (k+(xs.length:Int)).toNat else min k.toNat xs.length))))
def Bt:HG X "list.insert" Gr:=by
 intro pins s σ H x vs v us Q I rx rv h;let⟨l,xs,k,y,rfl,rfl,hH,hz,k1,k2,q⟩:=h;cases rx;let⟨u1,u2,rfl,⟨t,rfl⟩,ru⟩:=L2.aD.two rv;let⟨z,its,n,r,hl,e⟩:=I.SU hH;have SW:¬(!Builtin.List.listFitsIndex k)=true:=by
  have:Builtin.List.listFitsIndex k=true:=by
   unfold Builtin.List.listFitsIndex;simp?[zF,zJ];lia
  rw[this];simp
 refine qS F.slot_list_insert ⟨_,e,rfl⟩ F.entry_list_insert (F.args_list_insert_3 _ _ _) (AutoListH.list_insert_list_int_val_1 l its.toArray n k t u2 SW (by rw[zH];lia)) ⟨e,?_⟩;have hlen:its.length=xs.length:=hl.symm;refine⟨.Qo,_,I.UH (its':=its.take (if k < 0 then (k+(xs.length:Int)).toNat else min k.toNat xs.length)++u2::its.drop (if k < 0 then (k+(xs.length:Int)).toNat else min k.toNat xs.length)) hH e ?_ ((r.take _).append (.cons ru (r.drop _))) ?_,rfl,q⟩
 ·dsimp only;rw[zH,hlen];apply Array.toList_inj.mp;simp;exact jW (by rw[qE,hlen];exact yI _)
 ·rw[zN,zL,jO,qE];lia
def L7(i:Nat)(fz:List Nat)(fk f:Env->Option D):au->Option Out:=λρ=>(fk (aL ρ)).bind λkd=>match kd with
 | .int k=>(mj fz f ρ).bind λp=>o8 i (λds=>if Bi k=true/\ds.length < sizeLine then some (IM ds k p.1) else none) p.2
 | _=>none
def Bj(i:Nat)(fz:List Nat)(hN:X.N[i]?=some x)(hv:FD X.env.scope x)(hk:DE X e fk)(h:DE X e2 f)(hd:(x == ("__debug__":Str))=false:=by decide)(Q8:(x == ("__classdict__":Str))=false:=by decide)
  (QI:((backTo Qq (starEach [e,e2] X.env)).all (λx=>!x.1)&&(backToKw Qq (keywordEach [] X.env)).all (λx=>x.1.isSome)&&decide ([e,e2].length+([]:List Keyword).length+(if ([]:List Keyword).isEmpty then 0 else 1) < 30))=true:=by rfl)
  (Qv:(apos.endLine == Qq.line)=true:=by rfl) (hs:starEach [e,e2] X.env=(false,eval e X.env)::starEach [e2] X.env:=by rfl) (Vn:starEach [e2] X.env=(false,eval e2 X.env)::starEach [] X.env:=by rfl) :
  DS X Qm Qn (.Expr (.Call (.Attribute (.Name x px) "insert" apos) [e,e2] [] Qq) pos) (L7 i fz fk f) :=
 bW (iT (jb qK PySem.F.slot_list_insert PySem.F.type_list_insert Bt (ji hN hv hd Q8) (aW hk (aW h cy Vn) hs) rfl QI Qv hs (by rw[Vn];rfl))) λE σ H ⟨HF,ρ,o,S,hg,q⟩=>by
  let⟨kd,Xz,hg⟩:=bs hg;cases kd<;>try cases hg
  rename_i k;let⟨⟨d,ρ'⟩,h1,hg⟩:=bs hg;let⟨ds,es,h2,h3,rfl⟩:=iR hg;have R3:∃US,ρ[i]?=some (.own US):=by
   let⟨d1,_,h1⟩:=bs h1;split at h1
   ·cases h1;exact⟨ds,h2⟩
   ·let⟨d2,_,h1⟩:=af h1;cases h1;rw[fY] at h2;let⟨s,hs,h2⟩:=af h2;cases s with
    | Qo=>split at h2<;>cases h2
    | nest _=>split at h2<;>cases h2
    | val _=>split at h2<;>cases h2
    | own xs=>exact⟨xs,hs⟩
  let⟨US,R3⟩:=R3;let⟨a,vs,e1,e2,e3,e5,e4⟩:=S.own i US R3;refine⟨.ref a,e1,.inl ⟨rfl,vs,dM.of e2⟩,H,aL ρ,_,.refl _,S.all,Xz,λvk Hk HFk Gk rk=>?_⟩;simp?[Rep] at rk;subst rk;refine lZ (S.step Gk.hh) h1 λv H' Qp s1 S' sh r=>?_;let⟨a',TU,f1,f2,f3,f5,f4⟩:=S'.own i ds h2;rw[e1] at f1;cases f1;split at h3
  ·rename_i hz;cases h3;have ok:=hz.1;unfold Bi at ok;rw[zF] at ok;refine⟨a,TU,k,v,rfl,rfl,f2,by rw[f4.length];exact hz.2,yM ok.1,yM ok.2,q σ _ Qp (S'.mut h2 e1 f2 ?_) s1⟩;unfold IM;rw[f4.length];exact (f4.take _).append (ar.cons r (f4.drop _))
  ·cases h3
def b8:D->D->Option (List D)
 | .list xs,.list ys=>small (xs++ys)
 | _,_=>none
def CL(K:W.Frag):R2:=λx y H Q=>∃a b xs ys,x=.ref a/\y=.ref b/\dM K H a xs/\dM K H b ys/\xs.length+ys.length<=sizeLine/\∀p,H p=none->Q (.ref p) (upd H p (.lst (xs++ys)))
def uT:eZ X (binaryOp .Add) (CL X.K):=by
 intro pins s σ H x y v u Q I rx ry h;let⟨a,b,xs,ys,rfl,rfl,ha,hb,hz,q⟩:=h;cases rx;cases ry;let⟨its,r1,p1,_⟩:=I.list ha;let⟨Q4,r2,p2,_⟩:=I.list hb;let⟨⟨cls,dd,data,sl⟩,ho,hc,n,hd⟩:=id p1.isList;let⟨⟨Vw,Vh,data2,Tq⟩,Ts,Uh,n2,hd2⟩:=id p2.isList;simp only at hc hd Uh hd2;subst hc hd Uh hd2;refine vN ⟨_,ho,rfl⟩ ⟨_,Ts,rfl⟩ noFill_list_add seq_list_add PySem.F.slot_list_add PySem.F.entry_list_add (PySem.F.args_list_add_2 _ _) (list_addW a b its.toArray Q4.toArray n n2 dd Vh sl Tq (by rw[zH,zH,<- r1.length,<- r2.length];exact hz)) ⟨ho,Ts,?_⟩;have e:its.toArray++Q4.toArray=(its++Q4).toArray:=by simp
 rw[e];exact⟨.ref s.heap.objs.size,_,I.SS (t':=s.toks) (r1.append r2) (by rw[zN];exact hz),rfl,q _ I.fresh⟩
def dv(g:D->D->Option (List D))(f1 f2:Env->Option D):Env->Option (List D):=λρ=>(f1 ρ).bind λx=>(f2 ρ).bind λy=>g x y
def Jf(ha:DE X a fa)(hb:DE X b fb):DF X (.BinOp a .Add b pos) (dv b8 fa fb):=aB (BK uT ha hb) λσ H Q ⟨HF,ρ,d,sm,eo,hf,q⟩=>by
 let⟨x,hx,hf⟩:=bs hf;let⟨y,hy,hg⟩:=bs hf;refine⟨HF,ρ,x,sm,eo,hx,λv1 H1 Qr g1 r1=>⟨Qr,ρ,y,g1.fh,eo.mono g1.ff,hy,λv2 H2 QC g2 r2=>?_⟩⟩;have r1:=r1.mono g2.ff;cases x<;>cases y<;>simp?[b8] at hg<;>try cases hg
 rename_i xs ys;let⟨rfl,hz⟩:=dE hg;simp?[Rep] at r1 r2;let⟨a,vs,rfl,ha,ra⟩:=r1;let⟨b,us,rfl,hb,rb⟩:=r2;have G:=g1.trans g2;exact⟨a,b,vs,us,rfl,rfl,g2.fh.seq ha,g2.fh.seq hb,by rw[ra.length,rb.length,<- zN];exact hz,λp hp=>q p _ _ QC (G.trans (.own G.fh hp)) (G.hh.free hp) (G.fh.free hp) aC (ra.append rb)⟩
def boolsOf:List D->Option (List Bool)
 | []=>some []
 | .bool b::r=>(boolsOf r).map (b::·)
 | _::_=>none
def gC:∀ {ds:List D}{bs:List Bool},boolsOf ds=some bs->ds=bs.map PyData.bool
 | [],bs,h=>by cases h;rfl
 | d::r,bs,h=>by
  cases d<;>simp?[boolsOf] at h<;>try cases h
  let⟨UR,h1,rfl⟩:=af h;rw[gC h1];rfl
def cY{K:W.Frag}:∀ {bs:List Bool}{vs:List V},ar K H (bs.map PyData.bool) vs->vs=bs.map V.bl
 | [],vs,h=>h.nil_inv
 | b::bs,vs,h=>by
  let⟨v,r,rfl,a,c⟩:=h.cons_inv;simp?[Rep] at a;rw[a,cY c];rfl
def jd:∀ {bs:List Bool}{us:List Value},aD (bs.map V.bl) us->us=bs.map Value.bool
 | [],us,h=>by cases h;rfl
 | b::bs,us,h=>by
  cases h with
  | cons r rr=>cases r;rw[jd rr];rfl
def range_all(bs:List Bool):(List.range bs.length).all (λi=>bs.getD i false)=bs.all id:=by
 induction bs with
 | nil=>rfl
 | cons b bs ih=>rw[zL,kS,xP,List.all_map,xP];simpa [vQ] using qX (b&&·) ih
def range_any(bs:List Bool):(List.range bs.length).any (λi=>bs.getD i false)=bs.any id:=by
 induction bs with
 | nil=>rfl
 | cons b bs ih=>rw[zL,kS,List.any_cons,List.any_map,List.any_cons];simpa [vQ] using qX (b||·) ih
def wQ(hc:X.calm=true):dc X (.builtin "all") (λxs H Q=>∃ (a:Addr) (bs:List Bool),xs=[.ref a]/\dM X.K H a (bs.map V.bl)/\Q (.bl (bs.all id)) H):=by
 intro pins s σ H xs us Q I r h;let⟨a,bs,rfl,hq,q⟩:=h;let⟨u,rfl,rx⟩:=vals1 r;cases rx;let⟨its,rv,pl,hz⟩:=I.list hq;have hv:=jd rv;subst hv;have hh:X.A.in1.handled=none:=I.ok.hd hc;refine call_all_walk (qG pl.isList ?_);let⟨o,ho,Q5,n,hd⟩:=pl.isList;have QS:a≠s.heap.objs.size:=yN (zV ho);refine⟨_,_,_,_,_,_,λi=>bs.getD i false,rfl,Walks.list hh s.heap.objs.size a QS (bs.map Value.bool).toArray,⟨⟨_,zU _ rfl,rfl,rfl⟩,pl.isList.push _⟩,λi v s' Q' E' hP hQ=>?_,λh' tk kp=>?_⟩
 ·have e:v=Value.bool (bs.getD i false):=by
   have hP:(bs.map Value.bool).toArray[i]?=some v:=hP;rw[vB,zO] at hP;let⟨b,hb,rfl⟩:=af hP;rw[zG,hb];rfl
  subst e;exact xS hQ
 ·refine⟨.bl (bs.all id),H,?_,?_,q⟩
  ·exact I.kept (t':=tk) λb o' e=>kp b o' (by simp;exact yN (zV e)) (zR _ e)
  ·show Value.bool _=Value.bool _;have:=range_all bs;simp?[zH,zD];rw[this]
def tR:List D->Option D:=λds=>(oneOf ds).bind λd=>match d with
 | .list es=>(boolsOf es).map λbs=>.bool (bs.all id)
 | _=>none
def KN(hc:X.calm=true)(B:l7 X "all" (.builtin "all"))(ha:DA X [e] fs)(he:starEach [e] X.env=(false,eval e X.env)::starEach [] X.env:=by rfl):DE X (.Call (.Name "all" p) [e] [] pos) (aY tR fs) :=
 gg (wQ hc) (by
  intro HF H ds vs d Q sm r hg q;let⟨x,hx,hg⟩:=bs hg;rw[eY hx] at r;cases x<;>try cases hg
  let⟨bs,hb,rfl⟩:=af hg;let⟨v,r',rfl,a,b⟩:=r.cons_inv;rw[b.nil_inv];simp?[Rep] at a;let⟨p,us,rfl,h,rr⟩:=a;rw[gC hb] at rr;have:=cY rr;subst this;exact⟨p,bs,rfl,sm.seq h,q _ H HF (.refl sm) (by simp[Rep])⟩) B ha (by decide) (by decide) he rfl
abbrev lexLt:=HT.lexLt
def dA:∀a:List Int,lexLt a a=false
 | []=>rfl
 | x::a=>by show HT.lexLt (x::a) (x::a)=false;rw[HT.cG,yH rfl];exact dA a
def dh:∀ {a b c:List Int},lexLt a b=true->lexLt b c=true->lexLt a c=true
 | [],[],_,h,_=>by cases h
 | [],_::_,[],_,h=>by cases h
 | [],_::_,_::_,_,_=>rfl
 | _::_,[],_,h,_=>by cases h
 | _::_,_::_,[],_,h=>by cases h
 | x::a,y::b,z::c,h1,h2=>by
  have h1:HT.lexLt (x::a) (y::b)=true:=h1;have h2:HT.lexLt (y::b) (z::c)=true:=h2;show HT.lexLt (x::a) (z::c)=true;rw[HT.cG] at h1 h2 ⊢;by_cases e1:x=y
  ·rw[yH e1] at h1;by_cases e2:y=z
   ·rw[yH e2] at h2;rw[yH (e1.trans e2)];exact dh h1 h2
   ·rw[yJ e2] at h2;rw[yJ (by lia)];have:=yM h2;exact zX (by lia)
  ·rw[yJ e1] at h1;have q1:=yM h1;by_cases e2:y=z
   ·rw[yJ (by lia)];exact zX (by lia)
   ·rw[yJ e2] at h2;have q2:=yM h2;rw[yJ (by lia)];exact zX (by lia)
def eh:∀ {a b:List Int},lexLt a b=false->lexLt b a=false->a=b
 | [],[],_,_=>rfl
 | [],_::_,h,_=>by cases h
 | _::_,[],_,h=>by cases h
 | x::a,y::b,h1,h2=>by
  have h1:HT.lexLt (x::a) (y::b)=false:=h1;have h2:HT.lexLt (y::b) (x::a)=false:=h2;rw[HT.cG] at h1 h2;by_cases e:x=y
  ·rw[yH e] at h1;rw[yH e.symm] at h2;rw[e,eh h1 h2]
  ·rw[yJ e] at h1;rw[yJ (λz=>e z.symm)] at h2;have:=of_decide_eq_false h1;have:=of_decide_eq_false h2;lia
def lexLe(a b:List Int):Bool:=!lexLt b a
def uN(a b c:List Int)(h1:lexLe a b=true)(h2:lexLe b c=true):lexLe a c=true:=by
 unfold lexLe at *;rw[yL] at *;cases e:lexLt c a with
 | false=>rfl
 | true =>
  cases e1:lexLt a b with
  | true=>rw[dh e e1] at h2;cases h2
  | false =>
   have:=eh e1 h1;subst this;rw[e] at h2;cases h2
def uQ(a b:List Int):(lexLe a b||lexLe b a)=true:=by
 unfold lexLe;cases e1:lexLt b a with
 | false=>rfl
 | true =>
  cases e2:lexLt a b with
  | false=>rfl
  | true=>have:=dh e1 e2;rw[dA] at this;cases this
def n9(h1:lexLe a b=true)(h2:lexLe b a=true):a=b:=by
 unfold lexLe at *;rw[yL] at *;exact eh h2 h1
def pq{α:Type}{le:α->α->Bool}(VL:∀a b,le a b=true->le b a=true->a=b):∀ {l m:List α},l.Perm m->l.Pairwise (λa b=>le a b=true)->m.Pairwise (λa b=>le a b=true)->l=m
 | [],m,p,_,_=>p.nil_eq
 | a::l,[],p,_,_=>by have:=p.length_eq;simp at this
 | a::l,b::m,p,h1,h2=>by
  let⟨ZT,ZU⟩:=List.pairwise_cons.mp h1;let⟨ZV,ZW⟩:=List.pairwise_cons.mp h2;have e:a=b:=by
   have ha:a∈b::m:=p.mem_iff.mp zE;have hb:b∈a::l:=p.mem_iff.mpr zE;rcases List.mem_cons.mp ha with e|ha
   ·exact e
   ·rcases List.mem_cons.mp hb with e|hb
    ·exact e.symm
    ·exact VL a b (ZT b hb) (ZV a ha)
  subst e;rw[pq VL (List.perm_cons a |>.mp p) ZU ZW]
def Q7(l:List (List Int)):List (List Int):=l.mergeSort lexLe
def km(l:List (List Int)):(Q7 l).Perm l:=List.mergeSort_perm l lexLe
def B6(l:List (List Int)):(Q7 l).Pairwise (λa b=>lexLe a b=true):=List.pairwise_mergeSort uN uQ l
def rM{l:List (List Int)}(p:l.Perm m)(h:l.Pairwise (λa b=>lexLe a b=true)):l=Q7 m:=pq (λ_ _=>n9) (p.trans (km m).symm) h (B6 m)
def rk(l:List (List Int))(a:List Int):Int:=((l.countP λb=>lexLt b a:Nat):Int)
def Ik(ha:a∈l):lexLt a b=decide (rk l a < rk l b):=by
 unfold rk;have mono:∀ {a b:List Int},lexLt a b=true->(l.countP λc=>lexLt c a)<=l.countP λc=>lexLt c b:=λ{a b} h=>List.countP_mono_left λc _ hc=>dh hc h;have strict:∀ {a b:List Int}(ha:a∈l),lexLt a b=true->(l.countP λc=>lexLt c a) < l.countP λc=>lexLt c b:=λ{a b} ha h=>by
  have key:∀m:List (List Int),a∈m->(m.countP λc=>lexLt c a) < m.countP λc=>lexLt c b:=λm hm=>by
   induction m with
   | nil=>cases hm
   | cons x m ih =>
    rw[List.countP_cons,List.countP_cons];have mo:(m.countP λc=>lexLt c a)<=m.countP λc=>lexLt c b:=List.countP_mono_left λc _ hc=>dh hc h;rcases List.mem_cons.mp hm with e|hm
    ·subst e;rw[dA,h];simp?[yK,qL,xD];lia
    ·have:=ih hm;by_cases hx:lexLt x a=true
     ·rw[hx,dh hx h];simp?[xD];lia
     ·have Xv:lexLt x a=false:=by simpa using hx
      rw[Xv];simp?[yK,qL];split<;>lia
  exact key l ha
 cases e:lexLt a b with
 | true=>exact (zX (by have:=strict ha e;lia)).symm
 | false =>
  refine (zW ?_).symm;cases e2:lexLt b a with
  | true=>have:=mono e2;lia
  | false=>rw[eh e e2];lia
section
variable {prog:Program}{w:World}{A:Around}{E:Value->Shared->Prop}{s:Shared}
def uf:∀ {us ws:List Value}{ns ms:List Int}(i:Nat),IntsAre us ns->IntsAre ws ms->Q (lexLt ns ms) s->W.KatLex prog w A true (decide (ns.length < ms.length)) Q (us.zip ws) i s
 | [],[],_,_,i,.nil,.nil,h=>h
 | [],_::_,_,_,i,.nil,.cons _ _ _,h=>by
  show Q (decide (0 < _+1)) s;rw[zX (Nat.succ_pos _)];exact h
 | _::_,[],_,_,i,.cons _ _ _,.nil,h=>by
  show Q (decide (_+1 < 0)) s;rw[zW (kW _)];exact h
 | _::us,_::ws,_,_,i,.cons n t r1,.cons m u r2,h=>by
  have h:Q (HT.lexLt (n::_) (m::_)) s:=h;rw[HT.cG] at h;refine W.kat_cons (SeqAt.EqAt.int_int n t m u prog w _ _ ?_);cases e:(n == m) with
  | true =>
   have e':n=m:=eq_of_beq e;rw[yH e'] at h;refine W.kat_yes ?_;have:=uf (i+1) r1 r2 h;simp?[zL,Nat.add_lt_add_iff_right];exact this
  | false =>
   have e':¬ n=m:=λq=>by rw[q] at e;simp at e
   rw[yJ e'] at h;refine W.kat_no ?_;by_cases hi:(true&&i == 0)=true
   ·rw[hi];exact oneLt_int h
   ·have Sv:(true&&i == 0)=false:=by simpa using hi
    rw[Sv];refine W.kat_one _ _ (lt_int ?_);exact h
end
def aE(ns:List Int):D:=.tuple (ns.map PyData.int)
def intsOf:List D->Option (List Int)
 | []=>some []
 | .int n::r=>(intsOf r).map (n::·)
 | _::_=>none
def dg:∀ {ds:List D}{ns:List Int},intsOf ds=some ns->ds=ns.map PyData.int
 | [],ns,h=>by cases h;rfl
 | d::r,ns,h=>by
  cases d<;>simp?[intsOf] at h<;>try cases h
  let⟨YV,h1,rfl⟩:=af h;rw[dg h1];rfl
def jr:∀ns:List Int,intsOf (ns.map PyData.int)=some ns
 | []=>rfl
 | n::ns=>by simp[intsOf,jr ns]
def yr:D->Option (List Int)|.tuple ds=>(intsOf ds).bind λns=>if ns=[] then none else some ns|_=>none
def vm(h:yr d=some ns):d=aE ns/\ns≠[]:=by
 cases d<;>try cases h
 let⟨ms,h1,h2⟩:=bs h;split at h2
 ·cases h2
 ·rename_i hn;cases h2;rw[dg h1];exact⟨rfl,hn⟩
def Bl(h:ns≠[]):yr (aE ns)=some ns:=by
 unfold aE yr;simp?[jr,zA];rw[yJ h]
def rowsOf:List D->Option (List (List Int))
 | []=>some []
 | d::r=>(yr d).bind λns=>(rowsOf r).map (ns::·)
def mE:∀ {ds:List D}{Qy:List (List Int)},rowsOf ds=some Qy->ds=Qy.map aE/\∀ns∈Qy,ns≠[]
 | [],Qy,h=>by cases h;exact⟨rfl,λ_ z=>by cases z⟩
 | d::r,Qy,h=>by
  let⟨ns,h1,h⟩:=bs h;let⟨rest,h2,rfl⟩:=af h;let⟨e,hn⟩:=vm h1;let⟨e2,Xu⟩:=mE h2;refine⟨by rw[e,e2];rfl,λm hm=>?_⟩;rcases List.mem_cons.mp hm with q|q
  ·subst q;exact hn
  ·exact Xu m q
def nj:∀ {Qy:List (List Int)},(∀ns∈Qy,ns≠[])->rowsOf (Qy.map aE)=some Qy
 | [],_=>rfl
 | ns::r,h=>by
  simp?[zI,rowsOf,Bl (h ns zE),zA,nj λm hm=>h m (zC _ hm),zB]
structure qx(h:Heap)(v:Value)(ns:List Int):Prop where
 ex:∃ (a:Addr) (o:Obj) (its:Array Value) (n:Nat),v=.ref a/\h.get? a=some o/\o.cls=.type "tuple"/\o.data=.seq its n/\IntsAre its.toList ns
def qx.keep(r:qx h v ns)(k:∀b o,h.get? b=some o->h'.get? b=some o):qx h' v ns:=let ⟨a,o,its,n,e,e1,e2,e3,e4⟩:=r.ex;⟨a,o,its,n,e,k _ _ e1,e2,e3,e4⟩
def uK:∀ {vs:List Value}{Qy:List (List Int)},Paired (qx h) vs Qy->(∀ns∈Qy,ns≠[])->∃fs:List Value,W.KatTups h vs fs/\fs.length=vs.length/\∀f∈fs,∃n t,f=Value.int n t
 | _,_,.nil,_=>⟨[],trivial,rfl,λ_ z=>by cases z⟩
 | _,_,.cons (a:=v) (b:=ns) r p,hn=>by
  let⟨fs,h1,h2,h3⟩:=uK p λm hm=>hn m (zC _ hm);let⟨a,o,its,n,rfl,e1,e2,e3,e4⟩:=r.ex;cases hits:its.toList with
  | nil =>
   rw[hits] at e4;cases e4;exact absurd rfl (hn [] zE)
  | cons f rest =>
   rw[hits] at e4;cases e4 with
   | cons m t e5 =>
    have h0:its[0]?=some (.int m t):=by
     have:its.toList[0]?=some (Value.int m t):=by rw[hits];rfl
     simpa using this
    exact⟨.int m t::fs,W.KatTups.cons e1 e2 e3 h0 h1,by simp[h2],λg hg=>by
     rcases List.mem_cons.mp hg with q|q
     ·exact⟨m,t,q⟩
     ·exact h3 g q⟩
def jo:∀ {l:List α}{m:List β}{i:Nat},Paired R l m->i < l.length->R (l.getD i d) (m.getD i d')
 | _,_,i,.nil,h=>by simp at h
 | _,_,0,.cons r _,_=>r
 | _,_,i+1,.cons _ p,h=>by simpa using jo (i:=i) (d:=d) (d':=d') p (by simpa using h)
def uw(hl:Tf.TV s.heap l vs)(hp:Paired (qx s.heap) vs Qy)(hn:∀ns∈Qy,ns≠[])(Um:vs.length < 64)
  (h:∀ (h':Heap) (D:Addr) (c:Nat),(∀b o,s.heap.get? b=some o->h'.get? b=some o)->s.heap.objs.size<=D->h'.get? D=some (seqObj "list" (Tf.QZ (λi=>rk Qy (Qy.getD i [])) vs).toArray c)->Q (.ref D) { s with heap:=h' }) :
  wpAny (model prog w) A (call (.builtin "sorted") [.ref l]) Q E s:=by
 refine Tf.TX hl Um (λi=>rk Qy (Qy.getD i [])) (tuples' true) (λh2 h' kp Q' q=>?_) (λh2 h' kp i j C hi hj q=>?_) h
 ·have TY:Paired (qx h') vs Qy:=Paired.Ux hp λ_ _ r=>r.keep kp;let⟨fs,t,hlen,hf⟩:=uK TY hn;refine W.kat_kind (s:={ s with heap:=h' }) (T:=.type "int") t (by lia) (λv hv=>?_) (by decide) q;let⟨n,t,rfl⟩:=hf v hv;exact W.Looks.of_pure rfl
 ·have ri:=(jo (d:=Value.none) (d':=[]) hp hi).keep kp;have rj:=(jo (d:=Value.none) (d':=[]) hp hj).keep kp;have hlen:=hp.length;let⟨a,o,its,n,ea,e1,e2,e3,e4⟩:=ri.ex;let⟨b,o',its',n',eb,f1,f2,f3,f4⟩:=rj.ex;unfold W.kas_ask;rw[ea,eb];have VM:Qy.getD i []∈Qy:=by
   rw[zG,zK (by lia)];exact xX _
  have q':C (lexLt (Qy.getD i []) (Qy.getD j [])) { s with heap:=h' }:=by
   rw[Ik VM];exact q
  refine W.kat_lt (s:={ s with heap:=h' }) e1 e3 f1 f3 ?_;have:=uf (prog:=prog) (w:=w) (A:=A.in1.in1) (s:={ s with heap:=h' }) 0 e4 f4 q';have l1:its.size=(Qy.getD i []).length:=by have:=IntsAre.length e4;simpa using this
  have l2:its'.size=(Qy.getD j []).length:=by have:=IntsAre.length f4;simpa using this
  rw[l1,l2];exact this
def BB(z:Nat->Int)(l:List α)(d:α):List α:=if l.length < 2 then l else (SP.run (SP.dU z) (W.kas_sort l.length)).toList.map λi=>l.getD i d
def iG(l:List α)(d:α):(List.range l.length).map (λi=>l.getD i d)=l:=by
 apply List.ext_getElem
 ·simp
 ·intro i h1 h2;simp[h2]
def sy(z:Nat->Int)(l:List α)(d:α):(BB z l d).Perm l:=by
 unfold BB;split
 ·exact List.Perm.refl _
 ·rename_i h;have:=((SP.iU (z:=z) (n:=l.length) (by lia)).1).map λi=>l.getD i d;rw[iG] at this;exact this
def Gi(Qy:List (List Int)):BB (λi=>rk Qy (Qy.getD i [])) Qy []=Q7 Qy:=by
 refine rM (sy _ _ _) ?_;unfold BB;split
 ·rename_i h
  match Qy,h with
  | [],_=>exact List.Pairwise.nil
  | [a],_=>exact kN _ _
 ·rename_i h;let⟨hp,hs⟩:=SP.iU (z:=λi=>rk Qy (Qy.getD i [])) (n:=Qy.length) (by lia);rw[qZ] at hs ⊢;refine hs.imp_of_mem λ{i j} hi hj QB=>?_;have Vk:j < Qy.length:=by have:=hp.mem_iff.mp hj;simpa using this
  unfold lexLe;rw[Ik (l:=Qy) (a:=Qy.getD j []) (by rw[zG,zK Vk];exact xX _)];simp?[yL,yX];lia
def D9{K:W.Frag}(z:Nat->Int)(r:ar K HF ds vs):ar K HF (BB z ds .none) (BB z vs .Qo):=by
 unfold BB;rw[r.length];split
 ·exact r
 ·rename_i h;let⟨hp,_⟩:=SP.iU (z:=z) (n:=ds.length) (by lia);have key:∀l:List Nat,(∀i∈l,i < ds.length)->ar K HF (l.map λi=>ds.getD i .none) (l.map λi=>vs.getD i .Qo):=λl=>by
   induction l with
   | nil=>exactλ_=>ar.nil
   | cons i l ih =>
    intro hl;have hi:=hl i zE;let⟨v,e1,e2⟩:=r.getD (zK hi);refine ar.cons ?_ (ih λj hj=>hl j (zC _ hj));dsimp only;rw[zG,zG,e1,zK hi];exact e2
  exact key _ λi hi=>by have:=hp.mem_iff.mp hi;simpa using this
def BW(z:Nat->Int)(r:aD vs us):aD (BB z vs .Qo) (Tf.QZ z us):=by
 unfold BB Tf.QZ;rw[r.length];split
 ·exact r
 ·rename_i h;let⟨hp,_⟩:=SP.iU (z:=z) (n:=us.length) (by lia);have key:∀l:List Nat,(∀i∈l,i < vs.length)->aD (l.map λi=>vs.getD i .Qo) (l.map λi=>us.getD i Value.none):=λl=>by
   induction l with
   | nil=>exactλ_=>.nil
   | cons i l ih =>
    intro hl;have hi:=hl i zE;let⟨v,e1,e2⟩:=r.get (zK hi);refine .cons ?_ (ih λj hj=>hl j (zC _ hj));dsimp only;rw[zG,zG,e1,zK hi];exact e2
  exact key _ λi hi=>by have:=hp.mem_iff.mp hi;rw[r.length];simpa using this
def GH(z:Nat->Int)(Qy:List (List Int)):BB z (Qy.map aE) .none=(BB z Qy []).map aE:=by
 unfold BB;rw[zD];split
 ·rfl
 ·rename_i h;rw[zM];let⟨hp,_⟩:=SP.iU (z:=z) (n:=Qy.length) (by lia);refine yF λi hi=>?_;have Sv:i < Qy.length:=by have:=hp.mem_iff.mp hi;simpa using this
  simp[Sv]
def Aj(I:Inv X pins σ H s)(sm:aM HF H):∀ {Qy:List (List Int)}{vs:List V}{us:List Value},ar X.K HF (Qy.map aE) vs->aD vs us->Paired (qx s.heap) us Qy
 | [],_,_,h,r=>by rw[h.nil_inv] at r;cases r;exact .nil
 | ns::Qy,_,_,h,r=>by
  let⟨v,vr,rfl,a,b⟩:=h.cons_inv;cases r with
  | cons r rr =>
   refine .cons ?_ (Aj I sm b rr);unfold aE at a;simp?[Rep] at a;let⟨p,ws,rfl,hs,Vy⟩:=a;cases r;let⟨its,rv,⟨o,ho,hc,n,hd⟩,_⟩:=I.tuple (av sm hs);have:ws=ns.map V.int:=by
    have key:∀ {ns:List Int}{ws:List V},ar X.K HF (ns.map PyData.int) ws->ws=ns.map V.int:=λ{ns}=>by
     induction ns with
     | nil=>exactλh=>h.nil_inv
     | cons n ns ih =>
      intro ws h;let⟨v,r,rfl,a,b⟩:=h.cons_inv;simp?[Rep] at a;rw[a,ih b];rfl
    exact key Vy
   subst this;exact⟨p,o,its.toArray,n,rfl,ho,hc,hd,intsAre_of rv⟩
def lH:dc X (.builtin "sorted") (λxs H Q=>∃ (HF:Hp) (a:Addr) (vs:List V) (Qy:List (List Int)),xs=[.ref a]/\aM HF H/\(dM X.K HF a vs\/fU X.K HF a vs)/\ar X.K HF (Qy.map aE) vs/\(∀ns∈Qy,ns≠[])/\Qy.length < 64 /\
  ∀ (Dn:Addr) (us:List V),H Dn=none->ar X.K HF ((Q7 Qy).map aE) us->Q (.ref Dn) (upd H Dn (.lst us))):=by
 intro pins s σ H xs us Q I r h;let⟨HF,a,vs,Qy,rfl,sm,hq,rr,hn,Um,q⟩:=h;let⟨u,rfl,rx⟩:=vals1 r;cases rx;obtain⟨its,rv,pl,hz⟩:∃its:List Value,aD vs its/\Tf.TV s.heap a its/\vs.length<=sizeLine:=by
  rcases hq with hq|hq
  ·let⟨its,rv,pl,hz⟩:=I.list (sm.seq hq);let⟨o,ho,hc,n,hd⟩:=pl.isList;exact⟨its,rv,⟨o,"list",n,.inl rfl,ho,hc,hd⟩,hz⟩
  ·let⟨its,rv,pl,hz⟩:=I.tuple (av sm hq);let⟨o,ho,hc,n,hd⟩:=(show s.heap.IsTuple a its.toArray from pl)
   exact⟨its,rv,⟨o,"tuple",n,.inr rfl,ho,hc,hd⟩,hz⟩
 have XA:=rr.length;rw[zD] at XA;refine uw pl (Aj I sm rr rv) hn (by have:=rv.length;lia) λh' Dn c kp hD e=>?_;have hv:=BW (λi=>rk Qy (Qy.getD i [])) rv;have hr:=D9 (λi=>rk Qy (Qy.getD i [])) rr;rw[GH,Gi] at hr;refine⟨.ref Dn,_,I.laid (t':=s.toks) (o:=.lst (BB (λi=>rk Qy (Qy.getD i [])) vs .Qo)) kp hD ⟨?_,_,c,hv,e⟩,rfl,q Dn _ (I.Qt.fresh hD) hr⟩;rw[(sy _ _ _).length_eq];exact hz
def fv:List D->Option (List D):=λds=>(oneOf ds).bind λd=>match d with
 | .list es=>(rowsOf es).bind λQy=>if Qy.length < 64 then some ((Q7 Qy).map aE) else none
 | .tuple es=>(rowsOf es).bind λQy=>if Qy.length < 64 then some ((Q7 Qy).map aE) else none
 | _=>none
def BC(B:l7 X "sorted" (.builtin "sorted"))(ha:DA X [e] fs)(he:starEach [e] X.env=(false,eval e X.env)::starEach [] X.env:=by rfl):DF X (.Call (.Name "sorted" p) [e] [] pos) (f7 fv fs) :=
 Ew lH (by
  intro HF H ds vs d Q sm r hg q;let⟨x,hx,hg⟩:=bs hg;rw[eY hx] at r;have key:∀ (b:Bool) (es:List D),ar X.K HF [if b then .tuple es else .list es] vs->((rowsOf es).bind λQy=>if Qy.length < 64 then some ((Q7 Qy).map aE) else none)=some d->(∃ (HF:Hp) (a:Addr) (us:List V) (Qy:List (List Int)),vs=[.ref a]/\aM HF H/\(dM X.K HF a us\/fU X.K HF a us)/\ar X.K HF (Qy.map aE) us/\(∀ns∈Qy,ns≠[])/\Qy.length < 64/\∀ (Dn:Addr) (ws:List V),H Dn=none->ar X.K HF ((Q7 Qy).map aE) ws->Q (.ref Dn) (upd H Dn (.lst ws))):=λb es r hg=>by
   let⟨Qy,hb,hg⟩:=bs hg;split at hg
   ·rename_i Um;cases hg;let⟨v,r',rfl,a,e0⟩:=r.cons_inv;rw[e0.nil_inv];let⟨e1,e2⟩:=mE hb;obtain⟨p,us,rfl,h,rr⟩:∃p us,v=.ref p/\(dM X.K HF p us\/fU X.K HF p us)/\ar X.K HF es us:=by
     cases b
     ·simp?[yK,qL,Rep] at a;let⟨p,us,rfl,h,rr⟩:=a;exact⟨p,us,rfl,.inl h,rr⟩
     ·simp?[xD,Rep] at a;let⟨p,us,rfl,h,rr⟩:=a;exact⟨p,us,rfl,.inr h,rr⟩
    rw[e1] at rr;exact⟨HF,p,us,Qy,rfl,sm,h,rr,e2,Um,λDn ws hD hr=>q Dn ws _ HF (.own sm hD) hD (sm.free hD) aC hr⟩
   ·cases hg
  cases x<;>try cases hg
  ·exact key false _ r hg
  ·exact key true _ r hg) B ha (by decide) (by decide) he rfl
end Dl
namespace En
open PySem PyProof.Rows
open AutoSeq1 (wpAny_loadPart')
def R5(hj:s.heap.IsTupleIter j t k)(ht:s.heap.IsTuple t its)(hv:its[k]?=some v)
  (hQ:∀g,g.IsTupleIter j t (k+1)->Heap.SameBut j s.heap g->Q v { s with heap:=g }):wpAny (model prog w) A (Builtin.SmallTypes.nextOf (.ref j)) Q E s:=by
 let⟨oj,gj,cj,dj⟩:=id hj;let⟨ot,gt,_,nt,dt⟩:=ht;unfold Builtin.SmallTypes.nextOf;refine zS (xZ (name:=Str.ofString "__next__") hj.typeIs jJ (qQ jJ hj.typeIs F.entry_tuple_iterator_next ?_ (F.args_tuple_iterator_next_1 _)));refine zS (m:=field (.ref j) 0) (qP gj dj (x:=.ref t) rfl ?_);show wpAny _ _ (if (Value.ref t == Value.none)=true then _ else _) _ _ s;rw[yJ (show ¬ ((Value.ref t == Value.none)=true) by exact yV)];refine zS (m:=field (.ref j) 1) (qP gj dj (x:=.int k 0) rfl ?_);refine zS (m:=seqItems? (.ref t)) (jT gt dt ?_);simp?[yD,hv];refine zS (wpAny_setField gj dj (by simp) (zT ⟨v,rfl,zT (hQ _ ⟨_,Heap.get?_update_self _ gj (Obj.isFreed_of_fields (Obj.data_mapFields dj _)),(Obj.cls_mapFields ..).trans cj,?_⟩ (Heap.SameBut.update ..))⟩));rw[Obj.data_mapFields dj];simp[rawInt]
def Sx{Q:Value->Shared->Prop}(hh:A.handled=none)(hj:s.heap.IsTupleIter j t k)(ht:s.heap.IsTuple t its)(hv:its[k]?=none)
  (hE:∀g x,Heap.ExtBut j s.heap g->(∃o,g.get? x=some o/\o.cls=.type "StopIteration")->E (.ref x) { s with heap:=g }):wpAny (model prog w) A (Builtin.SmallTypes.nextOf (.ref j)) Q E s:=by
 let⟨oj,gj,cj,dj⟩:=id hj;let⟨ot,gt,_,nt,dt⟩:=ht;unfold Builtin.SmallTypes.nextOf;refine zS (xZ (name:=Str.ofString "__next__") hj.typeIs jJ (qQ jJ hj.typeIs F.entry_tuple_iterator_next ?_ (F.args_tuple_iterator_next_1 _)));refine zS (m:=field (.ref j) 0) (qP gj dj (x:=.ref t) rfl ?_);show wpAny _ _ (if (Value.ref t == Value.none)=true then _ else _) _ _ s;rw[yJ (show ¬ ((Value.ref t == Value.none)=true) by exact yV)];refine zS (m:=field (.ref j) 1) (qP gj dj (x:=.int k 0) rfl ?_);refine zS (m:=seqItems? (.ref t)) (jT gt dt ?_);simp?[yD,hv];refine zS (wpAny_rule (zS (wpAny_setField gj dj (by simp) (zS (m:=newExc (.type "StopIteration") []) ?_))));simp?[newExc,newTuple];refine zS (qH (zS (m:=firstArgMember _ _) (wpAny_of_eq (a:=Value.none) (by first|rfl|(simp?[firstArgMember];rfl)) ?_)) (by size_fits));refine qH ?_ (by size_fits);simp?[raiseNew];refine zS (wpAny_handled ?_)
 first|rw[show A.in1.handled=none from hh]|rw[hh]
 exact zS (zT (wpAny_throw (hE _ _ (((Heap.SameBut.update ..).extBut.push _).push _) ⟨_,zU _ rfl,rfl⟩)))
def RM(t:Addr)(its:Array Value)(n:Nat)(dd:Option Addr)(sl:Array (Option Value)) :
  Meets (Builtin.«enumerate.__new__» ⟨[.type "enumerate",.ref t],[]⟩) (λ_ R s=>s.heap.get? t=some { cls:=.type "tuple",dict:=dd,data:=.seq its n,slots:=sl } /\
   R (.ok (.ret (.ref (s.heap.push { cls:=.type "tuple_iterator",data:=.fields #[.ref t,.int 0 0] }).objs.size)))
    { s with heap:=(s.heap.push { cls:=.type "tuple_iterator",data:=.fields #[.ref t,.int 0 0] }).push { cls:=.type "enumerate",data:=.fields #[.none,.bool false,.ref s.heap.objs.size,rawInt 0,.none,.none] } }) :=
 .of_wp λprog w A R s h=>by
  let⟨hp,g,d,tk,os⟩:=s;let⟨hl,h⟩:=h;have VN:=sub_enumerate;have hL:Heap.IsTuple (Shared.heap ⟨hp,g,d,tk,os⟩) t its:=⟨_,hl,rfl,n,rfl⟩
  wp_walk using wpAny_loadPart' hl
  refine wpAny_stack_any λst=>zT ?_;split
  ·rename_i c _ _ _ _ _;cases (c == Value.type "enumerate")
   ·wp_walk using wpAny_loadPart' hl,xO hL
    exact⟨_,rfl,h⟩
   ·wp_walk using wpAny_loadPart' hl,xO hL
    exact⟨_,rfl,h⟩
  ·wp_walk using wpAny_loadPart' hl,xO hL
   exact⟨_,rfl,h⟩
def R6(ht:s.heap.IsTuple t its)
  (h:∀h',IsEnum h' (s.heap.objs.size+1) s.heap.objs.size 0 .none->h'.IsTupleIter s.heap.objs.size t 0->h'.objs.size=s.heap.objs.size+2->(∀b o,s.heap.get? b=some o->h'.get? b=some o)->Q (.ref (s.heap.objs.size+1)) { s with heap:=h' }) :
  wpAny (model prog w) A (call (.type "enumerate") [.ref t]) Q E s:=by
 let⟨⟨c,ZX,dt,sl⟩,hl,hc,n,hd⟩:=ht;simp only at hc hd;subst hc hd;refine callType_new F.called_enumerate (by decide) (F.typeCall_enumerate_1 _) (F.newCall_enumerate_1 _) (λobj=>F.args_object_init_2 obj _) F.entry_enumerate_new (RM t its n ZX sl) ⟨hl,?_⟩;have hz:(s.heap.push { cls:=.type "tuple_iterator",data:=.fields #[.ref t,.int 0 0] }).objs.size=s.heap.objs.size+1:=by rw[xF]
 have he:=zU (s.heap.push { cls:=.type "tuple_iterator",data:=.fields #[.ref t,.int 0 0] }) (o:={ cls:=.type "enumerate",data:=.fields #[.none,.bool false,.ref s.heap.objs.size,rawInt 0,.none,.none] }) rfl;show _/\_;rw[hz] at he ⊢;refine⟨⟨_,he,rfl⟩,h _ he ⟨_,zR _ (zU _ rfl),rfl,rfl⟩ ?_ λb o x=>zR _ (zR _ x)⟩;show (Heap.push _ _).objs.size=_;rw[xF,hz]
end En
namespace Dl
open PySem L2 PySem.Spec PyProof.Rows
section
variable {ch:List Addr}
def uh(I:Inv X pins σ H s)(RA:∀b∈ch,d9 X pins H b)(k:∀b o,b∉ch->s.heap.get? b=some o->h'.get? b=some o){T:Addr}{vals:List Value}{xs:List V}(hT:s.heap.objs.size<=T)(ht:mF h' T vals.toArray)
  (rv:aD xs vals) (hz:xs.length<=sizeLine):Inv X pins σ (upd H T (.tup xs)) { s with heap:=h',toks:=t' }:=by
 have nT:H T=none:=I.Qt.fresh hT;have ne:∀b o,s.heap.get? b=some o->b≠T:=λb o e=>yN (zP (zV e) hT);have ne2:∀b o,H b=some o->b≠T:=λb o e=>aF e nT;have Sr:∀b o,H b=some o->b∉ch:=λb o e z=>by rw[(RA b z).1] at e;cases e
 refine I.step (g':=s.gens) (d':=s.drawn) (ch:=ch) (λb hb=>?_) (λb o _ _ hc e _=>k b o hc e) (λb o _ _ hc e _=>⟨o.slots,k b o hc e⟩) (λb o _ e n=>by rw[ay (ne b o e)];exact n)
  (λb o hc e=>⟨o,k b o hc e⟩) (λb ys e=>by rw[ay (ne2 b _ e)];exact e) (λb o u e=>by rw[ay (ne2 b _ e)];exact e) (.kept (λb u ⟨q,z⟩ e=>k b u (Sr b _ z) e) λb u e _=>by rw[ay (ne2 b _ e)];exact e) (λm hm=>?_) (λb u e=>?_) I.bare
 ·let⟨f0,f1,f2,f3,f4,f5⟩:=RA b hb;exact⟨f3,f1,f4,f5⟩
 ·let⟨o,es,ep,ho,r⟩:=hm;exact⟨o,es,ep,k _ o (λz=>(RA _ z).2.1 rfl) ho,r⟩
 ·by_cases hb:b=T
  ·subst hb;rw[aC] at e;cases e;exact⟨hz,vals,rv,ht⟩
  ·rw[ay hb] at e;refine (I.Qt b u e).QL (λc v hc q=>k c v ?_ q) (λ_ q=>?_) λc v q _=>?_
   ·rcases hc with z|z
    ·rw[z];exact Sr b u e
    ·exact Sr c _ z
   all_goals first
    | (rw[ay (ne2 _ _ q)];exact q)
    | exact q
def Ng(I:Inv X pins σ H s)(hf:d9 X pins H b)(h:X.K.lookup a=some o):a≠b:=by
 rintro rfl;have hb:=I.ok.mod.Wh a o h;rcases hf.2.2.2.1 with z|z
 ·exact I.ok.RF a o hb z
 ·exact absurd (zP (zV (I.ok.bs a o hb).1) z) (qB _)
def Kg(I:Inv X pins σ H s)(hf:d9 X pins H b)(h:dM X.K H a xs):a≠b:=by
 rcases h with (h|⟨o,h⟩)|⟨o,its,n,h,_⟩
 ·exact aF h hf.1
 ·exact aF h hf.1
 ·exact Ng I hf h
def Jd(I:Inv X pins σ H s)(hf:d9 X pins H b)(h:fU X.K H a xs):a≠b:=by
 rcases h with (h|⟨o,h⟩)|⟨o,its,n,h,_⟩
 ·exact aF h hf.1
 ·exact aF h hf.1
 ·exact Ng I hf h
end
def Ox(sq:Hp->List V->Prop):It:=⟨λi H=>∃xs x,sq H xs/\xs[i]?=some x,λi H v H'=>∃T y,v=.ref T/\H T=none/\H'=upd H T (.tup [.int (i:Nat),y])/\∀xs,sq H xs->xs[i]?=some y,λi H=>∃xs,sq H xs/\xs.length<=i⟩
def eE(k:Nat):List D->List D
 | []=>[]
 | d::ds=>.tuple [.int (k:Nat),d]::eE (k+1) ds
def qc:∀ {ds:List D}{k i:Nat}{d:D},(eE k ds)[i]?=some d->∃x,ds[i]?=some x/\d=.tuple [.int ((k+i:Nat):Int),x]
 | [],k,i,d,h=>by simp[eE] at h
 | x::ds,k,0,d,h=>by simp[eE] at h;exact⟨x,rfl,h.symm⟩
 | x::ds,k,i+1,d,h=>by
  simp?[eE,yU] at h;let⟨y,h1,h2⟩:=qc h;refine⟨y,by simpa using h1,?_⟩;rw[h2,show k+1+i=k+(i+1) by lia]
def iO:∀ (ds:List D) (k:Nat),(eE k ds).length=ds.length
 | [],k=>rfl
 | x::ds,k=>by simp[eE,iO ds (k+1)]
def AC{K:W.Frag}(h:sq HF vs)(mo:∀H H',aM H H'->sq H vs->sq H' vs)(r:ar K HF ds vs):nA K (Ox sq) HF (eE 0 ds) where
 go:=λi d QM QA e s1 s2=>by
  let⟨x,hx,rfl⟩:=qc e;rw[qY];let⟨v,hv,rv⟩:=r.getD hx;have q:=mo _ _ s2 (mo _ _ s1 h);refine⟨⟨vs,v,q,hv⟩,λy RL ⟨T,z,e1,hT,e2,hy⟩=>?_⟩;have:=hy vs q;rw[hv] at this;cases this;subst e1 e2;exact⟨_,.new s2 hT,cX (s2.free hT) (ar.cons (by simp[Rep]) (ar.cons (rv.mono s1) ar.nil))⟩
 stop:=λQM QA s1 s2=>⟨vs,mo _ _ s2 (mo _ _ s1 h),by rw[iO,r.length];exact yI _⟩
def Oe(UU UW:Hp->List V->Prop):It:=⟨λi H=>∃xs ys x y,UU H xs/\UW H ys/\xs[i]?=some x/\ys[i]?=some y,
 λi H v H'=>∃T x y,v=.ref T/\H T=none/\H'=upd H T (.tup [x,y])/\(∀xs,UU H xs->xs[i]?=some x)/\∀ys,UW H ys->ys[i]?=some y,
 λi H=>∃xs ys,UU H xs/\UW H ys/\(xs.length<=i\/ys.length<=i)⟩
section
variable {ch:List Addr}
def AJ(I:Inv X pins σ H s)(RA:∀b∈ch,d9 X pins H b)(k:∀b o,b∉ch->s.heap.get? b=some o->h'.get? b=some o):Inv X pins σ H { s with heap:=h',toks:=t' }:=by
 have Sr:∀b o,H b=some o->b∉ch:=λb o e z=>by rw[(RA b z).1] at e;cases e
 refine I.step (g':=s.gens) (d':=s.drawn) (ch:=ch) (λb hb=>?_) (λb o _ _ hc e _=>k b o hc e) (λb o _ _ hc e _=>⟨o.slots,k b o hc e⟩) (λb o _ e n=>n)
  (λb o hc e=>⟨o,k b o hc e⟩) (λb ys e=>e) (λb o u e=>e) (.kept (λb u ⟨q,z⟩ e=>k b u (Sr b _ z) e) λb u e _=>e) (λm hm=>?_) (λb u e=>?_) I.bare
 ·let⟨f0,f1,f2,f3,f4,f5⟩:=RA b hb;exact⟨f3,f1,f4,f5⟩
 ·let⟨o,es,ep,ho,r⟩:=hm;exact⟨o,es,ep,k _ o (λz=>(RA _ z).2.1 rfl) ho,r⟩
 ·refine (I.Qt b u e).QL (λc v hc q=>k c v ?_ q) (λ_ q=>q) λc v q _=>q;rcases hc with z|z
  ·rw[z];exact Sr b u e
  ·exact Sr c _ z
end
structure PR(z TI TO i1 i2:Addr):Prop where
 a1:TI≠z
 a2:TO≠z
 a3:i1≠z
 a4:i2≠z
 a5:TI≠TO
 a6:TI≠i1
 a7:TI≠i2
 a8:TO≠i1
 a9:TO≠i2
 a0:i1≠i2
def mJ:List D->List D->List D
 | x::xs,y::ys=>.tuple [x,y]::mJ xs ys
 | _,_=>[]
def tv:∀ {xs ys:List D}{i:Nat}{d:D},(mJ xs ys)[i]?=some d->∃x y,xs[i]?=some x/\ys[i]?=some y/\d=.tuple [x,y]
 | [],_,i,d,h=>by simp[mJ] at h
 | _::_,[],i,d,h=>by simp[mJ] at h
 | x::xs,y::ys,0,d,h=>by simp[mJ] at h;exact⟨x,y,rfl,rfl,h.symm⟩
 | x::xs,y::ys,i+1,d,h=>by
  simp?[mJ,yU] at h;let⟨a,b,h1,h2,h3⟩:=tv h;exact⟨a,b,by simpa using h1,by simpa using h2,h3⟩
def uH:∀ (xs ys:List D),(mJ xs ys).length=min xs.length ys.length
 | [],_=>by simp[mJ]
 | _::_,[]=>by simp[mJ]
 | x::xs,y::ys=>by simp[mJ,uH xs ys]
def Ct{K:W.Frag}(h1:UU HF vs)(Wv:∀H H',aM H H'->UU H vs->UU H' vs)(h2:UW HF us)(Ww:∀H H',aM H H'->UW H us->UW H' us)(r1:ar K HF xs vs)(r2:ar K HF ys us) :
  nA K (Oe UU UW) HF (mJ xs ys) where
 go:=λi d QM QA e s1 s2=>by
  let⟨x,y,hx,hy,rfl⟩:=tv e;let⟨v,hv,rv⟩:=r1.getD hx;let⟨u,hu,ru⟩:=r2.getD hy;have q1:=Wv _ _ s2 (Wv _ _ s1 h1);have q2:=Ww _ _ s2 (Ww _ _ s1 h2);refine⟨⟨vs,us,v,u,q1,q2,hv,hu⟩,λw RL ⟨T,a,b,e1,hT,e2,ha,hb⟩=>?_⟩;have ea:=ha vs q1;have eb:=hb us q2;rw[hv] at ea;rw[hu] at eb;cases ea;cases eb;subst e1 e2;exact⟨_,.new s2 hT,cX (s2.free hT) (ar.cons (rv.mono s1) (ar.cons (ru.mono s1) ar.nil))⟩
 stop:=λQM QA s1 s2=>⟨vs,us,Wv _ _ s2 (Wv _ _ s1 h1),Ww _ _ s2 (Ww _ _ s1 h2),by rw[uH,r1.length,r2.length];lia⟩
def cut(xs:List α)(lo hi:Option Int):List α:=(xs.drop (HT.bB xs.length 0 lo)).take (HT.bB xs.length xs.length hi - HT.bB xs.length 0 lo)
def mU(xs:List α)(lo hi:Option Int):(cut xs lo hi).length<=xs.length:=by
 unfold cut;rw[jO,qE];lia
def nN{K:W.Frag}(r:ar K H ds vs)(lo hi:Option Int):ar K H (cut ds lo hi) (cut vs lo hi):=by
 unfold cut;rw[r.length];exact (r.drop _).take _
section
def Av{vl:Value}{lo:Option Int}(ht:IsTup s.heap t its)(hs:s.heap.IsSliceOf sl vl vu .none)(pl:IsPart vl lo)(pu:IsPart vu hi)
  (hw:HT.bB its.size 0 lo=0/\HT.bB its.size its.size hi=its.size) (h:Q (.ref t) s):wpAny (model prog w) A (getItem (.ref t) (.ref sl)) Q E s:=by
 let⟨os,Sf,Vi,Sh⟩:=id hs;have Vx:s.TypeIs (.ref sl) "slice":=⟨os,Sf,Vi⟩
 unfold getItem
 try with_reducible refine xU ?_
 first|refine zS (zT ?_)|skip
 refine zS (wpAny_sequenceKey ht.typeIs (by decide) (zS (xZ (name:=Str.ofString "__getitem__") ht.typeIs jA (qQ jA ht.typeIs entry_tuple_getitem ?_ (args_tuple_getitem _ _)))));refine zS (m:=Builtin.Tuple.tupleItemsOf (.ref t)) (tupleItemsOf_ ht (zS (vM Vx ?_)));rw[yH (by decide)];refine zS (HT.gh hs pl pu ?_);show wpAny _ _ (if (((HT.bB its.size 0 lo:Nat):Int) == 0&&(1:Int) == 1&&(HT.bB its.size its.size hi - HT.bB its.size 0 lo) == its.size)=true then _ else _) _ _ s;rw[hw.1,hw.2,yH (by simp)];unfold Builtin.Tuple.tupleIsExact;refine zS (zS (vM ht.typeIs (zT ?_)));rw[yH (by decide)]
 first
  | exact zS (wpAny_rule (zT ⟨_,rfl,zT h⟩))
  | exact zS (wpAny_rule (zS (zT (zT ⟨_,rfl,zT h⟩))))
def Oi(K:W.Frag):V->Option Int->Option Int->Hp->VK->Prop:=λx lo hi H Q=>∃a xs,x=.ref a/\fU K H a xs/\(cut xs lo hi=xs->Q (.ref a) H)/\∀p,H p=none->Q (.ref p) (upd H p (.tup (cut xs lo hi)))
def Lq:GD X (Oi X.K):=by
 intro pins s σ H x v vl vu lo hi sl Q I rx hs pl pu h;let⟨a,xs,rfl,hx,q1,q2⟩:=h;by_cases hw:HT.bB xs.length 0 lo=0/\HT.bB xs.length xs.length hi=xs.length
 ·cases rx;let⟨its,r,ht,hz⟩:=I.tuple hx;have hlen:its.toArray.size=xs.length:=by rw[zH];exact r.length.symm
  refine⟨"tuple",_,PyProof.Rows.slot_tuple_getitem.lookup,ht.typeIs,Av ht hs pl pu (by rw[hlen];exact hw) ⟨.ref a,H,I,rfl,q1 ?_⟩⟩;unfold cut;rw[hw.1,hw.2,List.drop_zero,Nat.sub_zero,List.take_length]
 ·exact J2 pins s σ H (.ref a) v vl vu lo hi sl Q I rx hs pl pu ⟨a,xs,rfl,hx,hw,q2⟩
def Og(K:W.Frag):V->Option Int->Option Int->Hp->VK->Prop:=λx lo hi H Q=>∃a xs,x=.ref a/\dM K H a xs/\∀p,H p=none->Q (.ref p) (upd H p (.lst (cut xs lo hi)))
def vd(lo hi:Option Int)(n:Nat):sliceBounds lo hi none n=(((HT.bB n 0 lo:Nat):Int),((HT.bB n n hi:Nat):Int),1):=by
 have h1:(1:Int) > 0:=by lia
 refine Prod.ext ?_ (Prod.ext ?_ rfl)
 ·cases lo with
  | none=>simp[sliceBounds,HT.bB]
  | some x =>
   by_cases h:x < 0
   ·simp?[sliceBounds,HT.bB,jX,h1,xD,yH h];lia
   ·simp?[sliceBounds,HT.bB,jX,h1,xD,yJ h];lia
 ·cases hi with
  | none=>simp[sliceBounds,HT.bB]
  | some x =>
   by_cases h:x < 0
   ·simp?[sliceBounds,HT.bB,jX,h1,xD,yH h];lia
   ·simp?[sliceBounds,HT.bB,jX,h1,xD,yJ h];lia
def FG:GD X (Og X.K):=by
 intro pins s σ H x v vl vu lo hi sl Q I rx hs pl pu h;let⟨a,xs,rfl,hx,q⟩:=h;cases rx;let⟨its,r,p,hz⟩:=I.list hx;have hlen:=r.length;refine⟨"list",_,slot_list_getitem.lookup,p.isList.typeIs,wpAny_getItem_list_slice p.isList hs pl pu .none (by simp) ?_ (by rw[zH];lia)⟩;rw[W.kmk_pick_nat its.toArray (vd lo hi its.toArray.size)];have e:((its.toArray.toList.drop (HT.bB its.toArray.size 0 lo)).take (HT.bB its.toArray.size its.toArray.size hi - HT.bB its.toArray.size 0 lo))=cut its lo hi:=by unfold cut;simp
 rw[e];have rc:aD (cut xs lo hi) (cut its lo hi):=by unfold cut;rw[hlen];exact (r.drop _).take _
 exact⟨.ref s.heap.objs.size,_,I.SS (t':=s.toks) rc (yA (mU xs lo hi) hz),rfl,q _ I.fresh⟩
def P2(K:W.Frag)(f:Env->Option (Option Int)):TO:=λσ H Q=>∃HF ρ o,aM HF H/\cK K HF ρ σ/\f ρ=some o/\∀H' Qp,bV HF H Qp H'->Q o H'
def DO(X:Cx)(e:Option Expr)(f:Env->Option (Option Int)):Prop:=PO X e (P2 X.K f)
def aJ:Env->Option (Option Int):=λ_=>some none
def gI:D->Option Int|.int i=>some i|_=>none
def cm(f:Env->Option D):Env->Option (Option Int):=λρ=>(f ρ).bind λd=>(gI d).map some
def GL:DO X none aJ:=λpins s σ H Q I ⟨HF,ρ,o,sm,eo,hf,q⟩=>Gz pins s σ H Q I (by cases hf;exact q H HF (.refl sm))
def Fw(h:DE X e f):DO X (some e) (cm f):=λpins s σ H Q I ⟨HF,ρ,o,sm,eo,hf,q⟩=>rN h pins s σ H Q I (by
 let⟨d,hd,hf⟩:=bs hf;let⟨i,hi,rfl⟩:=af hf;cases d<;>try cases hi
 exact⟨HF,ρ,_,sm,eo,hd,λv H1 Qr g1 r1=>⟨_,by simpa only[Rep] using r1,q H1 Qr g1⟩⟩)
variable {lo hi:Option Expr}{fl fh:Env->Option (Option Int)}
def aP(g:D->Option Int->Option Int->Option β)(fa:Env->Option D)(fl fh:Env->Option (Option Int)):Env->Option β:=λρ=>(fa ρ).bind λx=>(fl ρ).bind λl=>(fh ρ).bind λh=>g x l h
end
def nR:∀ {l:List α},(∀x∈l,f x=g x)->l.filterMap f=l.filterMap g
 | [],_=>rfl
 | x::l,h=>by rw[jB,jB,h x zE,nR λy hy=>h y (zC _ hy)]
def sE(xs:List Value):((List.range xs.length).filterMap λ(k:Nat)=>xs.toArray[(((xs.length:Nat):Int) - 1+(k:Int) * (-1)).toNat]?)=xs.reverse:=by
 have e:∀k∈List.range xs.length,xs.toArray[(((xs.length:Nat):Int) - 1+(k:Int) * (-1)).toNat]?=xs.reverse[k]?:=λk hk=>by
  have Sj:k < xs.length:=by simpa using hk
  have:(((xs.length:Nat):Int) - 1+(k:Int) * (-1)).toNat=xs.length - 1 - k:=by lia
  rw[this,vB,List.getElem?_reverse Sj]
 rw[nR e];have:=xs.length_reverse;apply List.ext_getElem?;intro i;have key:∀ (l:List Value),(List.range l.length).filterMap (λ(k:Nat)=>l[k]?)=l:=λl=>by
  induction l with
  | nil=>rfl
  | cons x l ih =>
   rw[zL,kS,jB];simp?[xM];rw[List.filterMap_map]
   congr 1
 have k2:=key xs.reverse;rw[List.length_reverse] at k2;rw[k2]
def Gb{prog:Program}{w:World}{A:Around}{E:Value->Shared->Prop}{s:Shared}{t sl:Addr}{its:List Value}{tk:Tok}{Q:Value->Shared->Prop}(ht:IsTup s.heap t its.toArray)(hs:s.heap.IsSliceOf sl .none .none (.int (-1) tk))
  (hz:its.length<=sizeLine) (h:Q (.ref s.heap.objs.size) { s with heap:=s.heap.push { cls:=.type "tuple",data:=.seq its.reverse.toArray } }):wpAny (model prog w) A (getItem (.ref t) (.ref sl)) Q E s:=by
 let⟨os,Sf,Vi,Sh⟩:=id hs;have Vx:s.TypeIs (.ref sl) "slice":=⟨os,Sf,Vi⟩
 unfold getItem
 try with_reducible refine xU ?_
 first|refine zS (zT ?_)|skip
 refine zS (wpAny_sequenceKey ht.typeIs (by decide) (zS (xZ (name:=Str.ofString "__getitem__") ht.typeIs jA (qQ jA ht.typeIs entry_tuple_getitem ?_ (args_tuple_getitem _ _)))));refine zS (m:=Builtin.Tuple.tupleItemsOf (.ref t)) (tupleItemsOf_ ht (zS (vM Vx ?_)));rw[yH (by decide)];have YW:∀ {R:Int×Int×Nat->Shared->Prop},R (((its.length:Nat):Int) - 1,-1,its.length) s->wpAny (model prog w) A.in1 (Builtin.Slice.sliceApplied (.ref sl) (pure ((its.toArray.size:Nat):Int))) R E s:=λ{R} hR=>by
  unfold Builtin.Slice.sliceApplied Builtin.Slice.sliceFields;refine zS (zS (qP Sf Sh (x:=.none) rfl (zS (qP Sf Sh (x:=.none) rfl (zS (qP Sf Sh (x:=.int (-1) tk) rfl (zT ?_)))))));refine zS (slicePart_int ?_);show wpAny _ _ (if ((-1:Int) == 0)=true then _ else _) _ _ s;rw[yJ (by decide)];refine zS (slicePart_none (zS (slicePart_none (zS (zT ?_)))));have e1:Builtin.Slice.sliceAdjust none none (-1) ((its.toArray.size:Nat):Int)=(((its.length:Nat):Int) - 1,-1):=by simp[Builtin.Slice.sliceAdjust]
  show wpAny _ _ (match Builtin.Slice.sliceAdjust none none (-1) ((its.toArray.size:Nat):Int) with|(lo,hi)=>pure (lo,(-1:Int),Builtin.Slice.slicePlaces lo hi (-1))) _ _ s;rw[e1];have e2:Builtin.Slice.slicePlaces (((its.length:Nat):Int) - 1) (-1) (-1)=its.length:=by
   unfold Builtin.Slice.slicePlaces;rw[yJ (by decide)];simp?[Int.neg_neg,Int.ediv_one];split<;>lia
  show wpAny _ _ (pure (((its.length:Nat):Int) - 1,(-1:Int),Builtin.Slice.slicePlaces (((its.length:Nat):Int) - 1) (-1) (-1))) _ _ s;rw[e2];exact zT hR
 first
  | refine zS (YW ?_)
  | refine zS (wpAny_of_in1 (YW ?_))
 show wpAny _ _ (if ((((its.length:Nat):Int) - 1) == 0&&(-1:Int) == 1&&its.length == its.toArray.size)=true then _ else _) _ _ s;rw[yJ (by simp),sE];have Uo:sizeOk (.seq its.reverse.toArray):=by show its.reverse.toArray.size<=sizeLine;simpa using hz
 first
  | exact zS (m:=Builtin.Tuple.tupleExact _) (qH (zT ⟨_,rfl,zT h⟩) Uo)
  | exact zS (m:=Builtin.Tuple.tupleExact _) (qH (zS (zT (zT ⟨_,rfl,zT h⟩))) Uo)
  | exact zS (zS (m:=Builtin.Tuple.tupleExact _) (qH (zT (zT ⟨_,rfl,zT h⟩)) Uo))
  | exact zS (zS (m:=Builtin.Tuple.tupleExact _) (qH (zT ⟨_,rfl,zT h⟩) Uo))
def JH(ha:PE X a ta):PE X (.Subscript a (.Slice none none (some (.UnaryOp .USub (.Constant (.int 1) j p4) p3)) p2) pos) (λσ H Q=>ta σ H λx H1=>∃b xs,x=.ref b/\fU X.K H1 b xs/\∀p,H1 p=none->Q (.ref p) (upd H1 p (.tup xs.reverse))):=by
 intro pins s σ H Q I h;refine Subscript_ (bg (ha pins s σ H _ I h) λv s1 ⟨x,H1,I1,r1,b,xs,e,hq,q⟩=>?_);subst e;cases r1;refine wpAny_Slice ?_;rw[evalPart_none];refine zT (zT ?_);have RB:=rN (X:=X) (Em (op:=.USub) vq (wM (X:=X) (i:=1) (j:=j) (pos:=p4)) (pos:=p3)) pins s1 σ H1 (λo H'=>o=some (-1)/\H'=H1) I1 ⟨1,rfl,-1,rfl,rfl,rfl⟩;refine bg RB λZY s2 ⟨o,H2,I2,XB,e1,e2⟩=>?_;subst e1 e2;cases XB with
 | int _ tk =>
 let⟨its,r,ht,hz⟩:=I2.tuple hq;have I4:Inv X pins σ H2 { s2 with heap:=s2.heap.push { cls:=.type "slice",data:=.fields #[.none,.none,.int (-1) tk] } }:=I2.kept (t':=s2.toks) λb ob q=>zR _ q;let⟨its',r',UX,_⟩:=I4.tuple hq;refine tail_any (ops:=[.ref b,.ref s2.heap.objs.size]) UX.typeIs PyProof.Rows.slot_tuple_getitem.lookup (Gb UX (Heap.IsSliceOf.new ..) (by rw[<- r'.length];exact hz) ?_) (by with_unfolding_all rfl);have hv:aD xs.reverse its'.reverse:=L2.aD.reverse r';exact⟨.ref _,_,I4.laid (t':=s2.toks) (o:=.tup xs.reverse) (λb ob q=>zR _ q) (yI _) ⟨by rw[List.length_reverse];exact hz,_,hv,mF.new _ _⟩,rfl,q _ I4.fresh⟩
def uR:D->Option D|.tuple ds=>some (.tuple ds.reverse)|_=>none
def f1(g:D->Option D)(f:Env->Option D):Env->Option D:=λρ=>(f ρ).bind g
def IX(ha:DE X a fa):DE X (.Subscript a (.Slice none none (some (.UnaryOp .USub (.Constant (.int 1) j p4) p3)) p2) pos) (f1 uR fa):=aB (JH ha) λσ H Q ⟨HF,ρ,d,sm,eo,hf,q⟩=>by
 let⟨x,hx,hf⟩:=bs hf;refine⟨HF,ρ,x,sm,eo,hx,λv1 H1 Qr g1 r1=>?_⟩;cases x<;>try cases hf
 simp?[Rep] at r1;let⟨b,vs,rfl,hs,rr⟩:=r1;exact⟨b,vs,rfl,av g1.fh hs,λp hp=>q _ _ _ (g1.trans (.new g1.fh hp)) (cX (g1.fh.free hp) rr.reverse)⟩
end Dl
namespace HT
open PySem PyProof.Rows
section
open PySem.SeqAt
open PySem.AutoSeq1 (wpAny_loadPart')
open PySem.MeetsSeq PySem.MeetsSeq2 PySem.MeetsSeq3
end
end HT
namespace Dl
open PySem L2 PySem.Spec PyProof.Rows
def r8:D->Option (List Int)|.tuple ds=>intsOf ds|_=>none
def qw(h:r8 x=some ns):x=.tuple (ns.map PyData.int):=by
 cases x<;>try cases h
 rename_i xs;have h:intsOf xs=some ns:=h;rw[dg h]
end Dl
namespace En
open PySem PyProof.Rows
open AutoSeq1 (wpAny_loadPart')
def R7:fillsNumberSlot (.type "tuple") "mul"=pure false:=PySem.fillsNumberSlot_seq (id:="tuple.__mul__") (r:=some (.builtin "tuple.__rmul__")) F.slot_tuple_mul.lookup (by decide +kernel) F.slot_tuple_rmul.lookup (by decide +kernel)
def R8:seqRepeat? (.type "tuple")=pure (some (.builtin "tuple.__mul__")):=by
 unfold seqRepeat?;rw[PySem.seqSlot_of (T:="tuple") (name:="__mul__") (id:="tuple.__mul__") F.slot_tuple_mul.lookup (by decide +kernel),PySem.seqSlot_of (T:="tuple") (name:="__rmul__") (id:="tuple.__rmul__") F.slot_tuple_rmul.lookup (by decide +kernel)];rfl
def Ti(a:Int)(t:Tok)(l:Addr)(its:Array Value)(n:Nat)(dd:Option Addr)(sl:Array (Option Value)) :
  Meets (Builtin.«int.__rmul__» ⟨[.int a t,.ref l],[]⟩) (λ_ R s=>s.heap.get? l=some { cls:=.type "tuple",dict:=dd,data:=.seq its n,slots:=sl }/\R (.ok (.ret Value.notImplemented)) s) :=
 .of_wp λprog w A R s h=>by
  let⟨hp,g,d,tk,os⟩:=s;let⟨hl,h⟩:=h
  wp_walk
  exact⟨_,rfl,h⟩
def Sy(l:Addr)(its:Array Value)(n:Nat)(dd:Option Addr)(sl:Array (Option Value))(k:Int)(t:Tok)(h1:¬ (decide (k < -(2 ^ 63))||decide (k >= 2 ^ 63))=true)(h2:(its.isEmpty||k == 1)=true) :
  Meets (Builtin.«tuple.__mul__» ⟨[.ref l,.int k t],[]⟩) (λ_ R s=>s.heap.get? l=some { cls:=.type "tuple",dict:=dd,data:=.seq its n,slots:=sl }/\R (.ok (.ret (.ref l))) s) :=
 .of_wp λprog w A R s h=>by
  let⟨hp,g,d,tk,os⟩:=s;let⟨hl,h⟩:=h;have f1:=AutoSeq1.idx_int
  wp_walk using wpAny_loadPart' hl
  rw[yJ h1]
  wp_walk using wpAny_loadPart' hl
  exact⟨_,rfl,h⟩
def Sz(l:Addr)(its:Array Value)(n:Nat)(dd:Option Addr)(sl:Array (Option Value))(k:Int)(t:Tok)(h1:¬ (decide (k < -(2 ^ 63))||decide (k >= 2 ^ 63))=true)(h2:¬ (its.isEmpty||k == 1)=true)(h3:(decide (k<=0)||its.isEmpty)=true) :
  Meets (Builtin.«tuple.__mul__» ⟨[.ref l,.int k t],[]⟩) (λ_ R s=>s.heap.get? l=some { cls:=.type "tuple",dict:=dd,data:=.seq its n,slots:=sl }/\R (.ok (.ret (.ref s.heap.objs.size))) { s with heap:=s.heap.push { cls:=.type "tuple",data:=.seq #[] } }) :=
 .of_wp λprog w A R s h=>by
  let⟨hp,g,d,tk,os⟩:=s;let⟨hl,h⟩:=h;have f1:=AutoSeq1.idx_int
  wp_walk using wpAny_loadPart' hl
  rw[yJ h1]
  wp_walk using wpAny_loadPart' hl
  exact⟨_,rfl,h⟩
def SD(l:Addr)(its:Array Value)(n:Nat)(dd:Option Addr)(sl:Array (Option Value))(k:Int)(t:Tok)(h1:¬ (decide (k < -(2 ^ 63))||decide (k >= 2 ^ 63))=true)(h2:¬ (its.isEmpty||k == 1)=true)(h3:¬ (decide (k<=0)||its.isEmpty)=true)
  (h4:¬ ((its.size:Nat):Int) * k > (2 ^ 63 - 1) / 8) (h5:¬ Builtin.Tuple.tupleTooMany (((its.size:Nat):Int) * k)=true) (hz:((List.replicate k.toNat its).foldl (·++·) #[]).size<=sizeLine) :
  Meets (Builtin.«tuple.__mul__» ⟨[.ref l,.int k t],[]⟩) (λ_ R s=>s.heap.get? l=some { cls:=.type "tuple",dict:=dd,data:=.seq its n,slots:=sl }/\R (.ok (.ret (.ref s.heap.objs.size))) { s with heap:=s.heap.push { cls:=.type "tuple",data:=.seq ((List.replicate k.toNat its).foldl (·++·) #[]) } }) :=
 .of_wp λprog w A R s h=>by
  let⟨hp,g,d,tk,os⟩:=s;let⟨hl,h⟩:=h;have f1:=AutoSeq1.idx_int
  wp_walk using wpAny_loadPart' hl
  rw[yJ h1]
  wp_walk using wpAny_loadPart' hl
  rw[yJ h4]
  wp_walk using wpAny_loadPart' hl
  exact⟨_,rfl,h⟩
end En
namespace Dl
open PySem L2 PySem.Spec PyProof.Rows
def II(K:W.Frag):R2:=λx y H Q=>∃a k xs,x=.ref a/\y=.int k/\fU K H a xs/\-(2 ^ 62)<=k/\k < 2 ^ 62/\xs.length * k.toNat<=sizeLine/\((List.replicate k.toNat xs).flatten=xs->Q (.ref a) H) /\
 ∀p,H p=none->Q (.ref p) (upd H p (.tup (List.replicate k.toNat xs).flatten))
def HD:eZ X (binaryOp .Mult) (II X.K):=by
 intro pins s σ H x y v u Q I rx ry h;let⟨a,k,xs,rfl,rfl,hq,k1,k2,hz,q1,q2⟩:=h;cases rx;let⟨t,rfl⟩:=ry;let⟨its,r,pl,hzx⟩:=I.tuple hq;have hl:=r.length;let⟨⟨cls,dd,data,sl⟩,ho,hc,n,hd⟩:=id pl;simp only at hc hd;subst hc hd;have b1:¬ (decide (k < -(2 ^ 63))||decide (k >= 2 ^ 63))=true:=by
  simp?[qV,zJ];lia
 refine wpAny_binaryOp_repeat_ref (T:="tuple") (U:="int") (by decide) ⟨_,ho,rfl⟩ (λs'=>vI s' k t) En.R7 F.fills_int_mul vA En.R8 F.slot_int_index.lookup
  (qS vA (vI s k t) F.entry_int_rmul (F.args_int_rmul_2 _ _) (En.Ti k t a its.toArray n dd sl) ⟨ho,rfl,⟨_,ho,rfl⟩,?_⟩)
 have QV:∀m:Nat,List.foldl (λx1 x2=>x1++x2) #[] (List.replicate m its.toArray)=(List.replicate m its).flatten.toArray:=λm=>by
  have:=foldl_rep its m [];rw[xJ] at this;exact this
 by_cases h2:(its.toArray.isEmpty||k == 1)=true
 ·refine qS F.slot_tuple_mul ⟨_,ho,rfl⟩ vR (vJ _ _) (En.Sy a its.toArray n dd sl k t b1 h2) ⟨ho,⟨.ref a,H,I,rfl,q1 ?_⟩⟩;rw[qV] at h2;rcases h2 with h2|h2
  ·have:xs=[]:=by
    have e:its=[]:=by simpa using h2
    rw[e] at hl;exact List.length_eq_zero_iff.mp hl
   rw[this];simp
  ·have:k=1:=eq_of_beq h2;subst this;simp
 ·by_cases h3:(decide (k<=0)||its.toArray.isEmpty)=true
  ·refine qS F.slot_tuple_mul ⟨_,ho,rfl⟩ vR (vJ _ _) (En.Sz a its.toArray n dd sl k t b1 h2 h3) ⟨ho,?_⟩;have XC:k.toNat=0:=by
    simp?[qV,zJ] at h3 h2;rcases h3 with h3|h3
    ·lia
    ·exact absurd (.inl h3) h2
   have q3:=q2 s.heap.objs.size I.fresh;rw[XC] at q3;exact⟨.ref s.heap.objs.size,_,I.laid (t':=s.toks) (o:=.tup []) (λb ob q=>zR _ q) (yI _) ⟨xR _,[],.nil,mF.new _ _⟩,rfl,q3⟩
  ·have hm:its.length * k.toNat<=sizeLine:=by rw[<- hl];exact hz
   have ZZ:(k.toNat:Int)=k:=by
    simp?[qV,zJ,not_or] at h3;lia
   have SK:((its.toArray.size:Nat):Int) * k=((its.length * k.toNat:Nat):Int):=by rw[zH,Int.natCast_mul,ZZ]
   have hv:=L2.aD.rep r k.toNat;have Uq:(List.replicate k.toNat xs).flatten.length<=sizeLine:=by rw[len_rep,Nat.mul_comm];exact hz
   have hs8:(sizeLine:Nat)<=(2 ^ 63 - 1) / 8:=by decide
   have h4:¬ ((its.toArray.size:Nat):Int) * k > (2 ^ 63 - 1) / 8:=by rw[SK];lia
   have h5:¬ Builtin.Tuple.tupleTooMany (((its.toArray.size:Nat):Int) * k)=true:=by
    unfold Builtin.Tuple.tupleTooMany;rw[SK];simp?[zJ];lia
   refine qS F.slot_tuple_mul ⟨_,ho,rfl⟩ vR (vJ _ _) (En.SD a its.toArray n dd sl k t b1 h2 h3 h4 h5 (by rw[QV,zH,<- hv.length];exact Uq)) ⟨ho,?_⟩;rw[QV];exact⟨.ref s.heap.objs.size,_,I.laid (t':=s.toks) (o:=.tup (List.replicate k.toNat xs).flatten) (λb ob q=>zR _ q) (yI _) ⟨Uq,_,hv,mF.new _ _⟩,rfl,q2 _ I.fresh⟩
def DZ:D->D->Option D
 | .tuple ds,.int k=>if Bi k=true/\ds.length * k.toNat<=sizeLine then some (.tuple (List.replicate k.toNat ds).flatten) else none
 | _,_=>none
def lb{K:W.Frag}(r:ar K HF ds vs):∀k:Nat,ar K HF (List.replicate k ds).flatten (List.replicate k vs).flatten
 | 0=>ar.nil
 | k+1=>by rw[xA,xA,qJ,qJ];exact r.append (lb r k)
def CV{K:W.Frag}:dP K (II K) DZ:=by
 intro HF H x y v1 v2 d Q sm r1 r2 hg q;cases x<;>cases y<;>simp?[DZ] at hg<;>try cases hg
 split at hg
 ·rename_i xs k hh;cases hg;simp?[Rep] at r1 r2;let⟨a,vs,rfl,ha,ra⟩:=r1;have ok:=hh.1;unfold Bi at ok;rw[zF] at ok;refine⟨a,k,vs,rfl,r2,av sm ha,yM ok.1,yM ok.2,by rw[ra.length];exact hh.2,λe=>q _ H HF (.refl sm) ?_,λp hp=>q _ _ _ (.new sm hp) (cX (sm.free hp) (lb ra _))⟩;simp?[Rep];refine⟨a,vs,rfl,ha,?_⟩;have:=lb ra k.toNat;rw[e] at this;exact this
 ·cases hg
end Dl
namespace En
open PySem PyProof.Rows
def SE(hh:A.handled=none)(hl:s.heap.IsTuple l its)(hi:IntsAre its.toList ns)(hb:its.size+1 < scanBound)
  (h:∀ (h':Heap) (tk:Nat),h'.SetOf (intKind prog w) s.heap.objs.size (λk'=>(firstMet (λi=>ns.getD i 0) its.size).any (· == k')) (firstMet (λi=>ns.getD i 0) its.size).length->(∀b o,b < s.heap.objs.size->s.heap.get? b=some o->h'.get? b=some o)->Q (.ref s.heap.objs.size) { s with heap:=h',toks:=tk }) :
  wpAny (model prog w) A (call (.type "set") [.ref l]) Q E s:=by
 let⟨c,tl,Z0⟩:=F.called_set.mro;have YX:=F.called_set.made;have VN:=F.called_set.sub;refine wpAny_call (codeAny_of_tree ?_);show wpAny _ _ (callAny (.type "set") _) _ _ _;refine zT ⟨vK _ (by decide +kernel),jS F.entry_type_call ?_⟩;rw[Around.under_plain (weight_type_call_type "set" [.ref l] []) rfl];have h1:=F.called_set.notType;have h2:=F.called_set.canCreate;have hct:=F.typeCall_set_1 (.ref l)
 repeat (any_goals (first|assumption|wp_step))
 refine jK (code_set_new_1 (.ref l) (E:=E) (Q₁:=λobj s1=>∃led:Bool,obj=.ref s.heap.objs.size/\s1={ s with heap:=s.heap.push { cls:=.type "set",dict:=none,data:=.set #[] 0 (.fresh 0 0 led) } }) λled=>⟨led,rfl,rfl⟩) λr s1 hr=>?_;cases r with
 | error e=>exact hr
 | ok fl =>
  cases fl with
  | ret obj =>
   let⟨led,rfl,rfl⟩:=hr;have hS:(s.heap.push { cls:=.type "set",dict:=none,data:=.set #[] 0 (.fresh 0 0 led) }).get? s.heap.objs.size=some { cls:=.type "set",dict:=none,data:=.set #[] 0 (.fresh 0 0 led) }:=by exact zU _ rfl
   have hT:Shared.TypeIs { s with heap:=s.heap.push { cls:=.type "set",dict:=none,data:=.set #[] 0 (.fresh 0 0 led) } } (.ref s.heap.objs.size) "set":=⟨_,hS,rfl⟩
   have hli:=F.called_set.init.lookup;have hbi:=F.called_set.init.bind (.ref s.heap.objs.size)
   repeat (any_goals (first|assumption|wp_step))
   refine jK (vE (R:=wants (λr s2=>r=.none/\∃h' tk,s2={ s with heap:=h',toks:=tk }/\h'.SetOf (intKind prog w) s.heap.objs.size (λk'=>(firstMet (λi=>ns.getD i 0) its.size).any (· == k')) (firstMet (λi=>ns.getD i 0) its.size).length /\
     (∀b o,b < s.heap.objs.size->s.heap.get? b=some o->h'.get? b=some o)) E) F.called_set.init.plain F.entry_set_init (check_set_init_1 hT ?_)) λr2 s2 UY=>?_
   ·let⟨ol,YY,Q5,nl,YZ⟩:=hl;let⟨Z6,VO,Y0,UZ⟩:=ol;simp only at Q5 YZ;subst Q5 YZ;have VP:(s.heap.push { cls:=.type "set",dict:=none,data:=.set #[] 0 (.fresh 0 0 led) }).get? l=some { cls:=.type "tuple",dict:=VO,data:=.seq its nl,slots:=UZ }:=zR _ YY;have Z7:=F.sub_tuple_set;have Z8:=F.sub_tuple_frozenset;have QS:(Value.type "tuple" == Value.type "dict")=false:=by decide
    have XA:(s.heap.push { cls:=.type "set",dict:=none,data:=.set #[] 0 (.fresh 0 0 led) }).IsTuple l its:=⟨_,VP,rfl,nl,rfl⟩
    unfold Builtin.«set.__init__» noKeywords Builtin.Frozenset.updateFrom;generalize Z9:pyIter=PI
    wp_walk
    subst Z9;refine xO XA (zS (wpAny_runValue ?_));have Y1:l < s.heap.objs.size:=zV YY;have hh3:A.in1.in1.in1.handled=none:=by simp[hh]
    have XD:l≠(s.heap.push { cls:=.type "set",dict:=none,data:=.set #[] 0 (.fresh 0 0 led) }).objs.size:=by rw[xF];exact yN (jH Y1)
    have hSf:s.heap.objs.size∉[(s.heap.push { cls:=.type "set",dict:=none,data:=.set #[] 0 (.fresh 0 0 led) }).objs.size,l]:=by
     rw[xF];simp?[zQ,yC,xQ,not_or];exact⟨yN (jY _),jC Y1⟩
    have XF:∀ (i:Nat) (v:Value),its[i]?=some v->∃t,v=.int ((λi=>ns.getD i 0) i) t:=λi v hv=>IntsAre.int_at hi i v (by rw[Array.getElem?_toList];exact hv);refine codeAny_set_update_loopS ((Walks.tuple hh3 _ l XD its).toS) s.heap.objs.size hSf (λi=>ns.getD i 0) XF hb (its.size - 0) 0 _ (by lia) (xR _) ⟨⟨_,zU _ rfl,rfl,rfl⟩,?ht⟩ ?hS0 ?hR
    case ht=>exact⟨_,zR _ VP,rfl,nl,rfl⟩
    case hS0 =>
     have XG:((s.heap.push { cls:=.type "set",dict:=none,data:=.set #[] 0 (.fresh 0 0 led) }).push { cls:=.type "tuple_iterator",data:=.fields #[.ref l,.int 0 0] }).get? s.heap.objs.size=some { cls:=.type "set",dict:=none,data:=.set #[] 0 (.fresh 0 0 led) }:=by exact zR _ hS
     exact SetOf_congr ((setObjOf_fresh (knd:=intKind prog w) led).setOf XG (by unfold scanBound;lia)) (λ_=>rfl) rfl
    case hR =>
     intro s' hm XH;let⟨h',g',d',tk',WU⟩:=s';have eg:g'=s.gens:=hm.gens;have ed:d'=s.drawn:=hm.drawn;have eo:WU=s.os:=hm.os;subst eg ed eo;show wpAny _ _ _ _ _ _;refine zT ?_;show wpAny _ _ (ret Value.none) _ _ _;refine zT ⟨rfl,h',tk',rfl,XH,λb o RN e=>?_⟩;refine hm.heap b o ?_ (zR _ (zR _ e));simp?[zQ,yC,xQ,not_or];exact⟨yN RN,by rw[xF];exact yN (jH RN)⟩
   ·cases r2 with
    | error e=>exact UY
    | ok fl2 =>
     cases fl2 with
     | ret r =>
      let⟨rfl,h',tk,rfl,XH,Sj⟩:=UY
      repeat (any_goals (first|assumption|wp_step))
      exact h _ _ XH Sj
     | _=>exact UY.elim
  | _=>exact hr.elim
end En
namespace Dl
open PySem L2 PySem.Spec PyProof.Rows
variable {env:PySem.Env}
def many(ns:List Int):Nat:=(firstMet (λi=>ns.getD i 0) ns.length).length
def Br(hc:X.calm=true):dc X (.type "set") (λxs H Q=>∃ (a:Addr) (ns:List Int),xs=[.ref a]/\fU X.K H a (ns.map V.int)/\ns.length+1 < scanBound/\∀q S,H q=none->Q (.ref q) (upd H q (.set S (many ns)))):=by
 intro pins s σ H xs us Q I r h;let⟨a,ns,rfl,hq,hb,q⟩:=h;let⟨u,rfl,rx⟩:=vals1 r;cases rx;let⟨its,rv,pl,hz⟩:=I.tuple hq;have hi:IntsAre its.toArray.toList ns:=intsAre_of rv;have hlen:its.toArray.size=ns.length:=by have:=rv.length;simpa using this.symm
 refine En.SE (I.ok.hd hc) (show s.heap.IsTuple a its.toArray from pl) hi (by rw[hlen];exact hb) λh' tk hS hk=>?_;rw[hlen] at hS;exact⟨.ref s.heap.objs.size,_,I.laid (t':=tk) (λb o e=>hk b o (zV e) e) (yI _) (show dI X.prog X.w _ h' _ (.set _ (many ns)) from hS),rfl,q _ _ I.fresh⟩
def Bp:dc X (.builtin "len") (λxs H Q=>∃ (a:Addr) (S:Int->Bool) (n:Nat),xs=[.ref a]/\H a=some (.set S n)/\Q (.int n) H):=by
 intro pins s σ H xs us Q I r h;let⟨a,S,n,rfl,hq,q⟩:=h;let⟨u,rfl,rx⟩:=vals1 r;cases rx;let⟨o,es,ep,t,ho,hex,hd,hel,VM,QW,hf,hn⟩:=(show s.heap.SetOf (intKind X.prog X.w) a S n from I.Qt a _ hq)
 have SW:((es.size:Nat):Int) < 2 ^ 63:=by unfold scanBound at QW;lia
 refine call_len_set ho hex hd hf SW ⟨.int n,H,I.tok _,⟨s.toks+1,by rw[hn]⟩,q⟩
def iX:D->Option D:=λd=>(r8 d).bind λns=>if ns.length+1 < scanBound then some (.int (many ns)) else none
def Bs(hc:X.calm=true)(B:l7 X "len" (.builtin "len"))(C:l7 X "set" (.type "set"))(h:DE X e f)(he:starEach [e] X.env=(false,eval e X.env)::starEach [] X.env:=by rfl) :
  DE X (.Call (.Name "len" p) [.Call (.Name "set" p') [e] [] pos'] [] pos) (f1 iX f) :=
 aB (ly Bp B.gl B.mg B.bt (aW (iZ (Br hc) C.gl C.mg C.bt (aW h cy he) (by decide) (by decide) he rfl) cy) (by decide) (by decide) rfl rfl) λσ H Q ⟨HF,ρ,d,sm,eo,hf,q⟩=>by
  let⟨x,hx,hf⟩:=bs hf;let⟨ns,h1,hf⟩:=bs hf;split at hf
  ·rename_i hb;cases hf;refine⟨HF,ρ,x,sm,eo,hx,λv1 H1 Qr g1 r1=>?_⟩;rw[qw h1] at r1;simp?[Rep] at r1;let⟨a,vs,rfl,hs,rr⟩:=r1;have key:∀ {ns:List Int}{ws:List V},ar X.K Qr (ns.map PyData.int) ws->ws=ns.map V.int:=λ{ns}=>by
    induction ns with
    | nil=>exactλh=>h.nil_inv
    | cons n ns ih =>
     intro ws h;let⟨v,r,rfl,a,b⟩:=h.cons_inv;simp?[Rep] at a;rw[a,ih b];rfl
   have:=key rr;subst this;refine⟨a,ns,rfl,av g1.fh hs,hb,λb S RN=>⟨b,S,_,rfl,aC,q _ _ Qr (g1.trans (.own g1.fh RN)) (by simp[Rep])⟩⟩
  ·cases hf
def iK(val:Nat->Int):∀i,(firstMet val i).length=i↔((List.range i).map val).Nodup
 | 0=>by simp[firstMet]
 | i+1=>by
  have hle:=firstMet_length_le val i;rw[firstMet_succ,step_length,List.range_succ,qU,List.nodup_append];have ha:=firstMet_any val i (val i);have ih:=iK val i;constructor
  ·intro h;by_cases So:(firstMet val i).any (· == val i)=true
   ·rw[yH So] at h;lia
   ·rw[yJ So] at h;refine⟨ih.mp (by lia),by simp,λa hm b hb z=>?_⟩;have RN:b=val i:=by simpa using hb
    subst z RN;rw[ha] at So;exact So (List.any_eq_true.mpr ⟨_,hm,by simp⟩)
  ·rintro⟨h1,_,h3⟩;rw[yJ ?_]
   ·rw[ih.mpr h1]
   ·rw[ha];intro So;let⟨x,hx,he⟩:=List.any_eq_true.mp So;have TZ:x=val i:=by simpa using he
    exact h3 x hx (val i) (by simp) TZ
def w8(ns:List Int):many ns=ns.length↔ns.Nodup:=by
 unfold many;rw[iK];have:(List.range ns.length).map (λi=>ns.getD i 0)=ns:=iG ns 0;rw[this]
def u3{K:W.Frag}(h:dP K r g)(h':dP K r' g'):dP K (λx y H Q=>r x y H Q\/r' x y H Q) (λx y=>(g x y).or (g' x y)):=by
 intro HF H x y v1 v2 d Q sm r1 r2 hg q;cases e:g x y with
 | some d' =>
  have hg:(g x y).or (g' x y)=some d:=hg;rw[e] at hg;cases hg;exact .inl (h HF H x y v1 v2 d Q sm r1 r2 e q)
 | none =>
  have hg:(g x y).or (g' x y)=some d:=hg;rw[e] at hg;exact .inr (h' HF H x y v1 v2 d Q sm r1 r2 hg q)
def AO{K:W.Frag}:dP K (CL K) (λx y=>(b8 x y).map PyData.list):=by
 intro HF H x y v1 v2 d Q sm r1 r2 hg q;let⟨zs,VQ,rfl⟩:=af hg;clear hg;cases x<;>cases y<;>simp?[b8] at VQ<;>try cases VQ
 let⟨rfl,hz⟩:=dE VQ;simp?[Rep] at r1 r2;let⟨a,vs,rfl,ha,ra⟩:=r1;let⟨b,us,rfl,hb,rb⟩:=r2;refine⟨a,b,vs,us,rfl,rfl,sm.seq ha,sm.seq hb,by rw[ra.length,rb.length,<- zN];exact hz,λp hp=>q _ _ _ (.new sm hp) ?_⟩;simp?[Rep];exact⟨p,_,rfl,.inl (.inl aC),(ra.append rb).mono (cI (sm.free hp))⟩
def aK:D->D->Option D:=λx y=>((sx (λ_ _=>True) λi j=>.int (i+j)) x y).or ((Hu x y).or ((b8 x y).map PyData.list))
def Bk.add(C:Bk X N sc k)(ha:DE X a fa)(hb:DE X b fb):DE X (.BinOp a .Add b pos) (f2 aK fa fb):=pV (Kq.or (AY.or uT)) (u3 B0 (u3 Hr AO)) ha hb
def mO:D->D->Option D:=sx (λ_ _=>True) λi j=>.int (i - j)
def Bk.sub(C:Bk X N sc k)(ha:DE X a fa)(hb:DE X b fb):DE X (.BinOp a .Sub b pos) (f2 mO fa fb):=pV Jg B0 ha hb
def i8:D->D->Option D:=λx y=>((sx rQ λi j=>.int (i * j)) x y).or (DZ x y)
def Bk.mul(C:Bk X N sc k)(ha:DE X a fa)(hb:DE X b fb):DE X (.BinOp a .Mult b pos) (f2 i8 fa fb):=pV (Jc.or HD) (u3 Di CV) ha hb
def lG:D->D->Option D:=sx F5 λi j=>.int (i / j)
def Bk.div(C:Bk X N sc k)(ha:DE X a fa)(hb:DE X b fb):DE X (.BinOp a .FloorDiv b pos) (f2 lG fa fb):=pV Hy Di ha hb
def jm:D->D->Option D:=sx (λ_ j=>0 < j) λi j=>.int (i % j)
def Bk.mod(C:Bk X N sc k)(ha:DE X a fa)(hb:DE X b fb):DE X (.BinOp a .Mod b pos) (f2 jm fa fb):=pV Jw Di ha hb
def tm:D->D->Option D:=sx (λ_ _=>True) λi j=>.bool (decide (i < j))
def ER:D->D->Option D:=sx (λ_ _=>True) λi j=>.bool (decide (i<=j))
def KJ:D->D->Option D:=sx (λ_ _=>True) λi j=>.bool (decide (j < i))
def cc:D->D->Option D:=λx y=>(GN x y).map PyData.bool
def cS:D->D->Option D:=λx y=>(HU x y).map PyData.bool
def JD:D->D->Option D:=λx y=>(Ou x y).map PyData.bool
def Bk.Wx(C:Bk X N sc k):X.A.units+64 < cLine:=C.room.units
def Bk.VR(C:Bk X N sc k):X.A.units+66 < cLine:=by have:=C.room.un;lia
def Bk.lt(C:Bk X N sc k)(ha:DE X a fa)(hb:DE X b fb):DE X (.Compare a [.Lt] [b] pos) (f2 tm fa fb):=eS Er iF ha hb (dq _)
def Bk.le(C:Bk X N sc k)(ha:DE X a fa)(hb:DE X b fb):DE X (.Compare a [.LtE] [b] pos) (f2 ER fa fb):=eS BP iF ha hb (dq _)
def Bk.gt(C:Bk X N sc k)(ha:DE X a fa)(hb:DE X b fb):DE X (.Compare a [.Gt] [b] pos) (f2 KJ fa fb):=eS Ih iF ha hb (dq _)
def Bk.eq(C:Bk X N sc k)(ha:DE X a fa)(hb:DE X b fb):DE X (.Compare a [.Eq] [b] pos) (f2 cc fa fb):=eS (wy C.Wx) dY ha hb (dq _)
def Bk.ne(C:Bk X N sc k)(ha:DE X a fa)(hb:DE X b fb):DE X (.Compare a [.NotEq] [b] pos) (f2 cS fa fb):=eS (EX C.Wx) dY ha hb (dq _)
def Bk.isin(C:Bk X N sc k)(ha:DE X a fa)(hb:DE X b fb)(hm:behindInMarks .In b=false:=by rfl):DE X (.Compare a [.In] [b] pos) (f2 JD fa fb):=eS (C6 C.VR) dY ha hb hm
def Bk.tlt(C:Bk X N sc k)(ha:DE X a fa)(hb:DE X b fb):DT X (.Compare a [.Lt] [b] pos) (fB (f2 tm fa fb)):=eH Er iF ha hb (dq _)
def Bk.tle(C:Bk X N sc k)(ha:DE X a fa)(hb:DE X b fb):DT X (.Compare a [.LtE] [b] pos) (fB (f2 ER fa fb)):=eH BP iF ha hb (dq _)
def Bk.tgt(C:Bk X N sc k)(ha:DE X a fa)(hb:DE X b fb):DT X (.Compare a [.Gt] [b] pos) (fB (f2 KJ fa fb)):=eH Ih iF ha hb (dq _)
def Bk.teq(C:Bk X N sc k)(ha:DE X a fa)(hb:DE X b fb):DT X (.Compare a [.Eq] [b] pos) (fB (f2 cc fa fb)):=eH (wy C.Wx) dY ha hb (dq _)
def Bk.tne(C:Bk X N sc k)(ha:DE X a fa)(hb:DE X b fb):DT X (.Compare a [.NotEq] [b] pos) (fB (f2 cS fa fb)):=eH (EX C.Wx) dY ha hb (dq _)
def Bk.tin(C:Bk X N sc k)(ha:DE X a fa)(hb:DE X b fb)(hm:behindInMarks .In b=false:=by rfl):DT X (.Compare a [.In] [b] pos) (fB (f2 JD fa fb)):=eH (C6 C.VR) dY ha hb hm
def aI:D->Option Int->Option Int->Option D|.tuple ds,lo,hi=>some (.tuple (cut ds lo hi))|.list ds,lo,hi=>some (.list (cut ds lo hi))|_,_,_=>none
def Bk.cut(C:Bk X N sc k){lo:Option Expr}{fl:Env->Option (Option Int)}(ha:DE X a fa)(hl:DO X lo fl)(hh:DO X hi fh):DE X (.Subscript a (.Slice lo hi none p2) pos) (aP aI fa fl fh):=aB (ug (Lq.or FG) ha hl hh) λσ H Q ⟨HF,ρ,d,sm,eo,hf,q⟩=>by
 let⟨x,hx,hf⟩:=bs hf;let⟨l,hl,hf⟩:=bs hf;let⟨u,hu,hf⟩:=bs hf;refine⟨HF,ρ,x,sm,eo,hx,λv1 H1 Qr g1 r1=>⟨Qr,ρ,l,g1.fh,eo.mono g1.ff,hl,λH2 QC g2=>⟨QC,ρ,u,g2.fh,eo.mono (g1.ff.trans g2.ff),hu,λH3 QN g3=>?_⟩⟩⟩;have G:=(g1.trans g2).trans g3;have r3:=r1.mono (g2.ff.trans g3.ff);cases x<;>try cases hf
 ·simp?[Rep] at r3;let⟨b,vs,rfl,hs,rr⟩:=r3;refine .inr ⟨b,vs,rfl,G.fh.seq hs,λp hp=>q _ _ _ (G.trans (.new G.fh hp)) ?_⟩;simp?[Rep];exact⟨p,_,rfl,.inl (.inl aC),(nN rr l u).mono (cI (G.fh.free hp))⟩
 ·simp?[Rep] at r3;let⟨b,vs,rfl,hs,rr⟩:=r3;refine .inl ⟨b,vs,rfl,av G.fh hs,λe=>q _ H3 QN G ?_,λp hp=>q _ _ _ (G.trans (.new G.fh hp)) (cX (G.fh.free hp) (nN rr l u))⟩;simp?[Rep];refine⟨b,vs,rfl,hs,?_⟩;have:=nN rr l u;rw[e] at this;exact this
def gx:D->Option D|.int i=>some (.int (-i))|_=>none
def Bk.neg(C:Bk X N sc k)(ha:DE X a fa):DE X (.UnaryOp .USub a pos) (f1 gx fa):=aB (Em vq ha) λσ H Q ⟨HF,ρ,d,sm,eo,hf,q⟩=>by
 let⟨x,hx,hf⟩:=bs hf;refine⟨HF,ρ,x,sm,eo,hx,λv1 H1 Qr g1 r1=>?_⟩;cases x<;>try cases hf
 exact⟨_,by simpa only[Rep] using r1,q _ H1 Qr g1 (by simp[Rep])⟩
def wR:bootBuiltins "len"=some (.builtin "len"):=by decide +kernel
def oY:bootBuiltins "isinstance"=some (.builtin "isinstance"):=by decide +kernel
def Kc:bootBuiltins "int"=some (.type "int"):=by decide +kernel
def oM:bootBuiltins "tuple"=some (.type "tuple"):=by decide +kernel
def Ga:bootBuiltins "list"=some (.type "list"):=by decide +kernel
def EB:bootBuiltins "range"=some (.type "range"):=by decide +kernel
def KP:bootBuiltins "all"=some (.builtin "all"):=by decide +kernel
def JV:bootBuiltins "set"=some (.type "set"):=by decide +kernel
def Bg:bootBuiltins "sorted"=some (.builtin "sorted"):=by decide +kernel
def sj:bootBuiltins "enumerate"=some (.type "enumerate"):=by decide +kernel
def JG:bootBuiltins "zip"=some (.type "zip"):=by decide +kernel
abbrev bI(f:Env->Option (List D)):Env->Option D:=λρ=>(f ρ).map PyData.list
abbrev aU:List D->Option D:=λds=>(cf ds).map PyData.tuple
def Bk.VS(C:Bk X N sc k)(h:decide (sc.names.lookup x=some .local)=true):X.env.scope.names.lookup x=some .local:=by
 rcases C.tb x _ (yM h) with q|⟨q,_⟩
 ·exact q
 ·cases q
def isStar:Expr->Bool|.Starred ..=>true|_=>false
def aO(h:isStar e=false):starEach (e::es) env=(false,eval e env)::starEach es env:=by
 cases e<;>first|rfl|cases h
def Kp(he:DE X e f)(hs:DA X es g)(h:isStar e=false:=by rfl):DA X (e::es) (aa f g):=GK he hs (aO h)
def oH:swapsWith (.ListComp elt gens scope pos) (some (.Name x py)) line env=pure (env.blockKind == .function&&env.kindOf x == some .local && py.line == pos.line
     &&!(scope.names.any λ(n,k)=>n == x&&(k == .local || k == .cell))):=rfl
def HP(h:env.scope.kind=.function):env.blockKind=.function:=by unfold PySem.Env.blockKind;rw[h];rfl
def Bk.swap(C:Bk X N sc k)(h:decide (sc.names.lookup x=some .local)=true)(h2:(py.line == pos.line&&!(scope.names.any λ(n,k)=>n == x&&(k == .local || k == .cell)))=true) :
  swapsWith (.ListComp elt gens scope pos) (some (.Name x py)) line X.env=pure true:=by
 rw[oH,HP C.kd,show X.env.kindOf x=some .local from C.VS h];rw[Bool.and_assoc,h2];rfl
def Bk.U0(C:Bk X N sc k)(h:decide (sc.names.lookup x=some .cell)=true) :
  swapsWith (.ListComp elt gens scope pos) (some (.Name x py)) line X.env=pure false:=by
 have q:X.env.kindOf x=some .cell:=by
  rcases C.tb x _ (yM h) with q|⟨q,_⟩
  ·exact q
  ·cases q
 rw[oH,q,HP C.kd];rfl
section
variable {K:W.Frag}
structure gU(K:W.Frag)(x:Str)(st:Stmt)(ps:List Str):Prop where
 ex:∃ (f:Addr) (fd:FuncData),W.nsIn K mainGlobals x=some (some (.ref f))/\E8 K x x st f fd/\Binds K fd ps []
structure AD(K:W.Frag)(mg:Str->Option Value)(x:Str)(st:Stmt)(ps:List Str):Prop where
 ex:∃ (f:Addr) (fd:FuncData),mg x=some (.ref f)/\E8 K x x st f fd/\Binds K fd ps []
def gU.mg{h:Heap}{mg:Str->Option Value}{st:Stmt}(D:gU K x st ps)(X:K.In h)(G:h.Ns mainGlobals mg):AD K mg x st ps:=by
 let⟨f,fd,a,b,c⟩:=D.ex;exact⟨f,fd,W.mg_of X G a,b,c⟩
def oa(st:Stmt)(ps:List Str):Prop:=∀ (x qual:Str) (kV doc pm:Value) (an:Option Addr) (QU ct:Value) (us:List Value),us.length=ps.length->bindArgs (W.fnOf x qual (fw st) (bo st) (aj st) .none kV doc pm an QU ct) ⟨us,[]⟩=pure (ps.zip us)
def MS{st:Stmt}{kV:Value}(hb:oa st ps)(a:W.nsIn K mainGlobals x=some (some (.ref f)))(l:K.lookup f=some ⟨oc,od,.func (W.fnOf x x (fw st) (bo st) (aj st) .none kV doc pm an QU ct),SR⟩)
  (c:W.codeIn K QU x=true) (k:W.keepIn K (.ref f)=true):gU K x st ps:=⟨f,_,a,Ee (st:=st) l c k,(Ee (st:=st) l c k).binds λkV doc pm an QU ct us h=>hb _ _ kV doc pm an QU ct us h⟩
structure Ph(K:W.Frag)(x:Str)(st:Stmt)(ps:List Str):Prop where
 ex:∃ (f:Addr) (fd:FuncData) (c P:Addr),W.nsIn K mainGlobals x=some (some (.ref f))/\E8 K x x st f fd/\Binds K fd ps []/\fd.code=.ref c/\W.codeHdIn K c P=true
structure P8(K:W.Frag)(mg:Str->Option Value)(x:Str)(st:Stmt)(ps:List Str):Prop where
 ex:∃ (f:Addr) (fd:FuncData) (c P:Addr),mg x=some (.ref f)/\E8 K x x st f fd/\Binds K fd ps []/\fd.code=.ref c/\W.codeHdIn K c P=true
def JY{K:W.Frag}(h:(cU.all λx=>match W.nsIn K mainGlobals x with|some none=>true|_=>false)=true):∀x∈cU,W.nsIn K mainGlobals x=some none:=by
 intro x hx;have:=List.all_eq_true.mp h x hx;split at this
 ·assumption
 ·cases this
def vt{K:W.Frag}{H:Hp}{a:Addr}{ns:List Int}{m:List D->Option D}(hS:dM K H a (ns.map V.int))(hT:dz K H)(h:m [.list (ns.map PyData.int)]=some (.bool true)){X:_}:Nm K 1 m [.ref a] H (λv _=>v=.bl true) X:=by
 refine⟨H,[.list (ns.map PyData.int)],.bool true,.refl _,hT,ar.cons ?_ ar.nil,rfl,h,λv H' Qp G r=>by simpa only[Rep] using r⟩;simp?[Rep];refine⟨a,_,rfl,hS,?_⟩;clear h hS hT
 induction ns with
 | nil=>exact ar.nil
 | cons n ns ih=>exact ar.cons (by simp[Rep]) ih
end
def NL(h:isStar e=false)(he:DE X e f)(hs:DA X es g):DA X (e::es) (aa f g):=Kp he hs h
def Jo:au->Option Out:=λ_=>none
def Mc{st:Stmt}:DS X Qm Qn st Jo:=λpins s σ H E I ⟨HF,ρ,o,S,hg,q⟩=>by cases hg
def u9(f:Env->Option D):au->Option Out:=λρ=>(f (aL ρ)).map λ_=>.nx ρ
def Fz(hs:swapsWith e none pos.line X.env=pure false)(h:DE X e f):DS X Qm Qn (.Expr e pos) (u9 f):=bW (iT h hs) λE σ H ⟨HF,ρ,o,S,hg,q⟩=>by
 let⟨d,h,rfl⟩:=af hg;exact⟨H,aL ρ,d,.refl _,S.all,h,λv H' Qp G r=>q σ H' HF (S.step G.hh) (.refl _)⟩
def LS(t:Env->Option Bool)(gb:au->Option Out):Nat->au->Option Out
 | 0,_=>none
 | n+1,ρ=>(t (aL ρ)).bind λb=>if b=true then (gb ρ).bind fun|.nx ρ'=>LS t gb n ρ'|.rt d=>some (.rt d) else some (.nx ρ)
def Dj(n:Nat)(hp:PassesOwn (model X.prog X.w) X.A X.env X.xe)(hc:DT X c t)(hb:xk X Qm Qn body gb):DS X Qm Qn (.While c body [] pos) (LS t gb n) :=
 bW (ED hp hc hb) λE σ H ⟨HF,ρ,o,S,hg,q⟩=>by
  refine⟨λm σ' H'=>∃Qp ρ',eK X.K Qm Qn Qp H' ρ' σ'/\aM HF Qp/\LS t gb m ρ'=some o,⟨n,HF,ρ,S,.refl _,hg⟩,?_⟩;rintro m σ' H' ⟨Qp,ρ',S',s',hf⟩;cases m with
  | zero=>cases hf
  | succ m =>
   unfold LS at hf;let⟨b,hb,hf⟩:=bs hf;refine⟨H',aL ρ',b,.refl _,S'.all,hb,λH1 Qr G=>?_⟩;cases b with
   | false =>
    rw[yJ yV] at hf ⊢;cases hf;exact q σ' H1 Qp (S'.step G.hh) s'
   | true =>
    rw[yH rfl] at hf ⊢;let⟨o1,h2,hf⟩:=bs hf;refine⟨λRZ H3=>∃QN Sw,eK X.K Qm Qn QN H3 Sw RZ/\aM HF QN/\LS t gb m Sw=some o,λRZ H3 ⟨QN,Sw,a1,a2,a3⟩=>⟨m,jY _,QN,Sw,a1,a2,a3⟩,Qp,ρ',o1,S'.step G.hh,h2,?_⟩;cases o1 with
    | nx RC=>exactλZN H4 Rz S4 s4=>⟨Rz,RC,S4,s'.trans s4,hf⟩
    | rt d=>cases hf;exact q
def KU:List D->Option D
 | [.int a,.int b]=>some (.int (min a b))
 | [.int a,.int b,.int c]=>some (.int (min (min a b) c))
 | _=>none
def Cp(hc:X.calm=true):dc X (.builtin "min") (λxs H Q=>(∃a b:Int,xs=[.int a,.int b]/\Q (.int (min a b)) H)\/(∃a b c:Int,xs=[.int a,.int b,.int c]/\Q (.int (min (min a b) c)) H)):=by
 intro pins s σ H xs us Q I r h;have hh:X.A.handled=none:=I.ok.hd hc;rcases h with ⟨a,b,rfl,q⟩|⟨a,b,c,rfl,q⟩
 ·cases r with
  | cons r1 r =>
   cases r with
   | cons r2 r =>
    cases r;let⟨t,rfl⟩:=r1;let⟨u,rfl⟩:=r2;refine min_two_ints hh λh' tk kp=>⟨.int (min a b),H,I.kept (t':=tk) kp,?_,q⟩
    by_cases h:b < a
    ·rw[yH h,show min a b=b by lia];exact⟨_,rfl⟩
    ·rw[yJ h,show min a b=a by lia];exact⟨_,rfl⟩
 ·cases r with
  | cons r1 r =>
   cases r with
   | cons r2 r =>
    cases r with
    | cons r3 r =>
     cases r;let⟨t,rfl⟩:=r1;let⟨u,rfl⟩:=r2;let⟨x,rfl⟩:=r3;refine min_three_ints hh λh' tk kp=>⟨.int (min (min a b) c),H,I.kept (t':=tk) kp,?_,q⟩
     by_cases h:b < a
     ·rw[yH h];by_cases h2:c < b
      ·rw[yH h2,show min (min a b) c=c by lia];exact⟨_,rfl⟩
      ·rw[yJ h2,show min (min a b) c=b by lia];exact⟨_,rfl⟩
     ·rw[yJ h];by_cases h2:c < a
      ·rw[yH h2,show min (min a b) c=c by lia];exact⟨_,rfl⟩
      ·rw[yJ h2,show min (min a b) c=a by lia];exact⟨_,rfl⟩
def tq{K:W.Frag}(r:Rep K H d v):∀ {ds:List D}{vs:List V}(j:Nat),ar K H ds vs->ar K H (ds.set j d) (vs.set j v)
 | [],vs,j,h=>by rw[h.nil_inv];exact ar.nil
 | x::ds,vs,j,h=>by
  let⟨u,us,rfl,a,b⟩:=h.cons_inv;cases j with
  | zero=>exact ar.cons r b
  | succ j=>exact ar.cons a (tq r j b)
def M3(i:Nat)(fz:List Nat)(fk f:Env->Option D):au->Option Out:=λρ=>(mj fz f ρ).bind λp=>(fk (aL p.2)).bind λkd=>match kd with
 | .int k=>o8 i (λds=>(AS ds.length k).map λj=>ds.set j p.1) p.2
 | _=>none
def E4(i:Nat)(fz:List Nat)(hN:X.N[i]?=some x)(hv:FD X.env.scope x)(hk:DE X e fk)(h:DE X e2 f)(hd:(x == ("__debug__":Str))=false:=by decide)(Q8:(x == ("__classdict__":Str))=false:=by decide)
  (ha:∀v,assign (.Subscript (.Name x px) e Rp) X.env v=(do
   let ov <- holding [v] (eval (.Name x px) X.env)
   let iv <- holding [v,ov] (eval e X.env)
   standAt Rp
   holding [v,ov,iv] (setItem ov iv v)
   release [v,ov,iv] []):=by intro _;rfl)
  (hs:swapsWithSole [.Subscript (.Name x px) e Rp] e2 pos.line X.env=pure false:=by rfl) (hw:swappedStores [.Subscript (.Name x px) e Rp] e2 X.env=pure none:=by rfl)
  (h1:(assignEach [.Subscript (.Name x px) e Rp] X.env).map (·.2)=[assign (.Subscript (.Name x px) e Rp) X.env]:=by rfl):DS X Qm Qn (.Assign [.Subscript (.Name x px) e Rp] e2 pos) (M3 i fz fk f) :=
 bW (Kd h (IW (ji hN hv hd Q8) hk set_list ha) hs hw h1) λE σ H ⟨HF,ρ,o,S,hg,q⟩=>by
  let⟨⟨d,ρ'⟩,h1,hg⟩:=bs hg;let⟨kd,h2,hg⟩:=bs hg;cases kd<;>try cases hg
  rename_i k;let⟨ds,es,h3,h4,rfl⟩:=iR hg;let⟨j,hj,rfl⟩:=af h4;refine lZ S h1 λv H1 Qr s1 S1 s2 r=>?_;let⟨a,vs,e1,e2,e3,e5,e4⟩:=S1.own i ds h3;refine⟨.ref a,e1,H1,aL ρ',.int k,.refl _,S1.all,h2,λkv H2 QC G rk=>?_⟩;simp?[Rep] at rk;have S2:=S1.step G.hh;let⟨a',TU,f1,f2,f3,f5,f4⟩:=S2.own i ds h3;rw[e1] at f1;cases f1;exact⟨a,TU,k,j,rfl,rk,f2,by rw[f4.length];exact hj,q σ _ Qr (S2.mut h3 e1 f2 (tq r j f4)) s1⟩
def Nj:D->Bool|.none=>true|_=>false
def mV{K:W.Frag}(r:Rep K HF d v):decide (v=.Qo)=Nj d:=by
 cases d<;>simp?[Rep] at r<;>first
  | (subst r;rfl)
  | (let⟨a,vs,rfl,_⟩:=r;rfl)
  | exact r.elim
def DD:D->D->Option D:=λx y=>if Nj y=true then some (.bool (Nj x)) else none
def sH:D->D->Option D:=λx y=>if Nj y=true then some (.bool (!Nj x)) else none
def y0{K:W.Frag}:dP K (λx y H Q=>y=.Qo/\Q (.bl (decide (x=.Qo))) H) DD:=by
 intro HF H x y v1 v2 d Q sm r1 r2 hg q;unfold DD at hg;split at hg
 ·rename_i h;cases hg;have h2:=mV r2;rw[h,zJ] at h2;refine⟨h2,?_⟩;rw[mV r1];exact q _ H HF (.refl sm) (by simp[Rep])
 ·cases hg
def uS{K:W.Frag}:dP K (λx y H Q=>y=.Qo/\Q (.bl (!decide (x=.Qo))) H) sH:=by
 intro HF H x y v1 v2 d Q sm r1 r2 hg q;unfold sH at hg;split at hg
 ·rename_i h;cases hg;have h2:=mV r2;rw[h,zJ] at h2;refine⟨h2,?_⟩;rw[mV r1];exact q _ H HF (.refl sm) (by simp[Rep])
 ·cases hg
def Bk.is0(C:Bk X N sc k)(ha:DE X a fa)(hb:DE X b fb):DE X (.Compare a [.Is] [b] pos) (f2 DD fa fb):=eS BN y0 ha hb (dq _)
def Bk.XI(C:Bk X N sc k)(ha:DE X a fa)(hb:DE X b fb):DE X (.Compare a [.IsNot] [b] pos) (f2 sH fa fb):=eS yu uS ha hb (dq _)
def Bk.XJ(C:Bk X N sc k)(ha:DE X a fa)(hb:DE X b fb):DT X (.Compare a [.Is] [b] pos) (fB (f2 DD fa fb)):=eH BN y0 ha hb (dq _)
def Bk.VT(C:Bk X N sc k)(ha:DE X a fa)(hb:DE X b fb):DT X (.Compare a [.IsNot] [b] pos) (fB (f2 sH fa fb)):=eH yu uS ha hb (dq _)
def Ky(hc:X.calm=true)(B:l7 X "min" (.builtin "min"))(he:starEach (e::es) X.env=(false,eval e X.env)::starEach es X.env)(Rb:(backTo pos (starEach es X.env)).any (·.1)=false)(ha:DA X (e::es) fs):DE X (.Call (.Name "min" p) (e::es) [] pos) (aY KU fs) :=
 gg (Cp hc) (by
  intro HF H ds vs d Q sm r hg q;unfold KU at hg;split at hg
  ·cases hg;let⟨v1,r1,rfl,a1,b1⟩:=r.cons_inv;let⟨v2,r2,rfl,a2,b2⟩:=b1.cons_inv;rw[b2.nil_inv];simp?[Rep] at a1 a2;exact .inl ⟨_,_,by rw[a1,a2],q _ H HF (.refl sm) (by simp[Rep])⟩
  ·cases hg;let⟨v1,r1,rfl,a1,b1⟩:=r.cons_inv;let⟨v2,r2,rfl,a2,b2⟩:=b1.cons_inv;let⟨v3,r3,rfl,a3,b3⟩:=b2.cons_inv;rw[b3.nil_inv];simp?[Rep] at a1 a2 a3;exact .inr ⟨_,_,_,by rw[a1,a2,a3],q _ H HF (.refl sm) (by simp[Rep])⟩
  ·cases hg) B ha (by decide) (by decide) he Rb
section
variable {fl fs:Env->Option (List D)}
def Nb(ds:List D):D->Option (List D)
 | .int k=>if Bi k=true/\ds.length * k.toNat<=sizeLine then some (List.replicate k.toNat ds).flatten else none
 | _=>none
def Ia(fl:Env->Option (List D))(fb:Env->Option D):Env->Option (List D):=λρ=>(fl ρ).bind λds=>(fb ρ).bind (Nb ds)
def Lr(ha:DF X a fl)(hb:DE X b fb):DF X (.BinOp a .Mult b pos) (Ia fl fb):=aB (BK JJ ha hb) λσ H Q ⟨HF,ρ,d,sm,eo,hf,q⟩=>by
 let⟨ds,hx,hf⟩:=bs hf;let⟨y,hy,hg⟩:=bs hf;refine⟨HF,ρ,ds,sm,eo,hx,λl vs H1 Qr g1 h0 hn h1 r1=>⟨Qr,ρ,y,g1.fh,eo.mono g1.ff,hy,λv2 H2 QC g2 r2=>?_⟩⟩;cases y<;>try cases hg
 rename_i k;have hg:(if Bi k=true/\ds.length * k.toNat<=sizeLine then some (List.replicate k.toNat ds).flatten else none)=some d:=hg;split at hg
 ·rename_i hz;cases hg;simp?[Rep] at r2;have r1:=r1.mono g2.ff;have G:=g1.trans g2;have ok:=hz.1;simp?[Bi,zF,zJ] at ok;exact⟨l,k,vs,rfl,r2,g2.hh _ _ h1,by lia,by lia,by rw[r1.length];exact hz.2,λp hp=>q p _ _ QC (G.trans (.own G.fh hp)) (G.hh.free hp) (G.fh.free hp) aC (lb r1 _)⟩
 ·cases hg
def wo(hc:X.calm=true):dc X (.builtin "any") (λxs H Q=>∃ (a:Addr) (bs:List Bool),xs=[.ref a]/\dM X.K H a (bs.map V.bl)/\Q (.bl (bs.any id)) H):=by
 intro pins s σ H xs us Q I r h;let⟨a,bs,rfl,hq,q⟩:=h;let⟨u,rfl,rx⟩:=vals1 r;cases rx;let⟨its,rv,pl,hz⟩:=I.list hq;have hv:=jd rv;subst hv;have hh:X.A.in1.handled=none:=I.ok.hd hc;refine call_any_walk (qG pl.isList ?_);let⟨o,ho,Q5,n,hd⟩:=pl.isList;have QS:a≠s.heap.objs.size:=yN (zV ho);refine⟨_,_,_,_,_,_,λi=>bs.getD i false,rfl,Walks.list hh s.heap.objs.size a QS (bs.map Value.bool).toArray,⟨⟨_,zU _ rfl,rfl,rfl⟩,pl.isList.push _⟩,λi v s' Q' E' hP hQ=>?_,λh' tk kp=>?_⟩
 ·have e:v=Value.bool (bs.getD i false):=by
   have hP:(bs.map Value.bool).toArray[i]?=some v:=hP;rw[vB,zO] at hP;let⟨b,hb,rfl⟩:=af hP;rw[zG,hb];rfl
  subst e;exact xS hQ
 ·refine⟨.bl (bs.any id),H,?_,?_,q⟩
  ·exact I.kept (t':=tk) λb o' e=>kp b o' (by simp;exact yN (zV e)) (zR _ e)
  ·show Value.bool _=Value.bool _;have:=range_any bs;simp?[zH,zD];rw[this]
end
def Lo(hc:X.calm=true)(B:l7 X "any" (.builtin "any"))(he:starEach [e] X.env=(false,eval e X.env)::starEach [] X.env)(ha:DA X [e] fs):DE X (.Call (.Name "any" p) [e] [] pos) (aY (λds=>(oneOf ds).bind λd=>match d with
 | .list es=>(boolsOf es).map λbs=>.bool (bs.any id)
 | _=>none) fs) :=
 gg (wo hc) (by
  intro HF H ds vs d Q sm r hg q;let⟨x,hx,hg⟩:=bs hg;rw[eY hx] at r;cases x<;>try cases hg
  let⟨bs,hb,rfl⟩:=af hg;let⟨v,r',rfl,a,b⟩:=r.cons_inv;rw[b.nil_inv];simp?[Rep] at a;let⟨p,us,rfl,h,rr⟩:=a;rw[gC hb] at rr;have:=cY rr;subst this;exact⟨p,bs,rfl,sm.seq h,q _ H HF (.refl sm) (by simp[Rep])⟩) B ha (by decide) (by decide) he rfl
def mq(ns:List Int):∀j:Nat,preSum (λi=>ns.getD i 0) j=(ns.take j).sum
 | 0=>by simp[preSum]
 | j+1=>by
  rw[preSum,mq ns j,List.take_add_one,List.sum_append]
  congr 1
  rw[zG];cases ns[j]?<;>simp
def pK(val:Nat->Int)(B:Int)(h:∀i,-B<=val i/\val i<=B):∀j:Nat,-(B * j)<=preSum val j/\preSum val j<=B * j
 | 0=>by simp[preSum]
 | j+1=>by
  have ih:=pK val B h j;have:=h j;rw[preSum];have e:B * ((j+1:Nat):Int)=B * (j:Int)+B:=by rw[Int.natCast_add,Int.mul_add];simp
  rw[e];lia
def LR(ns:List Int):Bool:=decide (ns.length<=1000)&&ns.all λn=>decide (-1000000<=n)&&decide (n<=1000000)
def I0(h:LR ns=true):ns.length<=1000/\∀i,-1000000<=ns.getD i 0/\ns.getD i 0<=1000000:=by
 unfold LR at h;rw[zF,zJ,xC] at h;refine⟨h.1,λi=>?_⟩;rw[zG];cases e:ns[i]? with
 | none=>simp
 | some n =>
  have:=h.2 n (xY e);simpa using this
def ni{ns:List Int}{its:List Value}(r:aD (ns.map V.int) its){i:Nat}(h:its.toArray[i]?=some v):∃t,v=.int (ns.getD i 0) t:=by
 rw[vB] at h
 induction ns generalizing its i with
 | nil=>cases r;simp at h
 | cons n ns ih =>
  cases r with
  | cons r1 rr =>
   cases i with
   | zero =>
    simp?[xM,Option.some.injEq] at h;subst h;let⟨t,rfl⟩:=r1;exact⟨t,rfl⟩
   | succ i =>
    simp?[yU] at h;exact ih rr h
def wV(hc:X.calm=true):dc X (.builtin "sum") (λxs H Q=>∃ (a:Addr) (ns:List Int),xs=[.ref a]/\(dM X.K H a (ns.map V.int)\/fU X.K H a (ns.map V.int))/\LR ns=true/\Q (.int ns.sum) H):=by
 intro pins s σ H xs us Q I r h;let⟨a,ns,rfl,hq,Qt,q⟩:=h;let⟨u,rfl,rx⟩:=vals1 r;cases rx;have hh:X.A.in1.handled=none:=I.ok.hd hc;let⟨hlen,Y2⟩:=I0 Qt;have So:∀n:Nat,n<=1000->∀j,j < n->InLong ((λi=>ns.getD i 0) j)/\InLong (preSum (λi=>ns.getD i 0) (j+1)):=λn hn j hj=>by
  have h1:=Y2 j;have h2:=pK (λi=>ns.getD i 0) 1000000 Y2 (j+1);refine⟨⟨?_,?_⟩,?_,?_⟩
  ·show -(2 ^ 63)<=ns.getD j 0;lia
  ·show ns.getD j 0 < 2 ^ 63;lia
  ·lia
  ·lia
 have VU:preSum (λi=>ns.getD i 0) ns.length=ns.sum:=by rw[mq,List.take_length]
 rcases hq with hq|hq
 ·let⟨its,rv,pl,hz⟩:=I.list hq;have hl:its.length=ns.length:=by rw[<- rv.length,zD]
  refine call_sum_walk (qG pl.isList ?_);let⟨o,ho,Q5,n,hd⟩:=pl.isList;have QW:=zV ho;have QS:a≠s.heap.objs.size:=yN QW;refine⟨_,_,_,_,_,_,λi=>ns.getD i 0,rfl,Walks.list hh s.heap.objs.size a QS its.toArray,⟨⟨_,zU _ rfl,rfl,rfl⟩,pl.isList.push _⟩,λb hb=>?_,λi v hP=>ni rv hP,by rw[zH,hl];exact So _ hlen,λh' tk t' kp=>?_⟩
  ·show b < (s.heap.push _).objs.size;rw[xF];simp?[zQ,yC,xQ] at hb;rcases hb with rfl|rfl
   ·exact jY _
   ·exact jH QW
  ·refine⟨.int ns.sum,H,I.kept (t':=tk) λb o' e=>kp b o' (by simp;exact yN (zV e)) (zR _ e),⟨t',?_⟩,q⟩;rw[zH,hl,VU]
 ·let⟨its,rv,pl,hz⟩:=I.tuple hq;have pl:s.heap.IsTuple a its.toArray:=pl;have hl:its.length=ns.length:=by rw[<- rv.length,zD]
  refine call_sum_walk (xO pl ?_);let⟨o,ho,Q5,n,hd⟩:=id pl;have QW:=zV ho;have QS:a≠s.heap.objs.size:=yN QW;refine⟨_,_,_,_,_,_,λi=>ns.getD i 0,rfl,Walks.tuple hh s.heap.objs.size a QS its.toArray,⟨⟨_,zU _ rfl,rfl,rfl⟩,pl.push _⟩,λb hb=>?_,λi v hP=>ni rv hP,by rw[zH,hl];exact So _ hlen,λh' tk t' kp=>?_⟩
  ·show b < (s.heap.push _).objs.size;rw[xF];simp?[zQ,yC,xQ] at hb;rcases hb with rfl|rfl
   ·exact jY _
   ·exact jH QW
  ·refine⟨.int ns.sum,H,I.kept (t':=tk) λb o' e=>kp b o' (by simp;exact yN (zV e)) (zR _ e),⟨t',?_⟩,q⟩;rw[zH,hl,VU]
def Mm:List D->Option D:=λds=>(cf ds).bind λes=>(intsOf es).bind λns=>if LR ns=true then some (.int ns.sum) else none
def i4{K:W.Frag}:∀ {ns:List Int}{vs:List V},ar K H (ns.map PyData.int) vs->vs=ns.map V.int
 | [],vs,h=>h.nil_inv
 | b::bs,vs,h=>by
  let⟨v,r,rfl,a,c⟩:=h.cons_inv;simp?[Rep] at a;rw[a,i4 c];rfl
def Kk(hc:X.calm=true)(B:l7 X "sum" (.builtin "sum"))(he:starEach [e] X.env=(false,eval e X.env)::starEach [] X.env)(ha:DA X [e] fs):DE X (.Call (.Name "sum" p) [e] [] pos) (aY Mm fs) :=
 gg (wV hc) (by
  intro HF H ds vs d Q sm r hg q;let⟨es,h1,hg⟩:=bs hg;let⟨ns,h2,hg⟩:=bs hg;have hg:(if LR ns=true then some (PyData.int ns.sum) else none)=some d:=hg;split at hg
  ·rename_i Qt;cases hg;have e2:=dg h2;subst e2;rcases fH h1 with rfl|rfl
   all_goals
    let⟨v,r',rfl,a,b⟩:=r.cons_inv;rw[b.nil_inv];simp?[Rep] at a;let⟨p,us,rfl,h,rr⟩:=a;have:=i4 rr;subst this
   ·exact⟨p,ns,rfl,.inr (av sm h),Qt,q _ H HF (.refl sm) (by simp[Rep])⟩
   ·exact⟨p,ns,rfl,.inl (sm.seq h),Qt,q _ H HF (.refl sm) (by simp[Rep])⟩
  ·cases hg) B ha (by decide) (by decide) he rfl
def LV(i:Int):Value->Bool|.int a _=>a == i|_=>false
def AI:HG X "list.index" (λx vs H Q=>∃ (l:Addr) (ns:List Int) (i:Int) (j:Nat),x=.ref l/\vs=[.int i]/\dM X.K H l (ns.map V.int)/\ns[j]?=some i/\(∀m,m < j->ns[m]?≠some i)/\Q (.int j) H):=by
 intro pins s σ H x vs v us Q I rx rv h;let⟨l,ns,i,j,rfl,rfl,hq,hj,TJ,q⟩:=h;cases rx;let⟨u,rfl,ru⟩:=rv.one;let⟨t,rfl⟩:=ru;let⟨its,r,pl,hz⟩:=I.list hq;let⟨⟨cls,dd,data,sl⟩,ho,hc,n,hd⟩:=id pl.isList;simp only at hc hd;subst hc hd;have hl:its.length=ns.length:=by rw[<- r.length,zD]
 have Ur:j < ns.length:=(List.getElem?_eq_some_iff.mp hj).1;have Uo:ns.length<=sizeLine:=by rw[zD] at hz;exact hz
 have aak:(sizeLine:Nat) < 2 ^ 62:=by decide
 have at_:∀m (hm:m < its.toArray.size),∃t',its.toArray[m]=.int (ns.getD m 0) t':=λm hm=>ni r (jQ hm);refine qS F.slot_list_index ⟨_,ho,rfl⟩ F.entry_list_index (F.args_list_index_2 _ _) (PySem.SeqAt.list_indexAt l its.toArray n dd sl (.int i t) (LV i) j (by rw[zH,hl];exact Ur) (by lia) ?_ ?_) ⟨ho,?_,?_⟩
 ·let⟨t',e⟩:=at_ j (by rw[zH,hl];exact Ur);rw[e,LV,zG,hj];simp
 ·intro m hm VV;let⟨t',e⟩:=at_ m hm;have RE:m < ns.length:=by lia
  have:=TJ m VV;rw[e,LV,zG];rw[zK RE] at this ⊢;simp?[qD,beq_eq_false_iff_ne];exactλh=>this (by rw[h])
 ·intro y hy;let⟨m,hm,rfl⟩:=Array.getElem_of_mem hy;let⟨t',e⟩:=at_ m hm;rw[e];exact PySem.SeqAt.EqAt.int_int _ _ _ _
 ·exact⟨.int j,H,I.tok _,⟨_,rfl⟩,q⟩
def AK(i:Int):List Int->Option Nat
 | []=>none
 | n::ns=>if n=i then some 0 else (AK i ns).map (·+1)
def lI:∀ {ns:List Int}{j:Nat},AK i ns=some j->ns[j]?=some i/\∀m,m < j->ns[m]?≠some i
 | [],j,h=>by cases h
 | n::ns,j,h=>by
  unfold AK at h;split at h
  ·cases h;rename_i e;exact⟨by rw[e];rfl,λm hm=>absurd hm (kW _)⟩
  ·rename_i e;let⟨k,hk,rfl⟩:=af h;let⟨a,b⟩:=lI hk;refine⟨by simpa using a,λm hm=>?_⟩;cases m with
   | zero=>simpa using e
   | succ m=>simpa using b m (by lia)
def Of:D->D->Option D
 | .list es,.int i=>(intsOf es).bind λns=>(AK i ns).map λj=>.int ((j:Nat):Int)
 | _,_=>none
def CA{fo:Env->Option D}(QG:attributeBase o "index" X.env (eval o X.env)=eval o X.env)
  (QI:((backTo Qq (starEach [e] X.env)).all (λx=>!x.1)&&(backToKw Qq (keywordEach [] X.env)).all (λx=>x.1.isSome)&&decide ([e].length+([]:List Keyword).length+(if ([]:List Keyword).isEmpty then 0 else 1) < 30))=true)
  (Qv:(apos.endLine == Qq.line)=true) (hs:starEach [e] X.env=(false,eval e X.env)::starEach [] X.env) (ho:DE X o fo) (he:DE X e fe):DE X (.Call (.Attribute o "index" apos) [e] [] Qq) (f2 Of fo fe) :=
 aB (jb qK PySem.F.slot_list_index PySem.F.type_list_index AI ho (aW he cy hs) QG QI Qv hs rfl) λσ H Q ⟨HF,ρ,d,sm,eo,hf,q⟩=>by
  let⟨x,hx,hf⟩:=bs hf;let⟨y,hy,hg⟩:=bs hf;refine⟨HF,ρ,x,sm,eo,hx,λv1 H1 Qr g1 r1=>?_⟩;cases x<;>try cases hg
  cases y<;>try cases hg
  rename_i es i;let⟨ns,h1,hg⟩:=bs hg;let⟨j,h2,rfl⟩:=af hg;have e1:=dg h1;subst e1;simp?[Rep] at r1;let⟨l,us,rfl,hq,rr⟩:=r1;have:=i4 rr;subst this;refine⟨.inl ⟨rfl,_,g1.fh.seq hq⟩,Qr,ρ,.int i,g1.fh,eo.mono g1.ff,hy,λv2 H2 QC g2 r2=>?_⟩;simp?[Rep] at r2;let⟨a,b⟩:=lI h2;exact⟨l,ns,i,j,rfl,by rw[r2],g2.fh.seq (g2.ff.seq hq),a,b,q _ H2 QC (g1.trans g2) (by simp[Rep])⟩
end Dl
namespace Tx
open PySem PySem.SeqAt PyProof.Rows
open PySem.AutoSeq1 (wpAny_loadPart')
open PySem.MeetsSeq PySem.MeetsSeq2 PySem.MeetsSeq3
def wpR(f:Nat->β->Sem (ForInStep β))(I:List Nat->β->Shared->Prop)(Q:β->Shared->Prop)
  (turn:∀x rest b s,I (x::rest) b s->wpAny M A (f x b) (λr s'=>match r with|.yield b'=>I rest b' s'|.done b'=>Q b' s') E s)
  (fin:∀b s,I [] b s->Q b s) (n:Nat) (b:β) (h:I (List.range' 0 n 1) b s):wpAny M A (forIn [:n] b f) Q E s:=by
 have e:forIn [:n] b f=forIn (List.range' 0 n 1) b f:=by
  rw[Std.Legacy.Range.forIn_eq_forIn_range'];simp[Std.Legacy.Range.size]
 rw[e];exact wpAny_forIn_list f I Q turn fin _ b h
def QX(l:Addr)(items:Array Value)(n:Nat)(dd:Option Addr)(sl:Array (Option Value))(x:Value)(e:Value->Bool)(j:Nat)(hj:j < items.size)(h1:e items[j]=true)(h2:∀m (hm:m < items.size),m < j->e items[m]=false) :
  Meets (Builtin.«tuple.index» ⟨[.ref l,x],[]⟩)
   (λA R s=>s.heap.get? l=some { cls:=.type "tuple",dict:=dd,data:=.seq items n,slots:=sl }/\(∀y,y∈items->EqAt A.in1 s y x (e y))/\R (.ok (.ret (.int (j:Nat) s.toks))) { s with toks:=s.toks+1 }) :=
 .of_wp λprog w A R s h=>by
  let⟨hp,g,d,tk,os⟩:=s;let⟨hl,he,h⟩:=h
  wp_walk using wpAny_loadPart' hl,wpR _ (λrest b s'=>s'=⟨hp,g,d,tk,os⟩/\b.1=none/\∃i,i<=j/\rest=List.range' i (items.size - i) 1) _
  case turn =>
   rintro i rest b s' ⟨rfl,hb,i',hi,e1⟩;have QW:i' < items.size:=by lia
   rw[show items.size - i'=(items.size - (i'+1))+1 by lia,List.range'_succ] at e1;injection e1 with e2 e3
   subst e2;subst e3;simp?[jQ QW];refine zS (he _ (Array.getElem_mem QW) prog w _ _ ?_);by_cases QB:i=j
   ·subst QB;rw[h1]
    wp_walk
    exact⟨_,rfl,h⟩
   ·rw[h2 i QW (by lia)]
    wp_walk
    exact⟨rfl,rfl,i+1,by lia,rfl⟩
  case fin =>
   rintro b s' ⟨rfl,hb,i,hi,e1⟩;have:=qX List.length e1;simp at this;lia
  case h =>
   exact⟨rfl,rfl,0,xR _,by simp⟩
end Tx
namespace Dl
open PySem L2 PySem.Spec PyProof.Rows
def Bq:HG X "tuple.index" (λx vs H Q=>∃ (l:Addr) (ns:List Int) (i:Int) (j:Nat),x=.ref l/\vs=[.int i]/\fU X.K H l (ns.map V.int)/\ns[j]?=some i/\(∀m,m < j->ns[m]?≠some i)/\Q (.int j) H):=by
 intro pins s σ H x vs v us Q I rx rv h;let⟨l,ns,i,j,rfl,rfl,hq,hj,TJ,q⟩:=h;cases rx;let⟨u,rfl,ru⟩:=rv.one;let⟨t,rfl⟩:=ru;let⟨its,r,pl,hz⟩:=I.tuple hq;let⟨⟨cls,dd,data,sl⟩,ho,hc,n,hd⟩:=id pl;simp only at hc hd;subst hc hd;have hl:its.length=ns.length:=by rw[<- r.length,zD]
 have Ur:j < ns.length:=(List.getElem?_eq_some_iff.mp hj).1;have at_:∀m (hm:m < its.toArray.size),∃t',its.toArray[m]=.int (ns.getD m 0) t':=λm hm=>ni r (jQ hm);refine qS F.slot_tuple_index ⟨_,ho,rfl⟩ F.entry_tuple_index (F.args_tuple_index_2 _ _) (Tx.QX l its.toArray n dd sl (.int i t) (LV i) j (by rw[zH,hl];exact Ur) ?_ ?_) ⟨ho,?_,?_⟩
 ·let⟨t',e⟩:=at_ j (by rw[zH,hl];exact Ur);rw[e,LV,zG,hj];simp
 ·intro m hm VV;let⟨t',e⟩:=at_ m hm;have RE:m < ns.length:=by
   rw[zH] at hm;lia
  have:=TJ m VV;rw[e,LV,zG];rw[zK RE] at this ⊢;simp?[qD,beq_eq_false_iff_ne];exactλh=>this (by rw[h])
 ·intro y hy;let⟨m,hm,rfl⟩:=Array.getElem_of_mem hy;let⟨t',e⟩:=at_ m hm;rw[e];exact PySem.SeqAt.EqAt.int_int _ _ _ _
 ·exact⟨.int j,H,I.tok _,⟨_,rfl⟩,q⟩
def DL(h:PE X e t)(g:PE X e u):PE X e (λσ H Q=>t σ H Q\/u σ H Q):=λpins s σ H Q I q=>q.elim (h pins s σ H Q I) (g pins s σ H Q I)
def MW:D->D->Option D
 | .list es,.int i=>(intsOf es).bind λns=>(AK i ns).map λj=>.int ((j:Nat):Int)
 | .tuple es,.int i=>(intsOf es).bind λns=>(AK i ns).map λj=>.int ((j:Nat):Int)
 | _,_=>none
def Ar{fo:Env->Option D}(QG:attributeBase o "index" X.env (eval o X.env)=eval o X.env)
  (QI:((backTo Qq (starEach [e] X.env)).all (λx=>!x.1)&&(backToKw Qq (keywordEach [] X.env)).all (λx=>x.1.isSome)&&decide ([e].length+([]:List Keyword).length+(if ([]:List Keyword).isEmpty then 0 else 1) < 30))=true)
  (Qv:(apos.endLine == Qq.line)=true) (hs:starEach [e] X.env=(false,eval e X.env)::starEach [] X.env) (ho:DE X o fo) (he:DE X e fe):DE X (.Call (.Attribute o "index" apos) [e] [] Qq) (f2 MW fo fe) :=
 aB (DL (CA QG QI Qv hs ho he) (jb PySem.F.plainAttrs_tuple PySem.F.slot_tuple_index PySem.F.type_tuple_index Bq ho (aW he cy hs) QG QI Qv hs rfl)) λσ H Q ⟨HF,ρ,d,sm,eo,hf,q⟩=>by
  let⟨x,hx,hf⟩:=bs hf;let⟨y,hy,hg⟩:=bs hf;cases x<;>try cases hg
  ·cases y<;>try cases hg
   rename_i es i;exact .inl ⟨HF,ρ,d,sm,eo,by simp?[f2,hx,hy,zA];exact hg,q⟩
  ·cases y<;>try cases hg
   rename_i es i;let⟨ns,h1,hg⟩:=bs hg;let⟨j,h2,rfl⟩:=af hg;have e1:=dg h1;subst e1;refine .inr ⟨HF,ρ,_,sm,eo,hx,λv1 H1 Qr g1 r1=>?_⟩;simp?[Rep] at r1;let⟨l,us,rfl,hq,rr⟩:=r1;have:=i4 rr;subst this;refine⟨?_,Qr,ρ,.int i,g1.fh,eo.mono g1.ff,hy,λv2 H2 QC g2 r2=>?_⟩
   ·first|exact .inr (.inl ⟨rfl,_,av g1.fh hq⟩)|exact .inl ⟨rfl,_,av g1.fh hq⟩|exact .inr ⟨rfl,_,av g1.fh hq⟩
   ·simp?[Rep] at r2;let⟨a,b⟩:=lI h2;exact⟨l,ns,i,j,rfl,by rw[r2],av g2.fh (av g2.ff hq),a,b,q _ H2 QC (g1.trans g2) (by simp[Rep])⟩
end Dl
namespace Zp
open PySem PyProof.Rows
def QT(b:Bool)(h:Heap)(it l:Addr)(k:Nat):Prop:=match b with|true=>h.IsTupleIter it l k|false=>h.IsListIter it l k
def Q0(b:Bool)(h:Heap)(l:Addr)(xs:Array Value):Prop:=match b with|true=>h.IsTuple l xs|false=>h.IsList l xs
def QT.obj(x:QT b h it l k):∃o,h.get? it=some o/\∀v,o.data≠.cell v:=by
 cases b
 ·let⟨o,e,_,d⟩:=(show h.IsListIter it l k from x);exact⟨o,e,λv q=>by rw[d] at q;cases q⟩
 ·let⟨o,e,_,d⟩:=(show h.IsTupleIter it l k from x);exact⟨o,e,λv q=>by rw[d] at q;cases q⟩
def QT.at(x:QT b h it l k)(e:∀o,h.get? it=some o->h'.get? it=some o):QT b h' it l k:=by
 cases b
 ·exact Heap.IsListIter.at x e
 ·exact Heap.IsTupleIter.at x e
def QT.extBut(x:QT b h it l k)(e:Heap.ExtBut a h h')(n:it≠a):QT b h' it l k:=x.at λo q=>e it o n q
def Q0.at(x:Q0 b h l xs)(e:∀o,h.get? l=some o->h'.get? l=some o):Q0 b h' l xs:=by
 cases b
 ·let⟨o,q,r⟩:=(show h.IsList l xs from x);exact⟨o,e o q,r⟩
 ·let⟨o,q,r⟩:=(show h.IsTuple l xs from x);exact⟨o,e o q,r⟩
def Q0.extBut(x:Q0 b h l xs)(e:Heap.ExtBut a h h')(n:l≠a):Q0 b h' l xs:=x.at λo q=>e l o n q
section
def XM(hj:QT b s.heap j t k)(ht:Q0 b s.heap t its)(hv:its[k]?=some v)
  (hQ:∀g,QT b g j t (k+1)->Heap.SameBut j s.heap g->Q v { s with heap:=g }):wpAny (model prog w) A (Builtin.SmallTypes.nextOf (.ref j)) Q E s:=by
 cases b
 ·exact wpAny_nextOf_list_item hj ht hv hQ
 ·exact En.R5 hj ht hv hQ
def T1{Q:Value->Shared->Prop}(hh:A.handled=none)(hj:QT b s.heap j t k)(ht:Q0 b s.heap t its)(hv:its[k]?=none)
  (hE:∀g x,Heap.ExtBut j s.heap g->(∃o,g.get? x=some o/\o.cls=.type "StopIteration")->E (.ref x) { s with heap:=g }):wpAny (model prog w) A (Builtin.SmallTypes.nextOf (.ref j)) Q E s:=by
 cases b
 ·exact wpAny_nextOf_list_end hh hj ht hv hE
 ·exact En.Sx hh hj ht hv hE
structure ZS(QD QJ:Bool)(h₀ h:Heap)(z TI TO i j l m:Addr)(xs ys:Array Value)(f:Value)(p q:Nat)(a b:Value):Prop where
 zo:IsZip h z TI TO f
 ti:IsPair h TI (.ref i) (.ref j)
 to:IsPair h TO a b
 wi:QT QD h i l p
 wj:QT QJ h j m q
 sl:Q0 QD h l xs
 sm:Q0 QJ h m ys
 kp:∀c o,c≠z->c≠TO->c≠i->c≠j->h₀.get? c=some o->h.get? c=some o
 sz:h.objs.size=h₀.objs.size
section
variable {z TI TO i j l m:Addr}
def ZS.fl(Z:ZS QD QJ h₀ h z TI TO i j l m xs ys f p q a b)(D:ZipApart z TI TO i j l m)(e:IsZip g z TI TO f')(t:Heap.SameBut z h g):ZS QD QJ h₀ g z TI TO i j l m xs ys f' p q a b :=
 ⟨e,t.extBut _ _ D.TIz Z.ti,t.extBut _ _ D.TOz Z.to,Z.wi.extBut t.extBut D.i1z,Z.wj.extBut t.extBut D.i2z,Z.sl.extBut t.extBut D.l1z,Z.sm.extBut t.extBut D.l2z,λc o n1 n2 n3 n4 r=>t.extBut _ _ n1 (Z.kp c o n1 n2 n3 n4 r),t.1.trans Z.sz⟩
def ZS.fst(Z:ZS QD QJ h₀ h z TI TO i j l m xs ys f p q a b)(D:ZipApart z TI TO i j l m)(e:QT QD g i l (p+1))(t:Heap.SameBut i h g):ZS QD QJ h₀ g z TI TO i j l m xs ys f (p+1) q a b :=
 ⟨t.extBut _ _ D.i1z.symm Z.zo,t.extBut _ _ D.TIi1 Z.ti,t.extBut _ _ D.TOi1 Z.to,e,Z.wj.extBut t.extBut D.i12.symm,Z.sl.extBut t.extBut D.l1i1,Z.sm.extBut t.extBut D.l2i1,λc o n1 n2 n3 n4 r=>t.extBut _ _ n3 (Z.kp c o n1 n2 n3 n4 r),t.1.trans Z.sz⟩
def ZS.snd(Z:ZS QD QJ h₀ h z TI TO i j l m xs ys f p q a b)(D:ZipApart z TI TO i j l m)(e:QT QJ g j m (q+1))(t:Heap.SameBut j h g):ZS QD QJ h₀ g z TI TO i j l m xs ys f p (q+1) a b :=
 ⟨t.extBut _ _ D.i2z.symm Z.zo,t.extBut _ _ D.TIi2 Z.ti,t.extBut _ _ D.TOi2 Z.to,Z.wi.extBut t.extBut D.i12,e,Z.sl.extBut t.extBut D.l1i2,Z.sm.extBut t.extBut D.l2i2,λc o n1 n2 n3 n4 r=>t.extBut _ _ n4 (Z.kp c o n1 n2 n3 n4 r),t.1.trans Z.sz⟩
def ZS.put(Z:ZS QD QJ h₀ h z TI TO i j l m xs ys f p q a b)(D:ZipApart z TI TO i j l m)(e:IsPair g TO x y)(t:Heap.SameBut TO h g):ZS QD QJ h₀ g z TI TO i j l m xs ys f p q x y :=
 ⟨t.extBut _ _ D.TOz.symm Z.zo,t.extBut _ _ D.TITO Z.ti,e,Z.wi.extBut t.extBut D.TOi1.symm,Z.wj.extBut t.extBut D.TOi2.symm,Z.sl.extBut t.extBut D.l1TO,Z.sm.extBut t.extBut D.l2TO,λc o n1 n2 n3 n4 r=>t.extBut _ _ n2 (Z.kp c o n1 n2 n3 n4 r),t.1.trans Z.sz⟩
end
variable {z TI TO i j l m:Addr}
def VW{Q:Value->Shared->Prop}(hn:A.handled=none)(D:ZipApart z TI TO i j l m)(Z:ZS QD QJ s.heap s.heap z TI TO i j l m xs ys .none p q a b)
  (item:∀x y g g',xs[p]?=some x->ys[q]?=some y->ZS QD QJ s.heap g z TI TO i j l m xs ys .ellipsis (p+1) (q+1) x y->IsZip g' z TI TO (rawInt g.objs.size) ->
   Heap.SameBut z (g.push { cls:=.type "tuple",data:=.seq #[x,y] }) g'->Q (.ref g.objs.size) { s with heap:=g' })
  (over:(xs[p]?=none\/ys[q]?=none)->∀g e,(∀c o,c≠z->c≠TO->c≠i->c≠j->s.heap.get? c=some o->g.get? c=some o)->(∃o,g.get? e=some o/\o.cls=.type "StopIteration")->E (.ref e) { s with heap:=g }) :
  wpAny (model prog w) A (Builtin.«zip.__next__» ⟨[.ref z],[]⟩) (λr s'=>∃v,r=.done (.ret v)/\Q v s') E s:=by
 have stop:∀ {g1 g2:Heap}{e:Addr}{c:Addr}{p' q':Nat}{a' b':Value},ZS QD QJ s.heap g1 z TI TO i j l m xs ys .ellipsis p' q' a' b'->(c=i\/c=j)->(xs[p]?=none\/ys[q]?=none)->Heap.ExtBut c g1 g2 ->
   (∃o,g2.get? e=some o/\o.cls=.type "StopIteration")->wpAny (model prog w) A (setField (.ref z) 0 Value.none) (λ_ t=>E (.ref e) t) E { s with heap:=g2 }:=by
  intro g1 g2 e c p' q' a' b' Y hc hv k ⟨o,ho,ht⟩;have cz:z≠c:=hc.elim (λe=>e ▸ D.i1z.symm) λe=>e ▸ D.i2z.symm;have Yz:IsZip g2 z TI TO .ellipsis:=k _ _ cz Y.zo;refine kF Yz (by simp) λg3 _ t=>over hv g3 e (λd u n1 n2 n3 n4 r=>t.extBut _ _ n1 (k _ _ ?_ (Y.kp d u n1 n2 n3 n4 r))) ⟨o,t.extBut _ _ ?_ ho,ht⟩
  ·exact hc.elim (λe=>e ▸ n3) λe=>e ▸ n4
  ·rintro rfl;rw[Yz] at ho;cases ho;simp at ht
 show wpAny _ _ (field (.ref z) 2 >>= _) _ _ _;refine zS (qP Z.zo rfl (x:=.bool false) rfl (zS (qP Z.zo rfl (x:=.ref TI) rfl (zS (jT Z.ti rfl (zS (m:=Builtin.SmallTypes.ownedTupleIsFree _) ?_))))));refine zS (qP Z.zo rfl (x:=.none) rfl (zT ?_));rw[yH rfl];refine zS (wpAny_rule (zS (qP Z.zo rfl (x:=.ref TO) rfl (zS (kF Z.zo (by simp) λg1 e1 t1=>?_)))));have Z1:=Z.fl D (f':=.ellipsis) e1 t1;refine zS ?_;simp?[List.zipIdx_cons,List.zipIdx_nil,List.forIn_cons,List.forIn_nil];refine zS (zS (wpAny_onRaise (zS (m:=Builtin.SmallTypes.nextOf _) ?_)));cases hx:xs[p]? with
 | none=>exact T1 hn Z1.wi Z1.sl hx λg2 e k o=>stop Z1 (.inl rfl) (.inl hx) k o
 | some x =>
 refine XM Z1.wi Z1.sl hx λg2 e2 t2=>zT ?_;have Z2:=Z1.fst D e2 t2;refine zS (jT Z2.to rfl (zS (wpAny_updateSeq_pair Z2.to λg3 e3 t3=>zS (wpAny_letGo (zT ?_)))));have Z3:=Z2.put D (x:=x) (y:=b) e3 t3;refine zS (zS (wpAny_onRaise (zS (m:=Builtin.SmallTypes.nextOf _) ?_)));cases hy:ys[q]? with
 | none=>exact T1 hn Z3.wj Z3.sm hy λg4 e k o=>stop Z3 (.inr rfl) (.inr hy) k o
 | some y =>
 refine XM Z3.wj Z3.sm hy λg4 e4 t4=>zT ?_;have Z4:=Z3.snd D e4 t4;refine zS (jT Z4.to rfl (zS (wpAny_updateSeq_pair Z4.to λg5 e5 t5=>zS (wpAny_letGo (zT (zT ?_))))));have Z5:=Z4.put D (x:=x) (y:=y) e5 t5;refine zS (jT Z5.to rfl (zS (wpAny_newTuple (zS (m:=Builtin.SmallTypes.ownedTupleHandOut _ _) ?_))));refine zS (kF (zR _ Z5.zo) (by simp) λg6 e6 t6=>kF e6 (by simp) λg7 e7 t7=>zT ⟨_,rfl,?_⟩);exact item x y g5 g7 hx hy Z5 e7 (t6.trans t7)
def VX(hn:A.handled=none)(D:ZipApart z TI TO i j l m)
  (qz:IsZip s.heap z TI TO .none) (qI:IsPair s.heap TI (.ref i) (.ref j)) (qO:IsPair s.heap TO a b)
  (p1:QT QD s.heap i l p) (p2:QT QJ s.heap j m q) (r1:Q0 QD s.heap l xs) (r2:Q0 QJ s.heap m ys) (ex:xs[p]?=some x) (ey:ys[q]?=some y)
  (kQ:∀g,IsZip g z TI TO (rawInt s.heap.objs.size)->IsPair g TO x y->QT QD g i l (p+1)->QT QJ g j m (q+1)->IsPair g s.heap.objs.size x y->g.objs.size=s.heap.objs.size+1 ->
   (∀c o,c≠z->c≠TO->c≠i->c≠j->s.heap.get? c=some o->g.get? c=some o)->Q (some (.ref s.heap.objs.size)) { s with heap:=g }) :
  wpAny (model prog w) A (pyNext (.ref z)) Q E s:=by
 have ty:s.TypeIs (.ref z) "zip":=⟨_,qz,rfl⟩
 have Z:ZS QD QJ s.heap s.heap z TI TO i j l m xs ys .none p q a b:=⟨qz,qI,qO,p1,p2,r1,r2,λ_ _ _ _ _ _ e=>e,rfl⟩
 refine zS (jZ (xZ (name:=Str.ofString "__next__") ty kZ (qQ kZ ty F.entry_zip_next (VW hn D Z ?_ ?_) (F.args_zip_next_1 _))))
 ·intro x' y' g g' hx hy Y ez t;rw[ex] at hx;rw[ey] at hy;cases hx;cases hy;rw[Y.sz] at ez ⊢;have lt:=zV Y.zo;have up:∀c o,c≠z->g.get? c=some o->g'.get? c=some o:=λc o n e=>t.extBut _ _ n (zR _ e);refine zT (kQ g' ez (up _ _ D.TOz Y.to) (Y.wi.at λo e=>up _ _ D.i1z e) (Y.wj.at λo e=>up _ _ D.i2z e) ?_ (by rw[t.1,xF,Y.sz]) λc o n1 n2 n3 n4 e=>up c o n1 (Y.kp c o n1 n2 n3 n4 e));rw[<- Y.sz];exact t.extBut _ _ (jC lt) (zU _ rfl)
 ·intro no;rw[ex,ey] at no;rcases no with no|no<;>cases no
def U1(hn:A.handled=none)(D:ZipApart z TI TO i j l m)
  (qz:IsZip s.heap z TI TO .none) (qI:IsPair s.heap TI (.ref i) (.ref j)) (qO:IsPair s.heap TO a b)
  (p1:QT QD s.heap i l p) (p2:QT QJ s.heap j m q) (r1:Q0 QD s.heap l xs) (r2:Q0 QJ s.heap m ys) (ends:xs[p]?=none\/ys[q]?=none)
  (kQ:∀g,(∀c o,c≠z->c≠TO->c≠i->c≠j->s.heap.get? c=some o->g.get? c=some o)->Q none { s with heap:=g }):wpAny (model prog w) A (pyNext (.ref z)) Q E s:=by
 have ty:s.TypeIs (.ref z) "zip":=⟨_,qz,rfl⟩
 have Z:ZS QD QJ s.heap s.heap z TI TO i j l m xs ys .none p q a b:=⟨qz,qI,qO,p1,p2,r1,r2,λ_ _ _ _ _ _ e=>e,rfl⟩
 refine zS (jZ (xZ (name:=Str.ofString "__next__") ty kZ (qQ kZ ty F.entry_zip_next (VW hn D Z ?_ ?_) (F.args_zip_next_1 _))))
 ·intro x y g g' hx hy;rw[hx,hy] at ends;rcases ends with no|no<;>cases no
 ·rintro _ g e kp ⟨o,ho,ht⟩;exact zS (wpAny_isInstance (T:="StopIteration") (b:=true) ⟨o,ho,ht⟩ isSubtype_stop (zT (kQ _ kp)))
end
abbrev VY(b:Bool)(l:Addr):Obj:={ cls:=.type (if b then "tuple_iterator" else "list_iterator"),data:=.fields #[.ref l,.int 0 0] }
abbrev z1(b:Bool)(h:Heap)(l:Addr):Heap:=h.push (VY b l)
abbrev z2(b c:Bool)(h:Heap)(l m:Addr):Heap:=(z1 b h l).push (VY c m)
abbrev z3(b c:Bool)(h:Heap)(l m:Addr):Heap:=(z2 b c h l m).push { cls:=.type "tuple",data:=.seq #[.ref h.objs.size,.ref (z1 b h l).objs.size] }
abbrev z4(b c:Bool)(h:Heap)(l m:Addr):Heap:=(z3 b c h l m).push { cls:=.type "tuple",data:=.seq #[.none,.none] }
abbrev z5(b c:Bool)(h:Heap)(l m:Addr):Heap:=(z4 b c h l m).push { cls:=.type "zip",data:=.fields #[.none,.bool false,.bool false,.ref (z2 b c h l m).objs.size,.ref (z3 b c h l m).objs.size] }
def Q0.push(x:Q0 b h l xs)(o:Obj):Q0 b (h.push o) l xs:=x.at λo' e=>zR _ e
def T2(b c:Bool)(l m:Addr)(xs ys:Array Value):Meets (Builtin.«zip.__new__» ⟨[.type "zip",.ref l,.ref m],[]⟩) (λ_ R s=>Q0 b s.heap l xs/\Q0 c s.heap m ys/\R (.ok (.ret (.ref (z4 b c s.heap l m).objs.size))) { s with heap:=z5 b c s.heap l m }) :=
 .of_wp λprog w A R s h=>by
  let⟨hp,g,d,tk,os⟩:=s;let⟨q1,q2,h⟩:=h;have VN:=sub_zip;cases b<;>cases c
  ·have L1:Heap.IsList (Shared.heap ⟨hp,g,d,tk,os⟩) l xs:=q1;have L2:Heap.IsList (Shared.heap ⟨hp.push { cls:=.type "list_iterator",data:=.fields #[.ref l,.int 0 0] },g,d,tk,os⟩) m ys:=Q0.push (b:=false) q2 _
   wp_walk using qG L1,qG L2
   exact⟨_,rfl,h⟩
  ·have L1:Heap.IsList (Shared.heap ⟨hp,g,d,tk,os⟩) l xs:=q1;have L2:Heap.IsTuple (Shared.heap ⟨hp.push { cls:=.type "list_iterator",data:=.fields #[.ref l,.int 0 0] },g,d,tk,os⟩) m ys:=Q0.push (b:=true) q2 _
   wp_walk using qG L1,xO L2
   exact⟨_,rfl,h⟩
  ·have L1:Heap.IsTuple (Shared.heap ⟨hp,g,d,tk,os⟩) l xs:=q1;have L2:Heap.IsList (Shared.heap ⟨hp.push { cls:=.type "tuple_iterator",data:=.fields #[.ref l,.int 0 0] },g,d,tk,os⟩) m ys:=Q0.push (b:=false) q2 _
   wp_walk using xO L1,qG L2
   exact⟨_,rfl,h⟩
  ·have L1:Heap.IsTuple (Shared.heap ⟨hp,g,d,tk,os⟩) l xs:=q1;have L2:Heap.IsTuple (Shared.heap ⟨hp.push { cls:=.type "tuple_iterator",data:=.fields #[.ref l,.int 0 0] },g,d,tk,os⟩) m ys:=Q0.push (b:=true) q2 _
   wp_walk using xO L1,xO L2
   exact⟨_,rfl,h⟩
def Sq(e:h.get? it=some (VY b l)):QT b h it l 0:=by
 cases b
 ·exact⟨_,e,rfl,rfl⟩
 ·exact⟨_,e,rfl,rfl⟩
def Tj(q1:Q0 b s.heap l xs)(q2:Q0 c s.heap m ys)
  (h:∀g,IsZip g (s.heap.objs.size+4) (s.heap.objs.size+2) (s.heap.objs.size+3) .none->IsPair g (s.heap.objs.size+2) (.ref s.heap.objs.size) (.ref (s.heap.objs.size+1))->IsPair g (s.heap.objs.size+3) .none .none ->
   QT b g s.heap.objs.size l 0->QT c g (s.heap.objs.size+1) m 0->(∀a o,s.heap.get? a=some o->g.get? a=some o)->Q (.ref (s.heap.objs.size+4)) { s with heap:=g }) :
  wpAny (model prog w) A (call (.type "zip") [.ref l,.ref m]) Q E s:=by
 refine callType_new F.called_zip (by decide) (F.typeCall_zip_2 _ _) (F.newCall_zip_2 _ _) (λobj=>F.args_object_init_3 obj _ _) F.entry_zip_new (T2 b c l m xs ys) ⟨q1,q2,?_⟩;have n1:(z1 b s.heap l).objs.size=s.heap.objs.size+1:=xF ..;have n2:(z2 b c s.heap l m).objs.size=s.heap.objs.size+2:=by rw[xF,n1]
 have n3:(z3 b c s.heap l m).objs.size=s.heap.objs.size+3:=by rw[xF,n2]
 have n4:(z4 b c s.heap l m).objs.size=s.heap.objs.size+4:=by rw[xF,n3]
 have g5:(z5 b c s.heap l m).get? (z4 b c s.heap l m).objs.size=some _:=zU _ rfl;have g4:(z5 b c s.heap l m).get? (z3 b c s.heap l m).objs.size=some _:=zR _ (zU _ rfl);have g3:(z5 b c s.heap l m).get? (z2 b c s.heap l m).objs.size=some _:=zR _ (zR _ (zU _ rfl));have g2:(z5 b c s.heap l m).get? (z1 b s.heap l).objs.size=some (VY c m):=zR _ (zR _ (zR _ (zU _ rfl)));have g1:(z5 b c s.heap l m).get? s.heap.objs.size=some (VY b l):=zR _ (zR _ (zR _ (zR _ (zU _ rfl))));show _/\_;rw[n2,n3,n4] at g5;rw[n1,n2] at g3;rw[n3] at g4;rw[n1] at g2;rw[n4];exact⟨⟨_,g5,rfl⟩,h _ g5 g3 g4 (Sq g1) (Sq g2) λa o x=>zR _ (zR _ (zR _ (zR _ (zR _ x))))⟩
end Zp
namespace Dl
open PySem L2 PySem.Spec PyProof.Rows Zp
def p6(K:W.Frag)(b:Bool)(a:Addr)(H:Hp)(xs:List V):Prop:=match b with|true=>fU K H a xs|false=>dM K H a xs
def p6.src(I:Inv X pins σ H s)(h:p6 X.K b a H xs):∃its:List Value,aD xs its/\Q0 b s.heap a its.toArray/\xs.length<=sizeLine:=by
 cases b
 ·let⟨its,rv,pl,hz⟩:=I.list (show dM X.K H a xs from h);exact⟨its,rv,pl.isList,hz⟩
 ·let⟨its,rv,pl,hz⟩:=I.tuple (show fU X.K H a xs from h);exact⟨its,rv,pl,hz⟩
def p6.ne(I:Inv X pins σ H s)(hf:d9 X pins H c)(h:p6 X.K b a H xs):a≠c:=by
 cases b
 ·exact Kg I hf h
 ·exact Jd I hf h
def p6.inj(I:Inv X pins σ H s)(h:p6 X.K b a H xs)(h':p6 X.K b a H ys):xs=ys:=by
 cases b
 ·exact I.RI h h'
 ·exact I.Rv h h'
def p6.mono{K:W.Frag}(e:aM H H')(h:p6 K b a H xs):p6 K b a H' xs:=by
 cases b
 ·exact e.seq h
 ·exact av e h
def Ba{K:W.Frag}(b c:Bool)(l1 l2 z TI TO i1 i2:Addr)(Z:PR z TI TO i1 i2) :
  Turn P w K (.Tuple elts k pos) (Oe (p6 K b l1) (p6 K c l2)) [z,TI,TO,i1,i2] z (λi h=>IsZip h z TI TO .none/\IsPair h TI (.ref i1) (.ref i2)/\(∃a b,IsPair h TO a b)/\QT b h i1 l1 i/\QT c h i2 l2 i) where
 mem:=by simp
 obj:=λi h st d hd=>by
  let⟨hz,T3,⟨a,b',Us⟩,p1,p2⟩:=st;simp?[zQ,yC,xQ] at hd;rcases hd with rfl|rfl|rfl|rfl|rfl
  ·exact⟨_,hz,λv q=>by have q:Data.fields _=Data.cell v:=q;cases q⟩
  ·exact⟨_,T3,λv q=>by have q:Data.seq _ _=Data.cell v:=q;cases q⟩
  ·exact⟨_,Us,λv q=>by have q:Data.seq _ _=Data.cell v:=q;cases q⟩
  ·exact p1.obj
  ·exact p2.obj
 keep:=λi h h' st kk=>by
  let⟨hz,T3,⟨a,b',Us⟩,h1,h2⟩:=st;exact⟨kk z (by simp) _ hz,kk TI (by simp) _ T3,⟨a,b',kk TO (by simp) _ Us⟩,h1.at λo q=>kk i1 (by simp) o q,h2.at λo q=>kk i2 (by simp) o q⟩
 item:=by
  intro X hP hw hK hc i pins s σ H E I hf st hg;subst hP hw hK;let⟨xs,ys,x,y,RU,RV,hx,hy⟩:=hg;let⟨XN,XO,p1,hz1⟩:=RU.src I;let⟨Q4,XQ,p2,hz2⟩:=RV.src I;let⟨u1,hu1,ru1⟩:=XO.get hx;let⟨u2,hu2,ru2⟩:=XQ.get hy;have D:ZipApart z TI TO i1 i2 l1 l2:=⟨Z.a1,Z.a2,Z.a3,Z.a4,Z.a5,Z.a6,Z.a7,Z.a8,Z.a9,Z.a0,RU.ne I (hf z (by simp)),RU.ne I (hf TO (by simp)),RU.ne I (hf i1 (by simp)),RU.ne I (hf i2 (by simp)),RV.ne I (hf z (by simp)),RV.ne I (hf TO (by simp)),RV.ne I (hf i1 (by simp)),RV.ne I (hf i2 (by simp))⟩
  let⟨hz,T3,⟨a,b',Us⟩,h1,h2⟩:=st;refine VX (I.ok.hd hc) D hz T3 Us h1 h2 p1 p2 (x:=u1) (y:=u2) (by simpa using hu1) (by simpa using hu2) λg b1 b2 b3 b4 b5 b6 hk=>⟨.ref s.heap.objs.size,rfl,?_⟩
  have lt:∀ {c:Addr}{o:Obj},s.heap.get? c=some o->s.heap.objs.size≠c:=λe=>jC (zV e);refine wpAny_letOwnedTupleGo_zip (s:={ s with heap:=g }) b1 λg' Uo RO=>?_;have Y3:g'.get? s.heap.objs.size=some { cls:=.type "tuple",data:=.seq #[u1,u2] }:=RO.extBut _ _ (lt hz) b5;have ht:mF g' s.heap.objs.size (List.toArray [u1,u2]):=⟨⟨_,Y3,rfl,_,rfl⟩,_,Y3,rfl⟩
  refine⟨.ref s.heap.objs.size,_,uh (ch:=[z,TI,TO,i1,i2]) (xs:=[x,y]) (t':=s.toks) I hf (λb o hb q=>?_) (yI _) ht (.cons ru1 (.cons ru2 .nil)) (by show 2<=sizeLine;decide),rfl,
   ⟨s.heap.objs.size,x,y,rfl,I.fresh,rfl,λzs VZ=>by rw[VZ.inj I RU];exact hx,λzs VZ=>by rw[VZ.inj I RV];exact hy⟩,
   ⟨Uo,RO.extBut _ _ Z.a1 (hk _ _ D.TIz D.TITO D.TIi1 D.TIi2 T3),⟨_,_,RO.extBut _ _ Z.a2 b2⟩,b3.extBut RO.extBut Z.a3,b4.extBut RO.extBut Z.a4⟩,λb hb=>?_⟩
  ·simp?[zQ,yC,xQ,not_or] at hb;exact RO.extBut _ _ hb.1 (hk b o hb.1 hb.2.2.1 hb.2.2.2.1 hb.2.2.2.2 q)
  ·have:s.heap.objs.size≠b:=by
    simp?[zQ,yC,xQ] at hb;let⟨o1,g1,_⟩:=h1.obj;let⟨o2,g2,_⟩:=h2.obj;rcases hb with rfl|rfl|rfl|rfl|rfl
    ·exact lt hz
    ·exact lt T3
    ·exact lt Us
    ·exact lt g1
    ·exact lt g2
   rw[ay (jG this)];exact (hf b hb).1
 done:=by
  intro X hP hw hK hc i pins s σ H E I hf st hg;subst hP hw hK;let⟨xs,ys,RU,RV,hx⟩:=hg;let⟨XN,XO,p1,hz1⟩:=RU.src I;let⟨Q4,XQ,p2,hz2⟩:=RV.src I;have D:ZipApart z TI TO i1 i2 l1 l2:=⟨Z.a1,Z.a2,Z.a3,Z.a4,Z.a5,Z.a6,Z.a7,Z.a8,Z.a9,Z.a0,RU.ne I (hf z (by simp)),RU.ne I (hf TO (by simp)),RU.ne I (hf i1 (by simp)),RU.ne I (hf i2 (by simp)),RV.ne I (hf z (by simp)),RV.ne I (hf TO (by simp)),RV.ne I (hf i1 (by simp)),RV.ne I (hf i2 (by simp))⟩
  let⟨hz,T3,⟨a,b',Us⟩,h1,h2⟩:=st;have e1:=XO.length;have e2:=XQ.length;refine U1 (I.ok.hd hc) D hz T3 Us h1 h2 p1 p2 (hx.elim (λq=>.inl (by simp;lia)) λq=>.inr (by simp;lia)) λg hk=>⟨rfl,?_⟩
  refine AJ (ch:=[z,TI,TO,i1,i2]) (t':=s.toks) I hf λb o hb q=>?_;simp?[zQ,yC,xQ,not_or] at hb;exact hk b o hb.1 hb.2.2.1 hb.2.2.2.1 hb.2.2.2.2 q
 self:=λ_ _ _ _ _ st h=>wpAny_pyIter_zip st.1 h
def G8(B:l7 X "zip" (.type "zip"))(ha:PA X [l,l'] tl)(hs:starEach [l,l'] X.env=(false,eval l X.env)::starEach [l'] X.env)(Vn:(backTo pos (starEach [l'] X.env)).any (·.1)=false) :
  PI X (.Tuple elts k tp) (.Call (.Name "zip" p) [l,l'] [] pos) (λσ H R=>tl σ H λvs H1=>∃a b,vs=[.ref a,.ref b]/\∃c d xs ys,p6 X.K c a H1 xs/\p6 X.K d b H1 ys/\R (Oe (p6 X.K c a) (p6 X.K d b)) H1):=by
 intro pins s σ H R I h;refine Call_ (gR I B.gl B.mg B.bt (qN (bg (ha pos pins s σ H _ I h) λus s1 ⟨vs,H1,I1,r1,q1⟩=>?_) hs Vn));let⟨a,b,e,c,d,xs,ys,RU,RV,q⟩:=q1;subst e;let⟨u,u',rfl,rx,ry⟩:=vals2 r1;cases rx;cases ry;let⟨its,rv,pl,hz⟩:=RU.src I1;let⟨its',rv',pl',Uo⟩:=RV.src I1;refine Tj pl pl' λg b1 b2 b3 b4 b5 kp=>wpAny_pyIter_zip (s:={ s1 with heap:=g }) b1 ?_;refine⟨_,_,_,_,H1,rfl,I1.kept (t':=s1.toks) kp,Ba c d a b (s1.heap.objs.size+4) (s1.heap.objs.size+2) (s1.heap.objs.size+3) s1.heap.objs.size (s1.heap.objs.size+1) ?_,⟨b1,b2,⟨_,_,b3⟩,b4,b5⟩,λc hc=>?_,q⟩
 ·constructor<;>(intro z;have z:(_:Nat)=_:=z;lia)
 ·have Ul:s1.heap.objs.size<=c:=by
   simp?[zQ,yC,xQ] at hc;rcases hc with rfl|rfl|rfl|rfl|rfl
   ·exact jN _ _
   ·exact jN _ _
   ·exact jN _ _
   ·exact yI _
   ·exact jN _ _
  exact I1.Rm Ul (I1.Qt.fresh Ul)
def Mo:List D->Option (List D):=λds=>match ds with
 | [x,y]=>(gV x).bind λxs=>(gV y).map λys=>mJ xs ys
 | _=>none
def wF{K:W.Frag}(h:gV d=some xs)(r:Rep K HF d v):∃b a vs,v=.ref a/\p6 K b a HF vs/\ar K HF xs vs:=by
 rcases gH h with rfl|rfl
 ·simp?[Rep] at r;let⟨a,vs,rfl,q,rr⟩:=r;exact⟨true,a,vs,rfl,q,rr⟩
 ·simp?[Rep] at r;let⟨a,vs,rfl,q,rr⟩:=r;exact⟨false,a,vs,rfl,q,rr⟩
def IJ(fs:Env->Option (List D)):Env->Option (List D):=λρ=>(fs ρ).bind Mo
def HC(B:l7 X "zip" (.type "zip"))(hs:starEach [l,l'] X.env=(false,eval l X.env)::starEach [l'] X.env)(Vn:(backTo pos (starEach [l'] X.env)).any (·.1)=false)(h:DA X [l,l'] fs) :
  DI X (.Tuple elts k tp) (.Call (.Name "zip" p) [l,l'] [] pos) (IJ fs) :=
 nY (G8 B h hs Vn) λσ H R ⟨HF,ρ,ds,sm,eo,hf,q⟩=>by
  let⟨x,hx,hf⟩:=bs hf;refine⟨HF,ρ,_,sm,eo,hx,λvs H1 Qr g1 r1=>?_⟩;unfold Mo at hf;split at hf
  ·let⟨xs,h1,hf⟩:=bs hf;let⟨ys,h2,rfl⟩:=af hf;let⟨v,r',rfl,a,b⟩:=r1.cons_inv;let⟨v',r'',rfl,a',b'⟩:=b.cons_inv;rw[b'.nil_inv];let⟨c,ad,us,rfl,hq,rr⟩:=wF h1 a;let⟨c',ad',us',rfl,Y4,XR⟩:=wF h2 a';exact⟨ad,ad',rfl,c,c',us,us',hq.mono g1.fh,Y4.mono g1.fh,q _ H1 Qr g1 (Ct hq (λ_ _ s h=>h.mono s) Y4 (λ_ _ s h=>h.mono s) rr XR)⟩
  ·cases hf
end Dl
namespace Zp
open PySem PyProof.Rows
def QT.ne(x:QT b h it l k)(y:Q0 b h l xs):l≠it:=by
 rintro rfl;cases b
 ·let⟨o,e,c,d⟩:=(show h.IsListIter l l k from x)
  let⟨o',e',r⟩:=(show h.IsList l xs from y)
  rw[e] at e';cases e';simp_all
 ·let⟨o,e,c,d⟩:=(show h.IsTupleIter l l k from x)
  let⟨o',e',r⟩:=(show h.IsTuple l xs from y)
  rw[e] at e';cases e';simp_all
def U2(hn:A.handled=none)(b:Bool)(it l:Addr)(xs:Array Value):Draws prog w A it [it,l] xs.size (λi x=>xs[i]?=some x) (λi h=>QT b h it l i/\Q0 b h l xs) where
 live:=λi h st=>let ⟨o,e,_⟩:=st.1.obj;⟨o,e⟩
 frame:=λi h h' st k=>⟨st.1.at (k it (by simp)),st.2.at (k l (by simp))⟩
 item:=λi s Q E hi st hQ=>XM st.1 st.2 (v:=xs[i]) (by simp[hi]) λg e t=>hQ _ g s.toks (by simp[hi]) ⟨e,st.2.extBut t.extBut (st.1.ne st.2)⟩ t
 done:=λs Q E st hE=>T1 hn st.1 st.2 (by simp) hE
def V0{QD:Bool}{e it l:Addr}{i:Nat}{items:Array Value}{x old:Value}{Q:Option Value->Shared->Prop}(hn:A.handled=none)
  (qe:IsEnum s.heap e it i old) (qi:QT QD s.heap it l i) (ql:Q0 QD s.heap l items) (ex:items[i]?=some x) (Y5:e≠it)
  (kQ:∀g tk,IsEnumOut g e it ((i:Int)+1) x s.heap.objs.size->QT QD g it l (i+1)->g.get? s.heap.objs.size=some { cls:=.type "tuple",data:=.seq #[.int i tk,x] } ->
   g.objs.size=s.heap.objs.size+1->(∀c o,c≠e->c≠it->s.heap.get? c=some o->g.get? c=some o)->Q (some (.ref s.heap.objs.size)) { s with heap:=g,toks:=tk+1 }) :
  wpAny (model prog w) A (pyNext (.ref e)) Q E s:=by
 have nel:e≠l:=by
  rintro rfl;cases QD
  ·let⟨o,e1,r⟩:=(show s.heap.IsList e items from ql)
   rw[qe] at e1;cases e1;simp at r
  ·let⟨o,e1,r⟩:=(show s.heap.IsTuple e items from ql)
   rw[qe] at e1;cases e1;simp at r
 have D:Draws prog w A.in1 it [it,l] items.size (λi x=>items[i]?=some x) (λi h=>QT QD h it l i/\Q0 QD h l items):=U2 (A:=A.in1) hn QD it l items;refine wpAny_pyNext_enum_itemD D qe ⟨qi,ql⟩ (Array.getElem?_eq_some_iff.mp ex).1 Y5 (by simp[Y5,nel]) λy g tk hy a b c d k=>?_;rw[ex] at hy;cases hy;exact kQ g tk a b.1 c d k
end Zp
namespace Dl
open PySem L2 PySem.Spec PyProof.Rows Zp
def nH{K:W.Frag}(b:Bool)(a it e:Addr)(Y6:e≠it):Turn P w K (.Tuple elts k pos) (Ox (p6 K b a)) [e,it] e (λi h=>(∃old,IsEnum h e it i old)/\QT b h it a i) where
 mem:=by simp
 obj:=λi h st c hc=>by
  let⟨⟨old,he⟩,hi⟩:=st;rcases List.mem_cons.mp hc with z|z
  ·subst z;exact⟨_,he,λv q=>by have q:Data.fields _=Data.cell v:=q;cases q⟩
  ·rw[List.mem_singleton.mp z];exact hi.obj
 keep:=λi h h' st kk=>⟨let ⟨old,he⟩:=st.1;⟨old,kk e (by simp) _ he⟩,st.2.at λo q=>kk it (by simp) o q⟩
 item:=by
  intro X hP hw hK hc i pins s σ H E I hf st hg;subst hP hw hK;let⟨xs,x,hq,hx⟩:=hg;let⟨its,rv,p,hz⟩:=hq.src I;let⟨u,hu,ru⟩:=rv.get hx;let⟨⟨old,he⟩,hi⟩:=st;refine V0 (I.ok.hd hc) he hi p (x:=u) (by simpa using hu) Y6 λg tk b1 b2 b3 b4 hk=>⟨.ref s.heap.objs.size,rfl,?_⟩
  have lt:∀ {c:Addr}{o:Obj},s.heap.get? c=some o->s.heap.objs.size≠c:=λe=>jC (zV e);have TM:s.heap.objs.size≠e:=lt he;refine wpAny_letOwnedTupleGo_enum (s:={ s with heap:=g,toks:=tk+1 }) b1 λg' TZ RO=>?_;have Y7:g'.get? s.heap.objs.size=some { cls:=.type "tuple",data:=.seq #[.int i tk,u] }:=RO.extBut _ _ TM b3;have ht:mF g' s.heap.objs.size (List.toArray [Value.int (i:Nat) tk,u]):=⟨⟨_,Y7,rfl,_,rfl⟩,_,Y7,rfl⟩
  refine⟨.ref s.heap.objs.size,_,uh (ch:=[e,it]) (xs:=[.int (i:Nat),x]) (t':=tk+1) I hf (λc o hb q=>?_) (yI _) ht (.cons ⟨_,rfl⟩ (.cons ru .nil)) (by show 2<=sizeLine;decide),rfl,
   ⟨s.heap.objs.size,x,rfl,I.fresh,rfl,λzs VZ=>by rw[VZ.inj I hq];exact hx⟩,⟨⟨_,TZ⟩,b2.extBut RO.extBut (jG Y6)⟩,λc Ri=>?_⟩
  ·simp?[zQ,yC,xQ,not_or] at hb;exact RO.extBut _ _ hb.1 (hk c o hb.1 hb.2 q)
  ·have:s.heap.objs.size≠c:=by
    simp?[zQ,yC,xQ] at Ri;let⟨o1,g1,_⟩:=hi.obj;rcases Ri with rfl|rfl
    ·exact lt he
    ·exact lt g1
   rw[ay (jG this)];exact (hf c Ri).1
 done:=by
  intro X hP hw hK hc i pins s σ H E I hf st hg;subst hP hw hK;let⟨xs,hq,hx⟩:=hg;let⟨its,rv,p,hz⟩:=hq.src I;have hh:X.A.in1.handled=none:=I.ok.hd hc;have hl:=rv.length;let⟨⟨old,he⟩,hi⟩:=st;have hT:s.TypeIs (.ref e) "enumerate":=⟨_,he,rfl⟩
  unfold pyNext;refine zS (jZ (xZ (name:=Str.ofString "__next__") hT F.slot_enumerate_next (qQ F.slot_enumerate_next hT F.entry_enumerate_next ?_ (F.args_enumerate_next_1 _))));refine zS (m:=field (.ref e) 2) (qP he rfl (x:=.ref it) rfl ?_);refine zS (T1 hh hi p (by simp;lia) λh1 x k1 hx1=>?_);let⟨o,ho,hc1⟩:=hx1;refine zS (wpAny_isInstance (T:="StopIteration") (b:=true) ⟨o,ho,hc1⟩ isSubtype_stop (zT ⟨rfl,?_⟩));let⟨f0,f1,f2,f3,f4,f5⟩:=hf it (by simp);exact I.turned (t':=s.toks) (λb o hb q=>k1 b o hb q) f0 f1 f3 f4 f5
 self:=λ_ _ _ _ _ st h=>let ⟨_,he⟩:=st.1;vP he h
def Gv(B:l7 X "enumerate" (.type "enumerate"))(ha:PA X [l] tl)(hs:starEach [l] X.env=[(false,eval l X.env)]):PI X (.Tuple elts k tp) (.Call (.Name "enumerate" p) [l] [] pos) (λσ H R=>tl σ H λvs H1=>∃a,vs=[.ref a]/\∃b xs,p6 X.K b a H1 xs/\R (Ox (p6 X.K b a)) H1):=by
 intro pins s σ H R I h;refine Call_ (gR I B.gl B.mg B.bt (qN (bg (ha pos pins s σ H _ I h) λus s1 ⟨vs,H1,I1,r1,q1⟩=>?_) hs rfl));let⟨a,e,b,xs,hq,q⟩:=q1;subst e;let⟨u,rfl,rx⟩:=vals1 r1;cases rx;have fresh:∀b∈[s1.heap.objs.size+1,s1.heap.objs.size],d9 X pins H1 b:=λb hb=>by
  rcases List.mem_cons.mp hb with z|z
  ·subst z;exact I1.Rm (Nat.le_succ _) (I1.Qt.fresh (Nat.le_succ _))
  ·cases List.mem_singleton.mp z;exact I1.Rm (yI _) I1.fresh
 let⟨its,rv,pl,hz⟩:=hq.src I1;cases b with
 | false =>
  refine call_enumerate_list pl λh' he hit Se kp=>vP (s:={ s1 with heap:=h' }) he ?_;exact⟨_,_,_,_,H1,rfl,I1.kept (t':=s1.toks) kp,nH false a s1.heap.objs.size (s1.heap.objs.size+1) (Nat.succ_ne_self _),⟨⟨_,he⟩,hit⟩,fresh,q⟩
 | true =>
  refine En.R6 (show s1.heap.IsTuple a its.toArray from pl) λh' he hit Se kp=>vP (s:={ s1 with heap:=h' }) he ?_;exact⟨_,_,_,_,H1,rfl,I1.kept (t':=s1.toks) kp,nH true a s1.heap.objs.size (s1.heap.objs.size+1) (Nat.succ_ne_self _),⟨⟨_,he⟩,hit⟩,fresh,q⟩
def sN(fs:Env->Option (List D)):Env->Option (List D):=λρ=>(fs ρ).bind λds=>(cf ds).map (eE 0)
def Hf(B:l7 X "enumerate" (.type "enumerate"))(h:DA X [l] fs)(hs:starEach [l] X.env=[(false,eval l X.env)]):DI X (.Tuple elts k tp) (.Call (.Name "enumerate" p) [l] [] pos) (sN fs) :=
 nY (Gv B h hs) λσ H R ⟨HF,ρ,ds,sm,eo,hf,q⟩=>by
  let⟨x,hx,hf⟩:=bs hf;let⟨es,h1,rfl⟩:=af hf;let⟨d,h0,h1⟩:=bs h1;rw[eY h0] at hx;refine⟨HF,ρ,_,sm,eo,hx,λvs H1 Qr g1 r1=>?_⟩;let⟨v,r',rfl,a,b⟩:=r1.cons_inv;rw[b.nil_inv];let⟨c,ad,us,rfl,hq,rr⟩:=wF h1 a;exact⟨ad,rfl,c,us,hq.mono g1.fh,q _ H1 Qr g1 (AC hq (λ_ _ s h=>h.mono s) rr)⟩
end Dl
namespace Tf
open PySem PySem.W PySem.Calls PyProof.Rows L2
end Tf
namespace Dl
open PySem L2 PySem.Spec PyProof.Rows
section
structure Ib(X:Cx)(qual:Str):Prop where
 ex:∃c P,X.env.code=.ref c/\X.env.qual++"<lambda>"=qual/\W.codeHdIn X.K c P=true/\∀HF,dz X.K HF->HF P=some (.tab qual)
variable {fl te:Env->Option D}{cs:List Nat}
end
end Dl
namespace Tf
open PySem PySem.W PySem.Calls PyProof.Rows L2
end Tf
namespace Dl
open PySem L2 PySem.Spec PyProof.Rows
section
variable {cs:List Nat}
end
def OR(i j l:Nat):Env->D->Option Env:=λρ d=>match d with
 | .tuple [x,y,z]=>if isFree ρ i=true/\isFree ρ j=true/\isFree ρ l=true then some (((ρ.set i (some x)).set j (some y)).set l (some z)) else none
 | _=>none
def D8(i j l:Nat)(hc:X.calm=true)(hN:X.N.Nodup)(hi:X.N[i]?=some x)(hx:Loc X.env.scope x)(hj:X.N[j]?=some y)(hy:Loc X.env.scope y)(hl:X.N[l]?=some z)(hz:Loc X.env.scope z)
  (hf:X.fn x=true\/X.env.scope.names.lookup x=some .local) (Tu:X.fn y=true\/X.env.scope.names.lookup y=some .local) (XU:X.fn z=true\/X.env.scope.names.lookup z=some .local) :
  DG X (.Tuple [.Name x px,.Name y py,.Name z pz] k pos) (OR i j l) :=
 lP (oo hc (cv (cQ hN hi hx hf) (cv (cQ hN hj hy Tu) (cv (cQ hN hl hz XU) la)))) λv σ H Q ⟨HF,ρ,d,ρ',sm,eo,r,hf,q⟩=>by
  unfold OR at hf;split at hf
  ·rename_i x' y' z';split at hf
   ·rename_i hh;cases hf;simp?[Rep] at r;let⟨a,vs,rfl,hs,rr⟩:=r;let⟨v1,r1,rfl,a1,b1⟩:=rr.cons_inv;let⟨v2,r2,rfl,a2,b2⟩:=b1.cons_inv;let⟨v3,r3,rfl,a3,b3⟩:=b2.cons_inv;rw[b3.nil_inv] at hs;exact⟨a,_,rfl,av sm hs,rfl,v1,_,rfl,v2,_,rfl,v3,_,rfl,rfl,q _ (iP (iP (iP eo a1) a2) a3) (i5 (i5 (i5 eo hh.1) hh.2.1) hh.2.2)⟩
   ·cases hf
  ·cases hf
def AF(d:D):List D->Option Nat
 | []=>none
 | x::xs=>if PyData.eqv x d=true then some 0 else (AF d xs).map (·+1)
def pJ:∀ {xs:List D}{j:Nat},AF d xs=some j->j < xs.length/\(∀x,xs[j]?=some x->PyData.eqv x d=true)/\∀m,m < j->∀x,xs[m]?=some x->PyData.eqv x d=false
 | [],j,h=>by cases h
 | x::xs,j,h=>by
  unfold AF at h;split at h
  ·cases h;rename_i e;exact⟨Nat.succ_pos _,λy hy=>by cases hy;exact e,λm hm=>absurd hm (kW _)⟩
  ·rename_i e;let⟨k,hk,rfl⟩:=af h;let⟨a,b,c⟩:=pJ hk;refine⟨by simpa using a,λy hy=>b y (by simpa using hy),λm hm y hy=>?_⟩;cases m with
   | zero=>cases hy;simpa using e
   | succ m=>exact c m (by lia) y (by simpa using hy)
def E3(i j k l:Nat):au->D->Option au:=λρ d=>match d with
 | .tuple [x,.tuple [a,b,c]]=>some ((((ρ.set i (.val x)).set j (.val a)).set k (.val b)).set l (.val c))
 | _=>none
def JL(i j k l:Nat)(hc:X.calm=true)(hN:X.N.Nodup)(hi:X.N[i]?=some x)(hx:Loc X.env.scope x)(hj:X.N[j]?=some y)(hy:Loc X.env.scope y)(hk:X.N[k]?=some z)(hz:Loc X.env.scope z)(hl:X.N[l]?=some w)(hw:Loc X.env.scope w)
  (f1:X.fn x=true\/X.env.scope.names.lookup x=some .local) (f2:X.fn y=true\/X.env.scope.names.lookup y=some .local) (f3:X.fn z=true\/X.env.scope.names.lookup z=some .local) (f4:X.fn w=true\/X.env.scope.names.lookup w=some .local) :
  MV X Qm Qn (.Tuple [.Name x px,.Tuple [.Name y py,.Name z pz,.Name w pw] m p2] n pos) (E3 i j k l) :=
 lP (oo hc (cv (cQ hN hi hx f1) (cv (oo hc (cv (cQ hN hj hy f2) (cv (cQ hN hk hz f3) (cv (cQ hN hl hw f4) la)))) la))) λv σ H Q ⟨HF,ρ,d,ρ',S,r,hf,q⟩=>by
  unfold E3 at hf;split at hf
  ·cases hf;simp?[Rep] at r;let⟨a,vs,rfl,hs,rr⟩:=r;let⟨v1,r1,rfl,a1,b1⟩:=rr.cons_inv;let⟨v2,r2,rfl,a2,b2⟩:=b1.cons_inv;rw[b2.nil_inv] at hs;simp?[Rep] at a2;let⟨a',TU,rfl,RO,XR⟩:=a2;let⟨v3,r3,rfl,a3,b3⟩:=XR.cons_inv;let⟨v4,r4,rfl,a4,b4⟩:=b3.cons_inv;let⟨v5,r5,rfl,a5,b5⟩:=b4.cons_inv;rw[b5.nil_inv] at RO;exact⟨a,_,rfl,av S.gr.fh hs,rfl,v1,_,rfl,_,_,rfl,⟨a',_,rfl,av S.gr.fh RO,rfl,v3,_,rfl,v4,_,rfl,v5,_,rfl,rfl,rfl,q _ ((((S.Rr a1).Rr a3).Rr a4).Rr a5)⟩⟩
  ·cases hf
def Nx(x y:D):Option Bool:=match y with
 | .tuple ds=>if SeqAt.shaped x=true/\SeqAt.shaped y=true then some (!ds.any λz=>PyData.eqv z x) else none
 | .list ds=>if SeqAt.shaped x=true/\SeqAt.shaped y=true then some (!ds.any λz=>PyData.eqv z x) else none
 | _=>none
def Ci(hu:X.A.units+66 < cLine):eZ X (compareOp .NotIn) (KH X.K Nx):=by
 intro pins s σ H v1 v2 u1 u2 Q I rx ry h;let⟨HF,x,y,k,sm,r1,r2,hg,q⟩:=h;let⟨as,ra⟩:=cE I sm r1 rx;let⟨bs,rb⟩:=cE I sm r2 ry;cases y<;>simp?[Nx] at hg<;>try cases hg
 all_goals
  split at hg<;>cases hg;rename_i ds hh;have c1:=jV hh.1;have c2:=jV hh.2;have d1:=SeqAt.depth_of_shaped hh.1;simp?[PyData.canLay0] at c2;have m:=Nat.min_le_right (PyData.depthAll ds) x.depth
  first
   | exact SeqAt.notIn_list_reads rb ra c2 c1 (by lia) ⟨.bl _,H,I,rfl,q⟩
   | exact SeqAt.notIn_tuple_reads rb ra c2 c1 (by lia) ⟨.bl _,H,I,rfl,q⟩
def uv:D->D->Option D:=λx y=>(Nx x y).map PyData.bool
def Bk.V1(C:Bk X N sc k)(ha:DE X a fa)(hb:DE X b fb)(hm:behindInMarks .NotIn b=false:=by rfl):DE X (.Compare a [.NotIn] [b] pos) (f2 uv fa fb):=eS (Ci C.VR) dY ha hb hm
def Bk.XW(C:Bk X N sc k)(ha:DE X a fa)(hb:DE X b fb)(hm:behindInMarks .NotIn b=false:=by rfl):DT X (.Compare a [.NotIn] [b] pos) (fB (f2 uv fa fb)):=eH (Ci C.VR) dY ha hb hm
structure Pb(h:Heap)(v:Value)(r:List Int):Prop where
 ex:∃ (a:Addr) (o:Obj) (n:Nat) (p:Value) (x y m:Int) (t:Tok),v=.ref a/\r=[x,y,m]/\h.get? a=some o/\o.cls=.type "tuple"/\o.data=.seq #[p,.int m t] n/\qx h p [x,y]
end Dl
namespace HT
open PySem PyProof.Rows
section
open PySem.SeqAt
open PySem.AutoSeq1 (wpAny_loadPart')
open PySem.MeetsSeq PySem.MeetsSeq2 PySem.MeetsSeq3
end
end HT
namespace Dl
open PySem L2 PySem.Spec PyProof.Rows
section
variable {fl te:Env->Option D}{cs:List Nat}
end
def strsOf:List D->Option (List Str)
 | []=>some []
 | .str x::r=>(strsOf r).map (x::·)
 | _::_=>none
def mi:∀ {ds:List D}{xs:List Str},strsOf ds=some xs->ds=xs.map PyData.str
 | [],xs,h=>by cases h;rfl
 | d::ds,xs,h=>by
  cases d<;>try cases h
  let⟨ys,h1,rfl⟩:=af (show (strsOf ds).map _=some xs from h);rw[zI,<- mi h1]
def oN:∀xs:List Str,strsOf (xs.map PyData.str)=some xs
 | []=>rfl
 | x::xs=>by rw[zI,strsOf,oN xs];rfl
def pG{K:W.Frag}:∀ {xs:List Str}{vs:List V},ar K H (xs.map PyData.str) vs->vs=xs.map V.str
 | [],vs,h=>h.nil_inv
 | x::xs,vs,h=>by
  let⟨v,r,rfl,a,c⟩:=h.cons_inv;simp?[Rep] at a;rw[a,pG c];rfl
def lr{K:W.Frag}:∀xs:List Str,ar K H (xs.map PyData.str) (xs.map V.str)
 | []=>ar.nil
 | x::xs=>ar.cons (by simp[Rep]) (lr xs)
def pj:∀ {xs:List Str}{us:List Value},aD (xs.map V.str) us->∃l:List (Str×Tok),us=strValues l/\l.map (·.1)=xs
 | [],us,h=>by cases h;exact⟨[],rfl,rfl⟩
 | x::xs,us,h=>by
  rw[zI] at h;cases h with
  | cons r rr =>
   let⟨t,rfl⟩:=r;let⟨l,rfl,e⟩:=pj rr;exact⟨(x,t)::l,rfl,by rw[zI,e]⟩
def kq:∀l:List (Str×Tok),aD ((l.map (·.1)).map V.str) (strValues l)
 | []=>.nil
 | (x,t)::l=>.cons ⟨t,rfl⟩ (kq l)
def d0:D->D->Option D
 | .str a,.str b=>if a.length+b.length<=sizeLine then some (.str (a++b)) else none
 | _,_=>none
def B7{K:W.Frag}:dP K (λx y H Q=>∃i j,x=.str i/\y=.str j/\i.length+j.length<=sizeLine/\Q (.str (i++j)) H) d0:=by
 intro HF H x y v1 v2 d Q sm r1 r2 hg q;cases x<;>try cases hg
 cases y<;>try cases hg
 rename_i a b;have hg:(if a.length+b.length<=sizeLine then some (PyData.str (a++b)) else none)=some d:=hg;split at hg
 ·rename_i hz;cases hg;simp?[Rep] at r1 r2;exact⟨a,b,r1,r2,hz,q _ H HF (.refl sm) (by simp[Rep])⟩
 ·cases hg
def F0:HG X "str.join" (λx vs H Q=>∃ (sep:Str) (l:Addr) (xs:List Str),x=.str sep/\vs=[.ref l]/\dM X.K H l (xs.map V.str)/\JoinOk sep xs=true/\Q (.str (Txt.join sep xs)) H):=by
 intro pins s σ H x vs v us Q I rx rv h;let⟨sep,l,xs,rfl,rfl,hq,Qt,q⟩:=h;let⟨t,rfl⟩:=rx;let⟨u,rfl,ru⟩:=rv.one;cases ru;let⟨its,r,pl,hz⟩:=I.list hq;let⟨m,rfl,em⟩:=pj r;exact SC.join (l:=m) pl.isList em Qt λt' k=>⟨.str _,H,I.tok _,⟨t',rfl⟩,q⟩
def il:D->D->Option D
 | .str sep,.list es=>(strsOf es).bind λxs=>if JoinOk sep xs=true then some (.str (Txt.join sep xs)) else none
 | _,_=>none
def F3{fo:Env->Option D}(QG:attributeBase o "join" X.env (eval o X.env)=eval o X.env)
  (QI:((backTo Qq (starEach [e] X.env)).all (λx=>!x.1)&&(backToKw Qq (keywordEach [] X.env)).all (λx=>x.1.isSome)&&decide ([e].length+([]:List Keyword).length+(if ([]:List Keyword).isEmpty then 0 else 1) < 30))=true)
  (Qv:(apos.endLine == Qq.line)=true) (hs:starEach [e] X.env=(false,eval e X.env)::starEach [] X.env) (ho:DE X o fo) (he:DE X e fe):DE X (.Call (.Attribute o "join" apos) [e] [] Qq) (f2 il fo fe) :=
 aB (jb PySem.F.plainAttrs_str PySem.F.slot_str_join PySem.F.type_str_join F0 ho (aW he cy hs) QG QI Qv hs rfl) λσ H Q ⟨HF,ρ,d,sm,eo,hf,q⟩=>by
  let⟨x,hx,hf⟩:=bs hf;let⟨y,hy,hg⟩:=bs hf;refine⟨HF,ρ,x,sm,eo,hx,λv1 H1 Qr g1 r1=>?_⟩;cases x<;>try cases hg
  cases y<;>try cases hg
  rename_i sep es;let⟨xs,h1,hg⟩:=bs (show (strsOf es).bind _=some d from hg);split at hg
  ·rename_i Qt;cases hg;simp?[Rep] at r1;subst r1;refine⟨rfl,Qr,ρ,.list es,g1.fh,eo.mono g1.ff,hy,λv2 H2 QC g2 r2=>?_⟩;rw[mi h1] at r2;simp?[Rep] at r2;let⟨l,us,rfl,hl,rr⟩:=r2;rw[pG rr] at hl;exact⟨sep,l,xs,rfl,rfl,g2.fh.seq hl,Qt,q _ H2 QC (g1.trans g2) (by simp[Rep])⟩
  ·cases hg
def wD{a b:Str}{t t':Tok}{s:Shared}{Q:Value->Shared->Prop}(hb:(b.length == 0)=false)(ha:a.length<=sizeLine)(hn:(Txt.split a b).length<=sizeLine)
  (q:∀ (l:List (Str×Tok)) (k:Nat),l.map (·.1)=Txt.split a b->Q (.ref s.heap.objs.size) { s with heap:=s.heap.push { cls:=.type "list",data:=.seq (strValues l).toArray },toks:=k }) :
  wpAny (model prog w) A (call (.builtin "str.split") [.str a t,.str b t']) Q E s:=by
 have whole:Txt.split a b=[a]->Q (.ref s.heap.objs.size) { s with heap:=s.heap.push { cls:=.type "list",data:=.seq [Value.str a t].toArray } }:=λe=>q [(a,t)] s.toks (by rw[e];rfl);cases h1:(decide (a.length < b.length)||decide (Builtin.Str.strKind a < Builtin.Str.strKind b)) with
 | true=>exact qS PySem.F.slot_str_split (typeIs_str _ _ _) PySem.F.entry_str_split (PySem.F.args_str_split_2 _ _) (meets_str_split_cannot_occur a b t t' h1) (whole (by unfold Txt.split;rw[yH h1]))
 | false =>
  have n1:¬ (decide (a.length < b.length)||decide (Builtin.Str.strKind a < Builtin.Str.strKind b))=true:=by rw[h1];exact yV
  cases h2:(Builtin.Str.occurrences a b 0 a.length (a.length+1)).isEmpty with
  | true=>exact qS PySem.F.slot_str_split (typeIs_str _ _ _) PySem.F.entry_str_split (PySem.F.args_str_split_2 _ _) (meets_str_split_not_found a b t t' h1 hb h2) (whole (by unfold Txt.split;rw[yJ n1,yH h2]))
  | false =>
   have e:Txt.split a b=Builtin.Str.partsBetween a (Builtin.Str.occurrences a b 0 a.length (a.length+1)) b.length:=by unfold Txt.split;rw[yJ n1,yJ (by rw[h2];exact yV)]
   rw[e] at hn q;refine qS PySem.F.slot_str_split (typeIs_str _ _ _) PySem.F.entry_str_split (PySem.F.args_str_split_2 _ _) (meets_str_split_sep a b t t' h1 hb h2 ha hn) ?_;rw[strsFrom_eq];exact q (numbered s.toks _) _ (numbered_texts _ _)
def EF:HG X "str.split" (λx vs H Q=>∃a b:Str,x=.str a/\vs=[.str b]/\(b.length == 0)=false/\a.length<=sizeLine/\(Txt.split a b).length<=sizeLine/\∀D:Addr,H D=none->Q (.ref D) (upd H D (.lst ((Txt.split a b).map V.str)))):=by
 intro pins s σ H x vs v us Q I rx rv h;let⟨a,b,rfl,rfl,hb,ha,hn,q⟩:=h;let⟨t,rfl⟩:=rx;let⟨u,rfl,ru⟩:=rv.one;let⟨t',rfl⟩:=ru;refine wD hb ha hn λl k e=>?_;have hv:=kq l;rw[e] at hv;refine⟨.ref s.heap.objs.size,_,I.laid (t':=k) (o:=.lst ((Txt.split a b).map V.str)) (λ_ _ z=>zR _ z) (yI _) ⟨by rw[zD];exact hn,_,0,hv,zU _ rfl⟩,rfl,q _ I.fresh⟩
def aR:D->D->Option (List D)
 | .str a,.str b=>if (b.length == 0)=false/\a.length<=sizeLine/\(Txt.split a b).length<=sizeLine then some ((Txt.split a b).map PyData.str) else none
 | _,_=>none
def DN{fo:Env->Option D}(QG:attributeBase o "split" X.env (eval o X.env)=eval o X.env)
  (QI:((backTo Qq (starEach [e] X.env)).all (λx=>!x.1)&&(backToKw Qq (keywordEach [] X.env)).all (λx=>x.1.isSome)&&decide ([e].length+([]:List Keyword).length+(if ([]:List Keyword).isEmpty then 0 else 1) < 30))=true)
  (Qv:(apos.endLine == Qq.line)=true) (hs:starEach [e] X.env=(false,eval e X.env)::starEach [] X.env) (ho:DE X o fo) (he:DE X e fe):DF X (.Call (.Attribute o "split" apos) [e] [] Qq) (dv aR fo fe) :=
 aB (jb PySem.F.plainAttrs_str PySem.F.slot_str_split PySem.F.type_str_split EF ho (aW he cy hs) QG QI Qv hs rfl) λσ H Q ⟨HF,ρ,d,sm,eo,hf,q⟩=>by
  let⟨x,hx,hf⟩:=bs hf;let⟨y,hy,hg⟩:=bs hf;refine⟨HF,ρ,x,sm,eo,hx,λv1 H1 Qr g1 r1=>?_⟩;cases x<;>try cases hg
  cases y<;>try cases hg
  rename_i a b;have hg:(if (b.length == 0)=false/\a.length<=sizeLine/\(Txt.split a b).length<=sizeLine then some ((Txt.split a b).map PyData.str) else none)=some d:=hg;split at hg
  ·rename_i hc;cases hg;simp?[Rep] at r1;subst r1;refine⟨rfl,Qr,ρ,.str b,g1.fh,eo.mono g1.ff,hy,λv2 H2 QC g2 r2=>?_⟩;simp?[Rep] at r2;subst r2;refine⟨a,b,rfl,rfl,hc.1,hc.2.1,hc.2.2,λD hD=>?_⟩;have g3:=g1.trans g2;exact q D _ _ QC (g3.trans (.own g3.fh hD)) (g3.hh.free hD) (g3.fh.free hD) aC (lr _)
  ·cases hg
def Bc:HG X "str.index" (λx vs H Q=>∃ (a b:Str) (i:Nat) (r:List Nat),x=.str a/\vs=[.str b]/\Builtin.Str.occurrences a b 0 a.length 1=i::r/\Q (.int i) H):=by
 intro pins s σ H x vs v us Q I rx rv h;let⟨a,b,i,r,rfl,rfl,ho,q⟩:=h;let⟨t,rfl⟩:=rx;let⟨u,rfl,ru⟩:=rv.one;let⟨t',rfl⟩:=ru;exact SC.index ho ⟨.int i,H,I.tok _,⟨_,rfl⟩,q⟩
def nV:D->D->Option D
 | .str a,.str b=>match Builtin.Str.occurrences a b 0 a.length 1 with|i::_=>some (.int ((i:Nat):Int))|[]=>none
 | _,_=>none
def AR{fo:Env->Option D}(QG:attributeBase o "index" X.env (eval o X.env)=eval o X.env)
  (QI:((backTo Qq (starEach [e] X.env)).all (λx=>!x.1)&&(backToKw Qq (keywordEach [] X.env)).all (λx=>x.1.isSome)&&decide ([e].length+([]:List Keyword).length+(if ([]:List Keyword).isEmpty then 0 else 1) < 30))=true)
  (Qv:(apos.endLine == Qq.line)=true) (hs:starEach [e] X.env=(false,eval e X.env)::starEach [] X.env) (ho:DE X o fo) (he:DE X e fe):DE X (.Call (.Attribute o "index" apos) [e] [] Qq) (f2 nV fo fe) :=
 aB (jb PySem.F.plainAttrs_str PySem.F.slot_str_index PySem.F.type_str_index Bc ho (aW he cy hs) QG QI Qv hs rfl) λσ H Q ⟨HF,ρ,d,sm,eo,hf,q⟩=>by
  let⟨x,hx,hf⟩:=bs hf;let⟨y,hy,hg⟩:=bs hf;refine⟨HF,ρ,x,sm,eo,hx,λv1 H1 Qr g1 r1=>?_⟩;cases x<;>try cases hg
  cases y<;>try cases hg
  rename_i a b;simp?[Rep] at r1;subst r1;refine⟨rfl,Qr,ρ,.str b,g1.fh,eo.mono g1.ff,hy,λv2 H2 QC g2 r2=>?_⟩;simp?[Rep] at r2;subst r2;cases ho:Builtin.Str.occurrences a b 0 a.length 1 with
  | nil=>simp?[nV,ho] at hg;cases hg
  | cons i r =>
   simp?[nV,ho] at hg;cases hg;exact⟨a,b,i,r,rfl,rfl,ho,q _ H2 QC (g1.trans g2) (by simp[Rep])⟩
def MA:D->D->Option Bool
 | .str a,.str b=>some (!(Builtin.Str.occurrences b a 0 b.length 1).isEmpty)
 | _,_=>none
def Dw:eZ X (compareOp .In) (KH X.K MA):=by
 intro pins s σ H v1 v2 u1 u2 Q I rx ry h;let⟨HF,x,y,k,sm,r1,r2,hg,q⟩:=h;cases x<;>try cases hg
 cases y<;>try cases hg
 simp?[Rep] at r1 r2;subst r1 r2;exact AE pins s σ H _ _ u1 u2 Q I rx ry ⟨_,_,rfl,rfl,q⟩
def rE:D->D->Option Bool
 | .str a,.str b=>some (!(!(Builtin.Str.occurrences b a 0 b.length 1).isEmpty))
 | _,_=>none
def CT:eZ X (compareOp .NotIn) (KH X.K rE):=by
 intro pins s σ H v1 v2 u1 u2 Q I rx ry h;let⟨HF,x,y,k,sm,r1,r2,hg,q⟩:=h;cases x<;>try cases hg
 cases y<;>try cases hg
 simp?[Rep] at r1 r2;subst r1 r2;exact r9 pins s σ H _ _ u1 u2 Q I rx ry ⟨_,_,rfl,rfl,q⟩
def yv(n d:Nat)(o:Option Int)(hd:d<=n):(match o with|none=>((d:Nat):Int)|some i=>max 0 (min (if i < 0 then i+((n:Nat):Int) else i) ((n:Nat):Int)))=((HT.bB n d o:Nat):Int):=by
 cases o with
 | none=>rfl
 | some v =>
  show max 0 (min (if v < 0 then v+((n:Nat):Int) else v) ((n:Nat):Int))=(((if v < 0 then (v+(n:Int)).toNat else min v.toNat n):Nat):Int)
  by_cases h:v < 0
  ·rw[yH h,yH h];have:v+(n:Int)<=n:=by lia
   lia
  ·rw[yJ h,yJ h];lia
def tw(lo hi:Option Int)(n:Nat):Builtin.Str.strSliceIndices lo hi 1 n=(List.range (HT.bB n n hi - HT.bB n 0 lo)).map (λk=>HT.bB n 0 lo+k):=by
 have h1:=yv n 0 lo (xR _);have h2:=yv n n hi (yI _);have e:Builtin.Str.strSliceIndices lo hi 1 n=Builtin.Str.strSliceIndices (some ((HT.bB n 0 lo:Nat):Int)) (some ((HT.bB n n hi:Nat):Int)) 1 n:=by
  have l1:=HT.iy n 0 (xR _) lo;have l2:=HT.iy n n (yI _) hi;have a1:max (0:Int) (min ((HT.bB n 0 lo:Nat):Int) (n:Int))=((HT.bB n 0 lo:Nat):Int):=by lia
  have a2:max (0:Int) (min ((HT.bB n n hi:Nat):Int) (n:Int))=((HT.bB n n hi:Nat):Int):=by lia
  have n1:¬ (((HT.bB n 0 lo:Nat):Int) < 0):=by lia
  have n2:¬ (((HT.bB n n hi:Nat):Int) < 0):=by lia
  unfold Builtin.Str.strSliceIndices;simp?[show ((1:Int) > 0)=True from by simp,xD,n1,n2,qL,a1,a2];rw[<- h1,<- h2];cases lo<;>cases hi<;>rfl
 rw[e];rcases Nat.le_total (HT.bB n 0 lo) (HT.bB n n hi) with z|z
 ·exact StrLaws.strSliceIndices_plain z (HT.iy n n (yI _) hi)
 ·have e0:HT.bB n n hi - HT.bB n 0 lo=0:=by lia
  have l1:=HT.iy n 0 (xR _) lo;have l2:=HT.iy n n (yI _) hi;have a1:max (0:Int) (min ((HT.bB n 0 lo:Nat):Int) (n:Int))=((HT.bB n 0 lo:Nat):Int):=by lia
  have a2:max (0:Int) (min ((HT.bB n n hi:Nat):Int) (n:Int))=((HT.bB n n hi:Nat):Int):=by lia
  have n1:¬ (((HT.bB n 0 lo:Nat):Int) < 0):=by lia
  have n2:¬ (((HT.bB n n hi:Nat):Int) < 0):=by lia
  have n3:¬ (((HT.bB n 0 lo:Nat):Int) < ((HT.bB n n hi:Nat):Int)):=by lia
  unfold Builtin.Str.strSliceIndices;simp?[sliceRange,show ((1:Int) > 0)=True from by simp,xD,n1,n2,n3,qL,a1,a2,e0];rfl
def nO(a:Str)(lo hi:Option Int):Str:=⟨(cut a.cps.toList lo hi).toArray⟩
def wz(a:Str)(lo hi:Option Int):(⟨((Builtin.Str.strSliceIndices lo hi 1 a.length).filterMap (a.cps[·]?)).toArray⟩:Str)=nO a lo hi:=by
 unfold nO cut;rw[tw];have hl:a.cps.toList.length=a.length:=by simp[Str.length]
 rw[hl]
 congr 2
 rcases Nat.le_total (HT.bB a.length 0 lo) (HT.bB a.length a.length hi) with z|z
 ·have h:=StrLaws.picks a.cps.toList (HT.bB a.length a.length hi - HT.bB a.length 0 lo) (HT.bB a.length 0 lo) (by
   have:=HT.iy a.length a.length (yI _) hi;lia)
  simpa using h
 ·have e0:HT.bB a.length a.length hi - HT.bB a.length 0 lo=0:=by lia
  rw[e0];simp
def Cz(a:Str)(lo hi:Option Int):(nO a lo hi).length<=a.length:=by
 have:=mU a.cps.toList lo hi;simpa [nO,Str.length] using this
def part_of{v:Value}{o:Option Int}(h:IsPart v o):∃l:Option (Int×Tok),v=partValue l/\l.map (·.1)=o:=by
 cases h with
 | none=>exact⟨none,rfl,rfl⟩
 | int i t=>exact⟨some (i,t),rfl,rfl⟩
def Ht(hg:Gl X x)(hm:X.mg x=some (.str i t))(hd:(x == ("__debug__":Str))=false:=by decide):DE X (.Name x pos) (fC (.str i)) :=
 aB (zm (v:=.str i) hg hm ⟨t,rfl⟩ hd) λσ H Q ⟨HF,ρ,d,sm,eo,hf,q⟩=>by cases hf;exact q _ H HF (.refl sm) (by simp[Rep])
def IZ:GD X (λx lo hi H Q=>∃a:Str,x=.str a/\a.length<=sizeLine/\Q (.str (nO a lo hi)) H):=by
 intro pins s σ H x v vl vu lo hi sl Q I rx hs pl pu h;let⟨a,rfl,hz,q⟩:=h;let⟨t,rfl⟩:=rx;let⟨l,rfl,rfl⟩:=part_of pl;let⟨u,rfl,rfl⟩:=part_of pu;refine⟨"str",_,PySem.F.slot_str_getitem.lookup,typeIs_str _ _ _,wpAny_getItem_str_slice (l:=l) (u:=u) (st:=none) hs rfl ?_⟩;have ep:(⟨((slicePicked a l u none).filterMap (a.cps[·]?)).toArray⟩:Str)=nO a (l.map (·.1)) (u.map (·.1)):=wz a _ _;unfold sliceMade;by_cases hw:((Option.map (λx:Int×Tok=>x.1) none).getD 1 == 1&&(slicePicked a l u none).length == a.length)=true
 ·rw[yH hw];have hlen:(slicePicked a l u none).length=a.length:=by simpa using hw
  have e2:nO a (l.map (·.1)) (u.map (·.1))=a:=by
   have h1:HT.bB a.length a.length (u.map (·.1)) - HT.bB a.length 0 (l.map (·.1))=a.length:=by
    have:(slicePicked a l u none).length=HT.bB a.length a.length (u.map (·.1)) - HT.bB a.length 0 (l.map (·.1)):=by unfold slicePicked;rw[show ((Option.map (λx:Int×Tok=>x.1) none).getD 1:Int)=1 from rfl,tw,zD,List.length_range]
    lia
   have l2:=HT.iy a.length a.length (yI _) (u.map (·.1));unfold nO cut;have hl:a.cps.toList.length=a.length:=by simp[Str.length]
   rw[hl,h1];by_cases h0:a.length=0
   ·have:a.cps.toList=[]:=List.length_eq_zero_iff.mp (by rw[hl];exact h0);cases a with
    | mk c=>simp at this;simp[this]
   ·rw[show HT.bB a.length 0 (l.map (·.1))=0 by lia,List.drop_zero,jW (by rw[hl];exact yI _)]
  exact⟨.str a,H,I,⟨t,rfl⟩,by rw[e2] at q;exact q⟩
 ·rw[yJ hw,ep];exact⟨yA (Cz _ _ _) hz,.str _,H,I.tok _,⟨_,rfl⟩,q⟩
def d4:D->Option Int->Option Int->Option D
 | .str a,lo,hi=>if a.length<=sizeLine then some (.str (nO a lo hi)) else none
 | _,_,_=>none
def Gs{lo hi:Option Expr}{fl fh:Env->Option (Option Int)}(ha:DE X a fa)(hl:DO X lo fl)(hh:DO X hi fh):DE X (.Subscript a (.Slice lo hi none p2) pos) (aP d4 fa fl fh):=aB (ug IZ ha hl hh) λσ H Q ⟨HF,ρ,d,sm,eo,hf,q⟩=>by
 let⟨x,hx,hf⟩:=bs hf;let⟨l,hl,hf⟩:=bs hf;let⟨u,hu,hf⟩:=bs hf;refine⟨HF,ρ,x,sm,eo,hx,λv1 H1 Qr g1 r1=>⟨Qr,ρ,l,g1.fh,eo.mono g1.ff,hl,λH2 QC g2=>⟨QC,ρ,u,g2.fh,eo.mono (g1.ff.trans g2.ff),hu,λH3 QN g3=>?_⟩⟩⟩;have G:=(g1.trans g2).trans g3;obtain⟨a,rfl⟩:∃a,x=.str a:=by
  cases x<;>first|exact⟨_,rfl⟩|cases hf
 simp?[Rep] at r1;subst r1;have hf:(if a.length<=sizeLine then some (PyData.str (nO a l u)) else none)=some d:=hf;split at hf
 ·rename_i hz;cases hf;exact⟨a,rfl,hz,q _ H3 QN G (by simp[Rep])⟩
 ·cases hf
def ft:List D->Option D
 | [.str x]=>if x.length<=sizeLine then some (.int ((x.length:Nat):Int)) else none
 | _=>none
def GO(B:l7 X "len" (.builtin "len"))(ha:DA X [e] fs)(he:starEach [e] X.env=(false,eval e X.env)::starEach [] X.env:=by rfl):DE X (.Call (.Name "len" p) [e] [] pos) (aY ft fs) :=
 gg rz (by
  intro HF H ds vs d Q sm r hg q;unfold ft at hg;split at hg
  ·split at hg
   ·rename_i x hz;cases hg;let⟨v,r',rfl,a,e0⟩:=r.cons_inv;rw[e0.nil_inv];simp?[Rep] at a;subst a;exact⟨x,rfl,hz,q _ H HF (.refl sm) (by simp[Rep])⟩
   ·cases hg
  ·cases hg) B ha (by decide) (by decide) he rfl
def Bu:D->D->Option D
 | .str z,.int i=>if z.length<=sizeLine then (jh z.cps.toList i).map λc=>.str ⟨#[c]⟩ else none
 | _,_=>none
def FN{K:W.Frag}:dP K Jh Bu:=by
 intro HF H x y v1 v2 d Q sm r1 r2 hg q;cases x<;>try cases hg
 cases y<;>try cases hg
 rename_i z i;have hg:(if z.length<=sizeLine then (jh z.cps.toList i).map λc=>PyData.str ⟨#[c]⟩ else none)=some d:=hg;split at hg
 ·rename_i hz;let⟨c,hc,rfl⟩:=af hg;simp?[Rep] at r1 r2;exact⟨z,i,c,r1,r2,hz,hc,q _ H HF (.refl sm) (by simp[Rep])⟩
 ·cases hg
def J3(ha:DE X a fa)(hb:DE X b fb)(hs:k7 b:=by intro _ _;rfl):DE X (.Subscript a b pos) (f2 Bu fa fb):=aB (C7 Dk ha hb hs) (Dt FN)
def Az:dc X (.type "int") (λxs H Q=>∃ (x:Str) (n:Int),xs=[.str x]/\PySem.intText? x=some n/\x.length<=640/\Q (.int n) H):=by
 intro pins s σ H xs us Q I r h;let⟨x,n,rfl,hn,hl,q⟩:=h;let⟨u,rfl,t,rfl⟩:=vals1 r;exact W.KIN.call_text hn hl ⟨.int n,H,I.tok _,⟨_,rfl⟩,q⟩
def nr:List D->Option D
 | [.str x]=>if x.length<=640 then (PySem.intText? x).map PyData.int else none
 | _=>none
def HE(B:l7 X "int" (.type "int"))(ha:DA X [e] fs)(he:starEach [e] X.env=(false,eval e X.env)::starEach [] X.env:=by rfl):DE X (.Call (.Name "int" p) [e] [] pos) (aY nr fs) :=
 lR Az (by
  intro HF H ds vs d Q sm r hg q;unfold nr at hg;split at hg
  ·split at hg
   ·rename_i x hz;let⟨n,hn,rfl⟩:=af hg;let⟨v,r',rfl,a,e0⟩:=r.cons_inv;rw[e0.nil_inv];simp?[Rep] at a;subst a;exact⟨x,n,rfl,hn,hz,q _ H HF (.refl sm) (by simp[Rep])⟩
   ·cases hg
  ·cases hg) B ha (by decide) (by decide) he rfl
section
variable {X:Cx}
def lD:List D->Option D
 | [.int i]=>if i.natAbs.log2 < 1920 then some (.str (toString i)) else none
 | [.str x]=>some (.str x)
 | _=>none
def Ax:dc X (.type "str") (λxs H Q=>(∃i,xs=[.int i]/\i.natAbs.log2 < 1920/\Q (.str (toString i)) H)\/∃x,xs=[.str x]/\Q (.str x) H):=by
 intro pins s σ H xs us Q I r h;rcases h with ⟨i,rfl,hz,q⟩|⟨x,rfl,q⟩
 ·let⟨u,rfl,t,rfl⟩:=vals1 r;exact PySem.P.str_of_int hz ⟨.str _,H,I.tok _,⟨_,rfl⟩,q⟩
 ·let⟨u,rfl,t,rfl⟩:=vals1 r;exact PySem.P.str_of_str ⟨.str _,H,I,⟨_,rfl⟩,q⟩
def Ft(B:l7 X "str" (.type "str"))(ha:DA X [e] fs)(he:starEach [e] X.env=(false,eval e X.env)::starEach [] X.env:=by rfl):DE X (.Call (.Name "str" p) [e] [] pos) (aY lD fs) :=
 lR Ax (by
  intro HF H ds vs d Q sm r hg q;unfold lD at hg;split at hg
  ·rename_i i;split at hg
   ·rename_i hz;cases hg;let⟨v,r',rfl,a,e0⟩:=r.cons_inv;rw[e0.nil_inv];simp?[Rep] at a;subst a;exact .inl ⟨i,rfl,hz,q _ H HF (.refl sm) (by simp[Rep])⟩
   ·cases hg
  ·rename_i x;cases hg;let⟨v,r',rfl,a,e0⟩:=r.cons_inv;rw[e0.nil_inv];simp?[Rep] at a;subst a;exact .inr ⟨x,rfl,q _ H HF (.refl sm) (by simp[Rep])⟩
  ·cases hg) B ha (by decide) (by decide) he rfl
end
end Dl
namespace L2
open PySem PySem.Spec PyProof.Rows
def ND(x:Str):It:=⟨λi _=>i < x.cps.size,λi H v H'=>H'=H/\∃c,x.cps[i]?=some c/\v=.str ⟨#[c]⟩,λi _=>x.cps.size<=i⟩
def pU{K:W.Frag}(it:Addr)(T:String)(x:Str)(t:Tok)
  (hn:["enumerate","zip","dict_itemiterator","dict_reverseitemiterator","odict_iterator","itertools.zip_longest","itertools.pairwise"].contains T=false)
  (W:∀A':Around,A'.handled=none->Walks P w A' it [it] [it] x.cps.size (SignAt x) (λi h=>h.IsStrIter it T x t i))
  (Wd:∀ (A:Around) (s:Shared) (i:Nat) (Q:Option Value->Shared->Prop) (E:Value->Shared->Prop),A.handled=none->s.heap.IsStrIter it T x t i->x.cps[i]?=none ->
   (∀h',(∀b o,b≠it->s.heap.get? b=some o->h'.get? b=some o)->Q none { s with heap:=h' })->wpAny (model P w) A (pyNext (.ref it)) Q E s)
  (Ws:∀ (A:Around) (s:Shared) (i:Nat) (Q:Value->Shared->Prop) (E:Value->Shared->Prop),s.heap.IsStrIter it T x t i->Q (.ref it) s->wpAny (model P w) A (pyIter (.ref it)) Q E s) :
  Turn P w K tg (ND x) [it] it (λi h=>h.IsStrIter it T x t i) where
 mem:=by simp
 obj:=λi h st b hb=>by
  have e:b=it:=by simpa using hb
  subst e;let⟨o,e,c,d⟩:=st;exact⟨o,e,λv z=>by rw[d] at z;cases z⟩
 keep:=λi h h' st k=>by
  let⟨o,e,r⟩:=st;exact⟨o,k it (by simp) o e,r⟩
 item:=by
  intro X hP hw hK hc i pins s σ H E I hf st hg;subst hP hw hK;let⟨f0,f1,f2,f3,f4,f5⟩:=hf it (by simp);refine (W X.A (I.ok.hd hc)).item i s _ _ hg st λv h' tk hv Rn kk=>?_;let⟨c,u,Ri,rfl⟩:=hv;have I1:Inv X pins σ H { s with heap:=h',toks:=tk }:=I.turned (λb o hb e=>kk b o (by simpa using hb) e) f0 f1 f3 f4 f5;let⟨o,e,c1,d⟩:=id Rn;exact⟨_,rfl,xw (s:={ s with heap:=h',toks:=tk }) (n:=T) e c1 d hn ⟨.str ⟨#[c]⟩,H,I1,⟨u,rfl⟩,⟨rfl,c,Ri,rfl⟩,Rn,λb hb=>(hf b hb).1⟩⟩
 done:=by
  intro X hP hw hK hc i pins s σ H E I hf st hg;subst hP hw hK;let⟨f0,f1,f2,f3,f4,f5⟩:=hf it (by simp);have hl:x.cps.size<=i:=hg;exact Wd X.A s i _ _ (I.ok.hd hc) st (by simp[hl]) λh' eb=>⟨rfl,I.turned (t':=s.toks) (λb o hb e=>eb b o hb e) f0 f1 f3 f4 f5⟩
 self:=λA i s Q E st h=>Ws A s i Q E st h
def FR{E:Value->Shared->Prop}(I:Inv X pins σ H s)(x:Str)(t:Tok)(q:R (ND x) H):wpAny (model X.prog X.w) X.A (pyIter (.str x t)) (NW X pins σ tg R) E s:=by
 have fo:∀b∈[s.heap.objs.size],d9 X pins H b:=λb hb=>by
  cases List.mem_singleton.mp hb;exact I.Rm (yI _) (I.Qt.fresh (yI _))
 cases ha:x.cps.all (· < 128)
 ·refine wpAny_pyIter_wide ha ⟨s.heap.objs.size,[s.heap.objs.size],_,_,H,rfl,I.kept (t':=s.toks) λb o e=>zR _ e,
   pU _ "str_iterator" x t (by decide) (λA' hA=>Walks.strWide hA _ x t) ?_ (λA s i Q E st h=>wpAny_pyIter_striter_wide st h),⟨_,zU _ rfl,rfl,rfl⟩,fo,q⟩
  exactλA s i Q E hA st hx hQ=>wpAny_pyNext_wide_end hA st hx λh' he=>hQ h' he
 ·refine wpAny_pyIter_ascii ha ⟨s.heap.objs.size,[s.heap.objs.size],_,_,H,rfl,I.kept (t':=s.toks) λb o e=>zR _ e,
   pU _ "str_ascii_iterator" x t (by decide) (λA' hA=>Walks.strAscii hA _ x t) ?_ (λA s i Q E st h=>wpAny_pyIter_striter_ascii st h),⟨_,zU _ rfl,rfl,rfl⟩,fo,q⟩
  exactλA s i Q E hA st hx hQ=>wpAny_pyNext_ascii_end hA st hx λh' he=>hQ h' he
end L2
namespace Dl
open PySem L2 PySem.Spec PyProof.Rows
def tE(x:Str):List D:=x.cps.toList.map λc=>PyData.str ⟨#[c]⟩
def Bx{K:W.Frag}{x:Str}:nA K (ND x) HF (tE x) where
 go:=λi d QM QA e s1 s2=>by
  unfold tE at e;rw[zO] at e;let⟨c,hc,rfl⟩:=af e;have Ri:x.cps[i]?=some c:=by simpa using hc
  obtain⟨hi,-⟩:=Array.getElem?_eq_some_iff.mp Ri;refine⟨hi,λv RL ⟨e2,c',h',hv⟩=>⟨QA,by rw[e2];exact .refl s2,?_⟩⟩;rw[Ri] at h';cases h';simp?[Rep];exact hv
 stop:=λQM QA s1 s2=>by
  show x.cps.size<=_;simp[tE]
section
variable {X:Cx}{tg l e:Expr}{f:Env->Option D}{fs:Env->Option (List D)}{pos p:Pos}
def FA(hl:PE X l tl):PI X tg l (λσ H R=>tl σ H λx H1=>(∃a,x=.ref a/\((∃xs,dM X.K H1 a xs/\R (Nz X.K a) H1)\/∃xs,fU X.K H1 a xs/\R (NJ X.K a) H1))\/∃y,x=.str y/\R (ND y) H1):=by
 intro pins s σ H R I h;refine bg (hl pins s σ H _ I h) λv s1 ⟨x,H1,I1,r1,q1⟩=>?_;rcases q1 with ⟨a,e,q⟩|⟨y,e,q⟩
 ·subst e;cases r1;rcases q with ⟨xs,hq,q⟩|⟨xs,hq,q⟩
  ·let⟨its,rv,pl,hz⟩:=I1.list hq;refine qG pl.isList ⟨s1.heap.objs.size,[s1.heap.objs.size],_,_,H1,rfl,I1.kept (t':=s1.toks) λb o e=>zR _ e,pW a _,⟨_,zU _ rfl,rfl,rfl⟩,λb hb=>?_,q⟩;cases List.mem_singleton.mp hb;exact I1.Rm (yI _) I1.fresh
  ·let⟨its,rv,pl,hz⟩:=I1.tuple hq;refine xO (show s1.heap.IsTuple a its.toArray from pl) ⟨s1.heap.objs.size,[s1.heap.objs.size],_,_,H1,rfl,I1.kept (t':=s1.toks) λb o e=>zR _ e,oz a _,⟨_,zU _ rfl,rfl,rfl⟩,λb hb=>?_,q⟩;cases List.mem_singleton.mp hb;exact I1.Rm (yI _) I1.fresh
 ·subst e;let⟨t,rfl⟩:=r1;exact FR I1 y t q
def Ld:D->Option (List D)|.str x=>some (tE x)|d=>gV d
def A1(h:Ld d=some ds):(d=.tuple ds\/d=.list ds)\/∃x,d=.str x/\ds=tE x:=by
 unfold Ld at h;split at h
 ·cases h;exact .inr ⟨_,rfl,rfl⟩
 ·exact .inl (gH h)
def HQ(f:Env->Option D):Env->Option (List D):=λρ=>(f ρ).bind Ld
def GX(h:DE X l f):DI X tg l (HQ f):=nY (FA h) λσ H R ⟨HF,ρ,ds,sm,eo,hf,q⟩=>by
 let⟨x,hx,hf⟩:=bs hf;refine⟨HF,ρ,x,sm,eo,hx,λv1 H1 Qr g1 r1=>?_⟩;rcases A1 hf with (rfl|rfl)|⟨y,rfl,rfl⟩
 ·simp?[Rep] at r1;let⟨a,vs,rfl,hs,rr⟩:=r1;exact .inl ⟨a,rfl,.inr ⟨vs,av g1.fh hs,q _ H1 Qr g1 (ub hs rr)⟩⟩
 ·simp?[Rep] at r1;let⟨a,vs,rfl,hs,rr⟩:=r1;exact .inl ⟨a,rfl,.inl ⟨vs,g1.fh.seq hs,q _ H1 Qr g1 (pb hs rr)⟩⟩
 ·simp?[Rep] at r1;exact .inr ⟨y,r1,q _ H1 Qr g1 Bx⟩
end
def A8(its:List Value):slicePick its.toArray none none (some (-1))=its.reverse.toArray:=by
 rw[<- sE its];unfold slicePick;have e:sliceBounds none none (some (-1)) its.toArray.size=(((its.length:Nat):Int) - 1,-1,-1):=rfl;rw[e];unfold sliceRange;have e2:((if (-1:Int) > 0 then (if ((its.length:Nat):Int) - 1 < -1 then (-1 - (((its.length:Nat):Int) - 1)+-1 - 1) / -1 else 0) else (if ((its.length:Nat):Int) - 1 > -1 then (((its.length:Nat):Int) - 1 - -1 - -1 - 1) / (- -1) else 0)):Int).toNat=its.length:=by
  rw[yJ (by decide)];simp?[Int.neg_neg,Int.ediv_one];split<;>lia
 simp?[e2];rw[List.filterMap_map]
 congr 1
 refine nR λk _=>?_;show its.toArray[(((its.length:Nat):Int) - 1+(-1) * (k:Int)).toNat]?=_;rw[Int.mul_comm]
def HB(ha:PE X a ta):PE X (.Subscript a (.Slice none none (some (.UnaryOp .USub (.Constant (.int 1) j p4) p3)) p2) pos) (λσ H Q=>ta σ H λx H1=>∃b xs,x=.ref b/\dM X.K H1 b xs/\∀p,H1 p=none->Q (.ref p) (upd H1 p (.lst xs.reverse))):=by
 intro pins s σ H Q I h;refine Subscript_ (bg (ha pins s σ H _ I h) λv s1 ⟨x,H1,I1,r1,b,xs,e,hq,q⟩=>?_);subst e;cases r1;refine wpAny_Slice ?_;rw[evalPart_none];refine zT (zT ?_);have RB:=rN (X:=X) (Em (op:=.USub) vq (wM (X:=X) (i:=1) (j:=j) (pos:=p4)) (pos:=p3)) pins s1 σ H1 (λo H'=>o=some (-1)/\H'=H1) I1 ⟨1,rfl,-1,rfl,rfl,rfl⟩;refine bg RB λZY s2 ⟨o,H2,I2,XB,e1,e2⟩=>?_;subst e1 e2;cases XB with
 | int _ tk =>
 have I4:Inv X pins σ H2 { s2 with heap:=s2.heap.push { cls:=.type "slice",data:=.fields #[.none,.none,.int (-1) tk] } }:=I2.kept (t':=s2.toks) λb ob q=>zR _ q;let⟨its',r',UX,hz⟩:=I4.list hq;refine tail_any (ops:=[.ref b,.ref s2.heap.objs.size]) UX.isList.typeIs slot_list_getitem.lookup (wpAny_getItem_list_slice UX.isList (Heap.IsSliceOf.new ..) .none .none (.int _ _) (by decide) ?_ (by rw[zH,<- r'.length];exact hz)) (by with_unfolding_all rfl);rw[A8];have hv:aD xs.reverse its'.reverse:=L2.aD.reverse r';exact⟨.ref _,_,I4.laid (t':=s2.toks) (o:=.lst xs.reverse) (λb ob q=>zR _ q) (yI _) ⟨by rw[List.length_reverse];exact hz,_,0,hv,zU _ rfl⟩,rfl,q _ I4.fresh⟩
def zl:D->Option D|.list ds=>some (.list ds.reverse)|_=>none
def Gc(ha:DE X a fa):DE X (.Subscript a (.Slice none none (some (.UnaryOp .USub (.Constant (.int 1) j p4) p3)) p2) pos) (f1 zl fa):=aB (HB ha) λσ H Q ⟨HF,ρ,d,sm,eo,hf,q⟩=>by
 let⟨x,hx,hf⟩:=bs hf;refine⟨HF,ρ,x,sm,eo,hx,λv1 H1 Qr g1 r1=>?_⟩;cases x<;>try cases hf
 simp?[Rep] at r1;let⟨b,vs,rfl,hs,rr⟩:=r1;refine⟨b,vs,rfl,g1.fh.seq hs,λp hp=>q _ _ _ (g1.trans (.new g1.fh hp)) ?_⟩;simp?[Rep];exact⟨p,_,rfl,.inl (.inl aC),rr.reverse.mono (cI (g1.fh.free hp))⟩
def pR.len{K:W.Frag}{bs:List Addr}{Qu:List (List D)}(h:pR K HF H Qn bs Qu):bs.length=Qu.length:=by
 induction h with
 | nil=>rfl
 | cons _ _ _ _ _ ih=>rw[zL,zL,ih]
def pR.at{K:W.Frag}{bs:List Addr}{Qu:List (List D)}(h:pR K HF H Qn bs Qu):∀ {j:Nat}{ds:List D},Qu[j]?=some ds->∃b vs,bs[j]?=some b/\H b=some (.lst vs)/\HF b=none/\Qn b=none/\ar K HF ds vs:=by
 induction h with
 | nil=>intro j ds e;simp at e
 | cons h1 h2 h3 r _ ih =>
  intro j ds e;cases j with
  | zero=>cases e;exact⟨_,_,rfl,h1,h2,h3,r⟩
  | succ j=>exact ih e
def pR.set{K:W.Frag}{bs:List Addr}{Qu:List (List D)}(h:pR K HF H Qn bs Qu)(hn:bs.Nodup){us:List V}{es:List D}(r:ar K HF es us):∀ {j:Nat}{b:Addr},bs[j]?=some b->pR K HF (upd H b (.lst us)) Qn bs (Qu.set j es):=by
 induction h with
 | nil=>intro j b e;simp at e
 | @cons b0 bs ds Qu vs h1 h2 h3 r0 hr ih =>
  intro j b e;rw[List.nodup_cons] at hn;cases j with
  | zero =>
   cases e;refine .cons aC h2 h3 r (hr.imp (.refl _) λc hc o z1 z2=>⟨?_,z2⟩);rw[ay (show c≠b0 fromλz=>hn.1 (z ▸ hc))];exact z1
  | succ j =>
   have hb:b∈bs:=xY e;refine .cons ?_ h2 h3 r0 (ih hn.2 e);rw[ay (show b0≠b fromλz=>hn.1 (z ▸ hb))];exact h1
def eK.putN{K:W.Frag}{bs:List Addr}{Qu:List (List D)}{us:List V}{es:List D}{ρ:au}{σ:L2.St}{i j:Nat}{a b:Addr}(S:eK K Qm Qn HF H ρ σ)(h:ρ[i]?=some (.nest Qu))(ha:σ[i]?=some (some (.ref a)))(n:xc K HF H Qn a bs Qu)(di:∀ (j:Nat) (ds:List D) (b:Addr),ρ[j]?=some (.own ds)->σ[j]?=some (some (.ref b))->b∉a::bs)(hb:bs[j]?=some b)(r:ar K HF es us) :
  eK K Qm Qn HF (upd H b (.lst us)) (ρ.set i (.nest (Qu.set j es))) σ:=by
 have hl:i < ρ.length:=(List.getElem?_eq_some_iff.mp h).1;have Vm:b∈a::bs:=zC _ (xY hb);let⟨e3,e5,_⟩:=n.there b Vm;have gr:bV Qm Qn HF (upd H b (.lst us)):=⟨λc o e=>by rw[ay (aF e e5)];exact S.gr.hh c o e,S.gr.ff,λc o e=>by rw[ay (aF e e3)];exact S.gr.fh c o e,S.gr.nw⟩
 have old:∀ {k:Nat}{t:Slot},(ρ.set i (.nest (Qu.set j es)))[k]?=some t->(∀q,t≠.nest q)->ρ[k]?=some t:=λ{k t} g hn=>by
  rw[xE] at g;by_cases Rk:i=k
  ·rw[yH Rk,yH hl] at g;cases g;exact absurd rfl (hn _)
  ·rw[yJ Rk] at g;exact g
 have new:∀ {k:Nat}{q:List (List D)},(ρ.set i (.nest (Qu.set j es)))[k]?=some (.nest q)->i=k/\q=Qu.set j es:=λ{k q} g=>by
  rw[xE] at g;by_cases Rk:i=k
  ·rw[yH Rk,yH hl] at g;cases g;exact⟨Rk,rfl⟩
  ·rw[yJ Rk] at g;exact absurd (S.one i k Qu q h g) Rk
 refine⟨gr,λk e g=>S.val k e (old g λq z=>by cases z),λk TC g=>?_,λk l xs ys c f1 f2=>S.inj k l xs ys c (old f1 λq z=>by cases z) (old f2 λq z=>by cases z),by rw[zZ];exact S.len,S.tb,λk q g=>?_,λk l q q' g1 g2=>(new g1).1.symm.trans (new g2).1⟩
 ·have g:=old g λq z=>by cases z
  let⟨c,vs,f1,f2,f3,f5,f4⟩:=S.own k TC g;refine⟨c,vs,f1,?_,f3,f5,f4⟩;rw[ay (show c≠b fromλz=>di k TC c g f1 (z ▸ Vm))];exact f2
 ·let⟨rfl,rfl⟩:=new g;have hn:=n.nd;rw[List.nodup_cons] at hn;refine⟨a,bs,ha,⟨?_,n.fz,n.h0,n.ins.set hn.2 r hb,n.nd⟩,λk ds c h1 h2=>di k ds c (old h1 λq z=>by cases z) h2⟩;rw[ay (show a≠b fromλz=>hn.1 (z ▸ xY hb))];exact n.hd
def Nt:Option Slot->Option (List (List D))
 | some (.nest Qu)=>some Qu
 | _=>none
def iV{ρ:au}{i:Nat}{Qu:List (List D)}(h:Nt ρ[i]?=some Qu):ρ[i]?=some (.nest Qu):=by
 cases hd:ρ[i]? with
 | none=>rw[hd] at h;cases h
 | some t =>
  rw[hd] at h;cases t with
  | nest q=>cases h;rfl
  | _=>cases h
def qj:Slot->Bool|.nest _=>false|_=>true
def eK.T5{K:W.Frag}{ρ:au}{σ:L2.St}{i:Nat}{a:Addr}{bs:List Addr}{Qu:List (List D)}(S:eK K Qm Qn HF H ρ σ)(n:xc K HF H Qn a bs Qu)(di:∀ (j:Nat) (ds:List D) (b:Addr),ρ[j]?=some (.own ds)->σ[j]?=some (some (.ref b))->b∉a::bs)(nt:ρ.all qj=true) :
  eK K Qm Qn HF H (ρ.set i (.nest Qu)) (σ.set i (some (.ref a))):=by
 have old:∀ {j:Nat}{t:Slot},(ρ.set i (.nest Qu))[j]?=some t->qj t=true->i≠j/\ρ[j]?=some t:=λ{j t} h hn=>by
  rw[xE] at h;by_cases QB:i=j
  ·rw[yH QB] at h;split at h
   ·cases h;cases hn
   ·cases h
  ·rw[yJ QB] at h;exact⟨QB,h⟩
 have new:∀ {j:Nat}{q:List (List D)},(ρ.set i (.nest Qu))[j]?=some (.nest q)->i=j/\q=Qu/\i < ρ.length:=λ{j q} h=>by
  rw[xE] at h;by_cases QB:i=j
  ·rw[yH QB] at h;split at h
   ·rename_i hl;cases h;exact⟨QB,rfl,QB ▸ hl⟩
   ·cases h
  ·rw[yJ QB] at h;have:=List.all_eq_true.mp nt _ (xY h);cases this
 refine⟨S.gr,λj e h=>?_,λj es h=>?_,λj k xs ys b e1 e2 e3 e4=>?_,by rw[zZ,zZ];exact S.len,S.tb,λj q h=>?_,λj k q q' g1 g2=>(new g1).1.symm.trans (new g2).1⟩
 ·let⟨QB,h⟩:=old h rfl;rw[xE,yJ QB];exact S.val j e h
 ·let⟨QB,h⟩:=old h rfl;rw[xE,yJ QB];exact S.own j es h
 ·let⟨n1,e1⟩:=old e1 rfl;let⟨n2,e2⟩:=old e2 rfl;rw[xE,yJ n1] at e3;rw[xE,yJ n2] at e4;exact S.inj j k xs ys b e1 e2 e3 e4
 ·let⟨rfl,rfl,hl⟩:=new h;rw[xE,yH rfl,yH (zP hl S.len)];refine⟨a,bs,rfl,n,λk ds b h1 h2=>?_⟩;let⟨Rk,h1⟩:=old h1 rfl;rw[xE,yJ Rk] at h2;exact di k ds b h1 h2
section
variable {X:Cx}
def pF(i:Nat)(fa f:Env->Option D):au->Option Out:=λρ=>(f (bR ρ)).bind λd=>(fa (aL ρ)).bind λkd=>match kd with
 | .int k=>(Nt ρ[i]?).bind λQu=>(AS Qu.length k).bind λj=>(Qu[j]?).bind λds=>if ds.length < sizeLine then some (.nx (ρ.set i (.nest (Qu.set j (ds++[d]))))) else none
 | _=>none
def FL(i:Nat)(hN:X.N[i]?=some x)(hv:FD X.env.scope x)(ha:DE X ka fa)(h:DE X e f)(hd:(x == ("__debug__":Str))=false)(Q8:(x == ("__classdict__":Str))=false)(Tv:k7 ka)
  (QG:attributeBase (.Subscript (.Name x px) ka p1) "append" X.env (eval (.Subscript (.Name x px) ka p1) X.env)=eval (.Subscript (.Name x px) ka p1) X.env)
  (QI:((backTo Qq (starEach [e] X.env)).all (λx=>!x.1)&&(backToKw Qq (keywordEach [] X.env)).all (λx=>x.1.isSome)&&decide ([e].length+([]:List Keyword).length+(if ([]:List Keyword).isEmpty then 0 else 1) < 30))=true)
  (Qv:(apos.endLine == Qq.line)=true) (hs:starEach [e] X.env=(false,eval e X.env)::starEach [] X.env) :
  DS X Qm Qn (.Expr (.Call (.Attribute (.Subscript (.Name x px) ka p1) "append" apos) [e] [] Qq) pos) (pF i fa f) :=
 bW (iT (jb qK PySem.F.slot_list_append PySem.F.type_list_append iS (C7 Eu (ji hN hv hd Q8) ha Tv) (aW h cy hs) QG QI Qv hs rfl)) λE σ H ⟨HF,ρ,o,S,hg,q⟩=>by
  let⟨d,q1,hg⟩:=bs hg;let⟨kd,q2,hg⟩:=bs hg;obtain⟨k,rfl⟩:∃k,kd=.int k:=by cases kd<;>first|exact⟨_,rfl⟩|cases hg
  let⟨Qu,q4,hg⟩:=bs hg;let⟨j,q5,hg⟩:=bs hg;let⟨ds,q6,hg⟩:=bs hg;split at hg
  ·rename_i hz;cases hg;let⟨a,bs,e1,n1,di⟩:=S.Sn i Qu (iV q4);refine⟨.ref a,e1,H,aL ρ,.int k,.refl _,S.all,q2,λkv H2 QC G2 rk=>?_⟩;have S2:=S.step G2.hh;let⟨a',UR,Y8,n2,di'⟩:=S2.Sn i Qu (iV q4);rw[e1] at Y8;cases Y8;let⟨b,vs,z1,z2,_⟩:=n2.ins.at q6;simp?[Rep] at rk;have hj:jh (UR.map V.ref) k=some (.ref b):=by
    unfold jh;rw[zD,n2.ins.len,q5,zA,zO,z1];rfl
   refine .inl ⟨a,UR.map V.ref,k,.ref b,rfl,rk,dM.of n2.hd,hj,.inl ⟨rfl,vs,dM.of z2⟩,HF,bR ρ,d,S2.gr.fh,S2.QY,q1,λv H3 QN G3 r=>?_⟩;have S3:=S2.grow G3;let⟨a3,bs3,e3,n3,di3⟩:=S3.Sn i Qu (iV q4);rw[e1] at e3;cases e3;obtain rfl:bs3=UR:=nc (by have:=G3.hh _ _ n2.hd;rw[n3.hd] at this;injection this with this;injection this with this);let⟨b3,Y9,w1,w2,w3,w4,w5⟩:=n3.ins.at q6;rw[z1] at w1;cases w1;exact⟨b,Y9,v,rfl,rfl,w2,by rw[w5.length];exact hz,q σ _ QN (S3.putN (iV q4) e1 n3 di3 z1 (w5.append (ar.cons r ar.nil))) G3.ff⟩
  ·cases hg
def qv(i:Nat)(fp fq fr:Env->Option (List D)):au->Option Out:=λρ=>(fp (bR ρ)).bind λds=>(fq (bR ρ)).bind λes=>(fr (bR ρ)).bind λgs=>if ρ.all qj=true then some (.nx (ρ.set i (.nest [ds,es,gs]))) else none
def Ef(i:Nat)(hN:X.N.Nodup)(hi:X.N[i]?=some y)(hy:Loc X.env.scope y)(h1:DF X e1 fp)(h2:DF X e2 fq)(h3:DF X e3 fr)(he:starEach [e1,e2,e3] X.env=(false,eval e1 X.env)::starEach [e2,e3] X.env)(TZ:starEach [e2,e3] X.env=(false,eval e2 X.env)::starEach [e3] X.env)(XX:starEach [e3] X.env=(false,eval e3 X.env)::starEach [] X.env)
  (hs:swapsWith (.List [e1,e2,e3] lp) (some (.Name y pos')) pos.line X.env=pure false)
  (hf:X.fn y=true\/X.env.scope.names.lookup y=some .local):DS X Qm Qn (.Assign [.Name y pos'] (.List [e1,e2,e3] lp) pos) (qv i fp fq fr) :=
 bW (oF hN hi hy (sd (pos:=lp) (aW h1 (aW h2 (aW h3 cy XX) TZ) he)) hs hf) λE σ H ⟨HF,ρ,o,S,hg,q⟩=>by
  let⟨ds,q1,hg⟩:=bs hg;let⟨es,q2,hg⟩:=bs hg;let⟨gs,q3,hg⟩:=bs hg;split at hg
  ·rename_i hn;cases hg;refine⟨HF,bR ρ,ds,S.gr.fh,S.QY,q1,λa1 Za H1 Qr G1 n1 g1 k1 r1=>?_⟩;have S1:=S.grow G1;refine⟨Qr,bR ρ,es,S1.gr.fh,S1.QY,q2,λa2 vs2 H2 QC G2 n2 g2 k2 r2=>?_⟩;have S2:=S1.grow G2;refine⟨QC,bR ρ,gs,S2.gr.fh,S2.QY,q3,λa3 Y9 H3 QN G3 n3 g3 k3 r3=>⟨by rw[sizeLine_eq];simp,λp hp=>?_⟩⟩;have S3:=S2.grow G3;have Wz:H2 a1=some (.lst Za):=G2.hh _ _ k1;have XY:H3 a1=some (.lst Za):=G3.hh _ _ Wz;have XZ:H3 a2=some (.lst vs2):=G3.hh _ _ k2;have p1:a1≠p:=λz=>by rw[z,hp] at XY;cases XY
   have p2:a2≠p:=λz=>by rw[z,hp] at XZ;cases XZ
   have p3:a3≠p:=λz=>by rw[z,hp] at k3;cases k3
   have p12:a1≠a2:=λz=>by rw[z,n2] at k1;cases k1
   have p13:a1≠a3:=λz=>by rw[z,n3] at Wz;cases Wz
   have p23:a2≠a3:=λz=>by rw[z,n3] at k2;cases k2
   have S4:eK X.K Qm Qn QN (upd H3 p (.lst [.ref a1,.ref a2,.ref a3])) ρ σ:=S3.step (cI hp);have f12:=G2.QL g1 k1;refine q _ _ QN (S4.T5 (i:=i) (bs:=[a1,a2,a3]) ⟨aC,S3.gr.fh.free hp,S3.gr.hh.free hp,.cons (by rw[ay p1];exact XY) (G3.QL f12 Wz) (S.gr.hh.free n1) (r1.mono (G2.ff.trans G3.ff)) (.cons (by rw[ay p2];exact XZ) (G3.QL g2 k2) (S1.gr.hh.free n2) (r2.mono G3.ff) (.cons (by rw[ay p3];exact k3) g3 (S2.gr.hh.free n3) r3 .nil)),by simp[p12,p13,p23,jG p1,jG p2,jG p3]⟩ (λj ds b z1 z2=>?_) hn) ((G1.ff.trans G2.ff).trans G3.ff);let⟨c,vs,e1,e2,_⟩:=S.own j ds z1;rw[z2] at e1;cases e1;have b1:b≠a1:=λz=>by rw[z,n1] at e2;cases e2
   have X0:=G1.hh _ _ e2;have b2:b≠a2:=λz=>by rw[z,n2] at X0;cases X0
   have U3:=G2.hh _ _ X0;have b3:b≠a3:=λz=>by rw[z,n3] at U3;cases U3
   have e3:=G3.hh _ _ U3;have b4:b≠p:=λz=>by rw[z,hp] at e3;cases e3
   simp[b1,b2,b3,b4]
  ·cases hg
def wa(hu:X.A.units+66 < cLine):HG X "tuple.index" (λx vs H Q=>∃ (HF:Hp) (ds:List D) (d:D) (y:V) (j:Nat),aM HF H/\Rep X.K HF (.tuple ds) x/\vs=[y]/\Rep X.K HF d y/\SeqAt.shaped d=true/\SeqAt.shaped (.tuple ds)=true/\AF d ds=some j/\Q (.int j) H):=by
 intro pins s σ H x vs v us Q I rx rv h;let⟨HF,ds,d,y,j,sm,r1,rfl,r2,hd,hl,hj,q⟩:=h;let⟨u,rfl,ru⟩:=rv.one;let⟨as,ra⟩:=cE I sm r1 rx;let⟨bs,rb⟩:=cE I sm r2 ru;have c1:=jV hd;have c2:=jV hl;have d1:=SeqAt.depth_of_shaped hd;simp?[PyData.canLay0] at c2;have m:=Nat.min_le_right (PyData.depthAll ds) d.depth;cases ra with
 | tuple h1 h2 h3 h4 =>
  rename_i l o its n;let⟨cls,dd,data,sl⟩:=o;simp only at h2 h3;subst h2 h3;have hm:=SeqAt.readsAll_map _ _ _ c2 h4;have hlen:its.size=ds.length:=by rw[<- hm];simp
  have at_:∀m (hm:m < its.size),ds[m]?=some (SeqAt.readOf s.heap its[m]):=λm RE=>by
   rw[<- hm,zO,Array.getElem?_toList,jQ RE];rfl
  let⟨Ur,Zb,hj3⟩:=pJ hj;refine qS F.slot_tuple_index ⟨_,h1,rfl⟩ F.entry_tuple_index (F.args_tuple_index_2 _ _) (Tx.QX l its n dd sl u (λy=>PyData.eqv (SeqAt.readOf s.heap y) d) j (by rw[hlen];exact Ur) ?_ ?_) ⟨h1,?_,?_⟩
  ·exact Zb _ (at_ j (by rw[hlen];exact Ur))
  ·intro m RE VV;exact hj3 m VV _ (at_ m RE)
  ·exact SeqAt.items_eqAt h4 rb c2 c1 (by lia)
  ·exact⟨.int j,H,I.tok _,⟨_,rfl⟩,q⟩
def tZ:D->D->Option D
 | .tuple es,d=>if SeqAt.shaped d=true/\SeqAt.shaped (.tuple es)=true then (AF d es).map λj=>.int ((j:Nat):Int) else none
 | _,_=>none
def AV(hu:X.A.units+66 < cLine){fo:Env->Option D}(QG:attributeBase o "index" X.env (eval o X.env)=eval o X.env)
  (QI:((backTo Qq (starEach [e] X.env)).all (λx=>!x.1)&&(backToKw Qq (keywordEach [] X.env)).all (λx=>x.1.isSome)&&decide ([e].length+([]:List Keyword).length+(if ([]:List Keyword).isEmpty then 0 else 1) < 30))=true)
  (Qv:(apos.endLine == Qq.line)=true) (hs:starEach [e] X.env=(false,eval e X.env)::starEach [] X.env) (ho:DE X o fo) (he:DE X e fe):DE X (.Call (.Attribute o "index" apos) [e] [] Qq) (f2 tZ fo fe) :=
 aB (jb PySem.F.plainAttrs_tuple PySem.F.slot_tuple_index PySem.F.type_tuple_index (wa hu) ho (aW he cy hs) QG QI Qv hs rfl) λσ H Q ⟨HF,ρ,d,sm,eo,hf,q⟩=>by
  let⟨x,hx,hf⟩:=bs hf;let⟨y,hy,hg⟩:=bs hf;unfold tZ at hg;split at hg
  ·split at hg
   ·rename_i es hh;let⟨j,h2,rfl⟩:=af hg;refine⟨HF,ρ,_,sm,eo,hx,λv1 H1 Qr g1 r1=>?_⟩;have Vj:=r1;simp?[Rep] at r1;let⟨l,us,rfl,hq,rr⟩:=r1;refine⟨?_,Qr,ρ,y,g1.fh,eo.mono g1.ff,hy,λv2 H2 QC g2 r2=>?_⟩
    ·first|exact .inr (.inl ⟨rfl,_,av g1.fh hq⟩)|exact .inl ⟨rfl,_,av g1.fh hq⟩|exact .inr ⟨rfl,_,av g1.fh hq⟩
    ·exact⟨QC,es,y,v2,j,g2.fh,Vj.mono g2.ff,rfl,r2,hh.1,hh.2,h2,q _ H2 QC (g1.trans g2) (by simp[Rep])⟩
   ·cases hg
  ·cases hg
end
end Dl
namespace Rf
open PySem L2 Dl PySem.Spec PyProof.Rows
variable {env:PySem.Env}
structure Tr where
 e:Expr->Option (Dl.Env->Option D)
 f:Expr->Option (Dl.Env->Option (List D))
 t:Expr->Option (Dl.Env->Option Bool)
structure Sg where
 fn:List (Str×Nat×(List D->Option D))
 int:List (Str×D)
abbrev FE:=Dl.Env->Option D
def wc(G:Sg)(sc:Scope)(N:List Str)(x:Str):Option FE:=match N.idxOf? x with
 | some i=>if uY N sc i x=true then some (ae i) else none
 | none=>if (o9 sc x&&!(x == ("__debug__":Str)))=true then (G.int.lookup x).map λn=>fC n else none
def zc:Const->Option FE
 | .int i=>some (fC (.int i))
 | .bool b=>some (fC (.bool b))
 | .none=>some (fC .none)
 | .str x=>some (fC (.str x))
 | _=>none
def MG(T:Tr)(op:UnaryOp)(a:Expr):Option FE:=match op with
 | .USub=>(T.e a).map (f1 gx)
 | _=>none
def OI:Operator->Option (D->D->Option D)
 | .Add=>some aK
 | .Sub=>some Dl.mO
 | .Mult=>some i8
 | .FloorDiv=>some lG
 | .Mod=>some jm
 | _=>none
def L3:Expr->Bool
 | .Name x _=>x == ("_law_lines":Str)
 | _=>false
def Ii:Expr->Bool
 | .Subscript a (.Slice ..) _=>L3 a
 | _=>false
def IV:Expr->Bool
 | .List ..=>true
 | .ListComp ..=>true
 | _=>false
def yq:Expr->Bool
 | .List ..=>true
 | .ListComp ..=>true
 | .BinOp a .Mult _ _=>IV a
 | .BinOp a .Add b _=>Ii a||yq a||yq b
 | .Call (.Name x _) _ _ _=>x == ("sorted":Str)||x == ("list":Str)
 | _=>false
def Cf(T:Tr)(whole a:Expr)(op:Operator)(b:Expr):Option FE :=
 if yq whole=true then (T.f whole).map bI else (OI op).bind λg=>(T.e a).bind λx=>(T.e b).map λy=>f2 g x y
def rG(T:Tr)(op:BoolOp):List Expr->Option FE
 | []=>none
 | [a]=>T.e a
 | a::b::r=>(T.e a).bind λx=>(rG T op (b::r)).map λy=>match op with|.And=>oX x y|.Or=>OA x y
def Mx:CmpOp->Option (D->D->Option D)
 | .Lt=>some tm
 | .LtE=>some ER
 | .Gt=>some KJ
 | .GtE=>none
 | .Eq=>some cc
 | .NotEq=>some cS
 | .In=>some JD
 | .NotIn=>some uv
 | .Is=>some DD
 | .IsNot=>some sH
def NS:CmpOp->Option (D->D->Option D)
 | .Lt=>some tm
 | .LtE=>some ER
 | _=>none
def zk(T:Tr)(a:Expr)(ops:List CmpOp)(cs:List Expr):Option FE:=match ops,cs with
 | [op],[b]=>if behindInMarks op b=false then (Mx op).bind λg=>(T.e a).bind λx=>(T.e b).map λy=>f2 g x y else none
 | [op,Sd],[b,c]=>if lastMarks [op,Sd] [b,c]=false then (NS op).bind λg=>(NS Sd).bind λg'=>(T.e a).bind λx=>(T.e b).bind λy=>(T.e c).map λz=>iE g g' x y z else none
 | _,_=>none
def oZ(T:Tr):List Expr->Option (Dl.Env->Option (List D))
 | []=>some ah
 | e::es=>if isStar e=false then (T.e e).bind λx=>(oZ T es).map λr=>aa x r else none
def Nk(T:Tr):Option Expr->Option (Dl.Env->Option (Option Int))
 | none=>some aJ
 | some e=>(T.e e).map cm
def uI:Expr->Bool
 | .Slice ..=>true
 | .Tuple ..=>true
 | .Starred ..=>true
 | _=>false
def oq:Expr->Bool
 | .UnaryOp .USub (.Constant (.int 1) _ _) _=>true
 | _=>false
def Eb(T:Tr)(a b:Expr):Option FE:=match b with
 | .Slice lo hi none _=>(T.e a).bind λx=>(Nk T lo).bind λl=>(Nk T hi).map λh=>aP aI x l h
 | .Slice none none (some s) _=>if oq s=true then (T.e a).map λx=>if Ii a=true then f1 zl x else f1 uR x else none
 | _=>if uI b=false then (T.e a).bind λx=>(T.e b).map λy=>f2 bz x y else none
def OZ:List D->Option D:=λds=>(oneOf ds).bind λd=>match d with
 | .list es=>(boolsOf es).map λbs=>.bool (bs.any id)
 | _=>none
def lY:Expr->Option Expr
 | .Call (.Name x _) [e] [] _=>if x="set" then some e else none
 | _=>none
def Jq(x:Str):Option String:=if x="int" then some "int" else if x="bool" then some "bool" else if x="tuple" then some "tuple" else if x="list" then some "list" else none
def vv(G:Sg)(sc:Scope)(T:Tr)(whole:Expr)(x:Str)(args:List Expr):Option FE :=
 if (o9 sc x&&args.all λe=>!isStar e)=true then
  match G.fn.lookup x with
  | some (n,m)=>if (args.isEmpty||x == ("__debug__":Str))=true then none else (oZ T args).map λfs=>ai n m fs
  | none =>
   if x="len" then (match args with
    | [e]=>(match lY e with
     | some e'=>if (o9 sc "set"&&!isStar e')=true then (T.e e').map λy=>f1 iX y else none
     | none=>(oZ T args).map λfs=>aY cB fs)
    | _=>none)
   else if x="isinstance" then (match args with
    | [e,.Name y _]=>if o9 sc y=true then (Jq y).bind λty=>(T.e e).map λz=>Iz ty z else none
    | _=>none)
   else if x="tuple" then (if args.length=1 then (oZ T args).map λfs=>aY aU fs else none)
   else if x="all" then (if args.length=1 then (oZ T args).map λfs=>aY tR fs else none)
   else if x="any" then (if args.length=1 then (oZ T args).map λfs=>aY OZ fs else none)
   else if x="sum" then (if args.length=1 then (oZ T args).map λfs=>aY Mm fs else none)
   else if x="min" then (if args.isEmpty=true then none else (oZ T args).map λfs=>aY KU fs)
   else if (x == ("list":Str)||x == ("sorted":Str))=true then (T.f whole).map bI
   else none
 else none
def nh:Expr->Bool
 | .Call ..=>true
 | _=>false
def Jr:Expr->Bool
 | .Tuple ..=>true
 | _=>false
def v7(T:Tr)(o:Expr)(m:Str)(apos:Pos)(args:List Expr)(Qq:Pos):Option FE :=
 if (m == ("index":Str)&&apos.endLine == Qq.line&&!nh o)=true then (match args with
  | [e]=>if isStar e=false then (T.e o).bind λx=>(T.e e).map λy=>if Jr o=true then f2 tZ x y else f2 MW x y else none
  | _=>none)
 else none
def yx(G:Sg)(sc:Scope)(N:List Str)(T:Tr)(whole:Expr):Option FE:=match whole with
 | .Name x _=>wc G sc N x
 | .Constant c _ _=>zc c
 | .UnaryOp op a _=>MG T op a
 | .BinOp a op b _=>Cf T whole a op b
 | .BoolOp op es _=>rG T op es
 | .Compare a ops cs _=>zk T a ops cs
 | .IfExp c a b _=>(T.t c).bind λz=>(T.e a).bind λx=>(T.e b).map λy=>Jl z x y
 | .Tuple es _ _=>(oZ T es).map bT
 | .Subscript a b _=>Eb T a b
 | .List ..=>(T.f whole).map bI
 | .ListComp ..=>(T.f whole).map bI
 | .Call (.Name x _) args [] _=>vv G sc T whole x args
 | .Call (.Name _ _) _ (_::_) _=>(T.f whole).map bI
 | .Call (.Attribute o m apos) args [] Qq=>v7 T o m apos args Qq
 | _=>none
def Nv(T:Tr)(op:BoolOp):List Expr->Option (Dl.Env->Option Bool)
 | []=>none
 | [a]=>T.t a
 | a::b::r=>(T.t a).bind λx=>(Nv T op (b::r)).map λy=>match op with|.And=>oA x y|.Or=>d5 x y
def Ed:Expr->Bool
 | .Name ..=>true
 | .Call ..=>true
 | .Subscript ..=>true
 | _=>false
def stepT(T:Tr)(whole:Expr):Option (Dl.Env->Option Bool):=match whole with
 | .Compare a ops cs _=>(zk T a ops cs).map fB
 | .UnaryOp .Not a _=>(T.t a).map cq
 | .BoolOp op es _=>Nv T op es
 | _=>if Ed whole=true then (T.e whole).map fB else none
def rT:Expr->Bool
 | .Tuple ..=>true
 | _=>false
def F9:List Str:=["line","word","text","_law_line","_law_text","_law_word","_law_text_here","_law_spoilt","_law_sign","DIGITS","POINT"]
def n8:Nat->Expr->Bool
 | 0,_=>false
 | n+1,e=>match e with
  | .Constant (.str _) _ _=>true
  | .Name x _=>F9.contains x
  | .BinOp a .Add b _=>n8 n a||n8 n b
  | .IfExp _ a b _=>n8 n a||n8 n b
  | .Subscript a (.Slice ..) _=>n8 n a
  | .Subscript a _ _=>n8 n a||L3 a
  | .Call (.Attribute _ m _) _ _ _=>m == ("join":Str)
  | .Call (.Name x _) _ _ _=>x == ("str":Str)
  | _=>false
abbrev tx(e:Expr):Bool:=n8 20 e
def Mw(sc:Scope)(T:Tr)(tg iter:Expr):Option (Dl.Env->Option (List D)):=match iter with
 | .Call (.Name x _) args [] _ =>
  if x="range" then (match args with|[e]=>if (o9 sc "range"&&!isStar e)=true then (oZ T args).map fK else none|_=>none)
  else if x="enumerate" then (match args with|[e]=>if (o9 sc "enumerate"&&!isStar e&&rT tg)=true then (oZ T args).map sN else none|_=>none)
  else if x="zip" then (match args with|[e,e']=>if (o9 sc "zip"&&!isStar e&&!isStar e'&&rT tg)=true then (oZ T args).map IJ else none|_=>none)
  else (T.e iter).map aH
 | .Set ..=>none
 | _=>if tx iter=true then (T.e iter).map HQ else (T.e iter).map aH
def Oq:Expr->Option (List Str)
 | .Name x _=>some [x]
 | .Tuple [.Name x _,.Name y _] _ _=>some [x,y]
 | _=>none
def NB:Expr->Option (List Str)
 | .Tuple [.Name x _,.Name y _,.Name z _] _ _=>some [x,y,z]
 | tg=>Oq tg
def iA(N:List Str)(scope:Scope):List Nat:=(List.range N.length).filter λj=>match N[j]? with|some x=>decide (scope.names.lookup x=some .free)|none=>false
def vp:Expr->Bool
 | .Set ..=>false
 | _=>true
def sO(B:Tr)(ifs:List Expr):Option (Dl.Env->Option Bool):=match ifs with
 | []=>some λ_=>some true
 | [c]=>B.t c
 | _=>none
def sf(sc:Scope)(N:List Str)(T:Tr)(blk:Scope->List Str->Tr)(elt:Expr)(gens:List Comprehension)(scope:Scope):Option (Dl.Env->Option (List D)):=match gens with
 | [⟨tg,iter,ifs,as⟩] =>
  if as=0 then (NB tg).bind λxs =>
   if (om sc scope N (xs++(iA N scope).filterMap λj=>N[j]?) xs.length (iA N scope)&&(List.range xs.length).all λi=>jw (xs++(iA N scope).filterMap λj=>N[j]?) scope i (xs.getD i ""))=true then
    (Mw sc T tg iter).bind λfi=>(sO (blk scope (xs++(iA N scope).filterMap λj=>N[j]?)) ifs).bind λtt =>
     ((blk scope (xs++(iA N scope).filterMap λj=>N[j]?)).e elt).map λte=>az xs.length (iA N scope) fi (match xs with|[_]=>fG 0|[_,_]=>Fg 0 1|_=>OR 0 1 2) tt te
   else none
  else none
 | _=>none
def ze(lam:Option Str)(sc:Scope)(N:List Str)(T:Tr)(blk lmb:Scope->List Str->Tr)(whole:Expr):Option (Dl.Env->Option (List D)):=match whole with
 | .List es _=>(oZ T es).map cC
 | .ListComp elt gens scope _=>sf sc N T blk elt gens scope
 | .BinOp a .Mult b _=>if IV a=true then (T.f a).bind λx=>(T.e b).map λy=>Ia x y else none
 | .BinOp a .Add b _=>(T.e a).bind λx=>(T.e b).map λy=>dv b8 x y
 | .Call (.Name x _) [e] [] _ =>
  if (o9 sc x&&!isStar e)=true then
   if x="list" then (oZ T [e]).map λfs=>f7 cf fs
   else if x="sorted" then (oZ T [e]).map λfs=>f7 fv fs
   else none
  else none
 | _=>none
def Ce(G:Sg)(sc:Scope)(T:Tr)(x:Str)(e:Expr):Option FE :=
 if (o9 sc x&&(!isStar e&&(G.fn.lookup x).isNone))=true then
  if (x == ("len":Str)&&tx e)=true then (oZ T [e]).map λfs=>aY ft fs
  else if (x == ("str":Str))=true then (oZ T [e]).map λfs=>aY lD fs
  else if (x == ("int":Str)&&tx e)=true then (oZ T [e]).map λfs=>aY nr fs
  else none
 else none
def D6(T:Tr)(o:Expr)(m:Str)(apos:Pos)(e:Expr)(Qq:Pos):Option FE :=
 if (apos.endLine == Qq.line&&(!nh o&&!isStar e))=true then
  if (m == ("join":Str))=true then (T.e o).bind λx=>(T.e e).map λy=>f2 il x y
  else if (m == ("split":Str))=true then (T.e o).bind λx=>(T.e e).map λy=>bI (dv aR x y)
  else if (m == ("index":Str)&&tx o)=true then (T.e o).bind λx=>(T.e e).map λy=>f2 nV x y
  else none
 else none
def E6(T:Tr)(a b:Expr):Option FE:=match b with
 | .Slice lo hi none _=>(T.e a).bind λx=>(Nk T lo).bind λl=>(Nk T hi).map λh=>aP d4 x l h
 | _=>if uI b=false then (T.e a).bind λx=>(T.e b).map λy=>f2 Bu x y else none
def LK:CmpOp->Option (D->D->Option D)
 | .In=>some λx y=>(MA x y).map PyData.bool
 | .NotIn=>some λx y=>(rE x y).map PyData.bool
 | _=>none
def yk(T:Tr)(a:Expr)(ops:List CmpOp)(cs:List Expr):Option FE:=match ops,cs with
 | [op],[b]=>if (tx b&&!behindInMarks op b)=true then (LK op).bind λg=>(T.e a).bind λx=>(T.e b).map λy=>f2 g x y else none
 | _,_=>none
def CM(G:Sg)(sc:Scope)(T:Tr)(whole:Expr):Option FE:=match whole with
 | .BinOp a .Add b _=>if (tx a||tx b)=true then (T.e a).bind λx=>(T.e b).map λy=>f2 d0 x y else none
 | .Subscript a b _=>if tx a=true then E6 T a b else none
 | .Call (.Name x _) [e] [] _=>Ce G sc T x e
 | .Call (.Attribute o m apos) [e] [] Qq=>D6 T o m apos e Qq
 | .Compare a ops cs _=>yk T a ops cs
 | _=>none
def BZ(G:Sg)(sc:Scope)(N:List Str)(T:Tr)(whole:Expr):Option FE:=match CM G sc T whole with
 | some f=>some f
 | none=>yx G sc N T whole
def Cu(T:Tr)(whole:Expr):Option (Dl.Env->Option Bool):=match whole with
 | .Compare a ops cs _=>(yk T a ops cs).map fB
 | _=>none
def E5(T:Tr)(whole:Expr):Option (Dl.Env->Option Bool):=match Cu T whole with
 | some f=>some f
 | none=>stepT T whole
def ON(mg:Str->Option Value)(x:Str):D->Prop
 | .int i=>∃t,mg x=some (.int i t)
 | .str a=>∃t,mg x=some (.str a t)
 | _=>False
def tr(G:Sg):Nat->Option Str->Scope->List Str->Tr
 | 0,_,_,_=>⟨λ_=>none,λ_=>none,λ_=>none⟩
 | n+1,lam,sc,N=>⟨BZ G sc N (tr G n lam sc N),ze lam sc N (tr G n lam sc N) (tr G n none) (tr G n none),E5 (tr G n lam sc N)⟩
structure Ln(G:Sg)(X:Cx)(j:Nat):Prop where
 fn:∀x n m,G.fn.lookup x=some (n,m)->ES X.prog X.w X.K X.mg X.base j x n m
 int:∀x i,G.int.lookup x=some i->ON X.mg x i
 bn:Bn X
structure nv(X:Cx)(tg iter:Expr)(ifs:List Expr)(elt:Expr)(scope:Scope)(f:Dl.Env->Option (List D)):Prop where
 ex:∃ (N':List Str) (t:Nat) (cs:List Nat) (fi:Dl.Env->Option (List D)) (tgt:Dl.Env->D->Option Dl.Env) (tt:Dl.Env->Option Bool) (te:FE),f=az t cs fi tgt tt te/\fM X scope N' (gf t cs)/\DI X tg iter fi/\(∀x,foldedSetIterable iter X.env x=pure x) /\
  ∀fp s H,DG (aq X scope N' fp s H) tg tgt/\Iv (aq X scope N' fp s H) ifs tt/\DE (aq X scope N' fp s H) elt te
structure bD(X:Cx)(T:Tr):Prop where
 c:∀elt gens scope p f,T.f (.ListComp elt gens scope p)=some f->∃tg iter ifs,gens=[⟨tg,iter,ifs,0⟩]/\nv X tg iter ifs elt scope f
 e:∀e f,T.e e=some f->DE X e f
 f:∀e f,T.f e=some f->DF X e f
 t:∀e f,T.t e=some f->DT X e f
section
variable {G:Sg}{X:Cx}{N:List Str}{sc:Scope}{k j:Nat}{T:Tr}{pos p:Pos}
def Bw(C:Bk X N sc k)(g:Ln G X j)(h:wc G sc N x=some f):DE X (.Name x pos) f:=by
 unfold wc at h;split at h
 ·split at h
  ·cases h;exact C.v _ ‹_›
  ·cases h
 ·split at h
  ·rename_i hg;let⟨n,hn,rfl⟩:=af h;have z:=g.int x n hn;simp?[zF,yL] at hg;cases n<;>first|exact False.elim z|(let⟨t,ht⟩:=z;first|exact Ho (C.gl hg.1) ht hg.2|exact Ht (C.gl hg.1) ht hg.2)
  ·cases h
def wb(h:zc c=some f):DE X (.Constant c i pos) f:=by
 cases c<;>cases h<;>first|exact JA|exact ME|exact Je|exact K6
def Fj(C:Bk X N sc k)(O:bD X T)(h:MG T op a=some f):DE X (.UnaryOp op a pos) f:=by
 cases op<;>try cases h
 ·let⟨x,hx,rfl⟩:=af h;exact C.neg (O.e _ _ hx)
def D0(C:Bk X N sc k)(O:bD X T)(h:Cf T (.BinOp a op b pos) a op b=some f):DE X (.BinOp a op b pos) f:=by
 unfold Cf at h;split at h
 ·let⟨x,hx,rfl⟩:=af h;exact DF.de (O.f _ _ hx)
 ·let⟨g,hg,h⟩:=bs h;let⟨x,hx,h⟩:=bs h;let⟨y,hy,rfl⟩:=af h;cases op<;>cases hg
  ·exact C.add (O.e _ _ hx) (O.e _ _ hy)
  ·exact C.sub (O.e _ _ hx) (O.e _ _ hy)
  ·exact C.mul (O.e _ _ hx) (O.e _ _ hy)
  ·exact C.mod (O.e _ _ hx) (O.e _ _ hy)
  ·exact C.div (O.e _ _ hx) (O.e _ _ hy)
def pS(O:bD X T):∀ {es:List Expr}{f:FE},rG T op es=some f->DE X (.BoolOp op es pos) f
 | [],f,h=>by cases h
 | [a],f,h=>Jb (O.e _ _ h)
 | a::b::r,f,h=>by
  unfold rG at h;let⟨x,hx,h⟩:=bs h;let⟨y,hy,rfl⟩:=af h;have ih:=pS O hy;cases op with
  | And=>exact KR (O.e _ _ hx) ih
  | Or=>exact MH (O.e _ _ hx) ih
def Ju(C:Bk X N sc k)(hg:Mx op=some g)(hm:behindInMarks op b=false)(ha:DE X a x)(hb:DE X b y):DE X (.Compare a [op] [b] pos) (f2 g x y)/\DT X (.Compare a [op] [b] pos) (fB (f2 g x y)):=by
 cases op<;>cases hg
 ·exact⟨C.eq ha hb,C.teq ha hb⟩
 ·exact⟨C.ne ha hb,C.tne ha hb⟩
 ·exact⟨C.lt ha hb,C.tlt ha hb⟩
 ·exact⟨C.le ha hb,C.tle ha hb⟩
 ·exact⟨C.gt ha hb,C.tgt ha hb⟩
 ·exact⟨C.is0 ha hb,C.XJ ha hb⟩
 ·exact⟨C.XI ha hb,C.VT ha hb⟩
 ·exact⟨C.isin ha hb hm,C.tin ha hb hm⟩
 ·exact⟨C.V1 ha hb hm,C.XW ha hb hm⟩
def IP(h:NS op=some g):∃r,eZ X (compareOp op) r/\dP X.K r g:=by
 cases op<;>cases h
 ·exact⟨_,Er,iF⟩
 ·exact⟨_,BP,iF⟩
def tV(C:Bk X N sc k)(O:bD X T){cs:List Expr}(h:zk T a ops cs=some f):DE X (.Compare a ops cs pos) f/\DT X (.Compare a ops cs pos) (fB f):=by
 unfold zk at h;split at h
 ·split at h
  ·rename_i hm;let⟨g,hg,h⟩:=bs h;let⟨x,hx,h⟩:=bs h;let⟨y,hy,rfl⟩:=af h;exact Ju C hg hm (O.e _ _ hx) (O.e _ _ hy)
  ·cases h
 ·split at h
  ·rename_i hm;let⟨g,hg,h⟩:=bs h;let⟨g',VQ,h⟩:=bs h;let⟨x,hx,h⟩:=bs h;let⟨y,hy,h⟩:=bs h;let⟨z,hz,rfl⟩:=af h;let⟨r,r1,r2⟩:=IP (X:=X) hg;let⟨r',Vj,Wo⟩:=IP (X:=X) VQ;exact⟨EO r1 r2 Vj Wo (O.e _ _ hx) (O.e _ _ hy) (O.e _ _ hz) hm,Cq r1 r2 Vj Wo (O.e _ _ hx) (O.e _ _ hy) (O.e _ _ hz) hm⟩
  ·cases h
 ·cases h
def ck(O:bD X T):∀ {es:List Expr}{fs:Dl.Env->Option (List D)},oZ T es=some fs->DA X es fs
 | [],fs,h=>by cases h;exact Kv
 | e::es,fs,h=>by
  unfold oZ at h;split at h
  ·rename_i hs;let⟨x,hx,h⟩:=bs h;let⟨r,hr,rfl⟩:=af h;exact NL hs (O.e _ _ hx) (ck O hr)
  ·cases h
def sv(O:bD X T)(h:Nk T o=some f):DO X o f:=by
 cases o with
 | none=>cases h;exact GL
 | some e=>let⟨x,hx,rfl⟩:=af h;exact Fw (O.e _ _ hx)
def js(h:uI b=false):k7 b:=by
 cases b<;>first|(intro _ _;rfl)|cases h
def AB(h:oq e=true):∃j p4 p3,e=.UnaryOp .USub (.Constant (.int 1) j p4) p3:=by
 unfold oq at h;split at h
 ·exact⟨_,_,_,rfl⟩
 ·cases h
def B4(C:Bk X N sc k)(O:bD X T)(h:Eb T a b=some f):DE X (.Subscript a b pos) f:=by
 unfold Eb at h;split at h
 ·let⟨x,hx,h⟩:=bs h;let⟨l,hl,h⟩:=bs h;let⟨u,hu,rfl⟩:=af h;exact C.cut (O.e _ _ hx) (sv O hl) (sv O hu)
 ·split at h
  ·rename_i hm;let⟨x,hx,rfl⟩:=af h;let⟨_,_,_,rfl⟩:=AB hm;split
   ·exact Gc (O.e _ _ hx)
   ·exact IX (O.e _ _ hx)
  ·cases h
 ·split at h
  ·rename_i hc;let⟨x,hx,h⟩:=bs h;let⟨y,hy,rfl⟩:=af h;exact Md (O.e _ _ hx) (O.e _ _ hy) (js hc)
  ·cases h
def eQ{env:PySem.Env}:∀ {es:List Expr},(es.all λe=>!isStar e)=true->(backTo pos (starEach es env)).any (·.1)=false
 | [],_=>rfl
 | e::es,h=>by
  rw[xP,zF,yL] at h;rw[aO h.1];show (false||(backTo pos (starEach es env)).any (·.1))=false;rw[eQ h.2];rfl
def Dh(h:lY e=some e'):∃p q,e=.Call (.Name "set" p) [e'] [] q:=by
 unfold lY at h;split at h
 ·split at h
  ·rename_i hx;cases h;subst hx;exact⟨_,_,rfl⟩
  ·cases h
 ·cases h
def Gn(h:Jq y=some ty):y∈cU/\bootBuiltins y=some (.type ty)/\y≠"__name__"/\(y == ("__debug__":Str))=false:=by
 unfold Jq at h;split at h
 ·rename_i e;cases h;subst e;exact⟨by decide +kernel,by decide +kernel,by decide,by decide⟩
 ·split at h
  ·rename_i e;cases h;subst e;exact⟨by decide +kernel,by decide +kernel,by decide,by decide⟩
  ·split at h
   ·rename_i e;cases h;subst e;exact⟨by decide +kernel,by decide +kernel,by decide,by decide⟩
   ·split at h
    ·rename_i e;cases h;subst e;exact⟨by decide +kernel,by decide +kernel,by decide,by decide⟩
    ·cases h
def Kj:bootBuiltins "any"=some (.builtin "any"):=by decide +kernel
def J1:bootBuiltins "sum"=some (.builtin "sum"):=by decide +kernel
def Cv:bootBuiltins "min"=some (.builtin "min"):=by decide +kernel
def vx(h:l.length=1):∃a,l=[a]:=by
 match l,h with
 | [a],_=>exact⟨a,rfl⟩
def AA(C:Bk X N sc k)(g:Ln G X j)(T7:j<=k)(O:bD X T)(h:vv G sc T (.Call (.Name x p) args [] pos) x args=some f):DE X (.Call (.Name x p) args [] pos) f:=by
 unfold vv at h;split at h
 ·rename_i hg;rw[zF] at hg;let⟨hg,hs⟩:=hg;have SM:∀ {e:Expr}{es:List Expr},args=e::es->starEach (e::es) X.env=(false,eval e X.env)::starEach es X.env:=λ{e es} q=>by
   subst q;rw[xP,zF,yL] at hs;exact aO hs.1
  have SI:∀ {e:Expr}{es:List Expr},args=e::es->(backTo pos (starEach es X.env)).any (·.1)=false:=λ{e es} q=>by
   subst q;rw[xP,zF] at hs;exact eQ hs.2
  split at h
  ·rename_i n m TF;split at h
   ·cases h
   ·rename_i QS;let⟨fs,RP,rfl⟩:=af h;cases args with
    | nil=>exact absurd (by simp) QS
    | cons e es =>
     have hd:(x == ("__debug__":Str))=false:=by simpa using QS
     exact Hl (g.fn x n m TF) (C.room.mono T7) (C.gl hg) (ck O RP) hd (SM rfl) (SI rfl)
  ·split at h
   ·rename_i hx;subst hx;split at h
    ·rename_i e;split at h
     ·rename_i e' TZ;split at h
      ·rename_i X1;rw[zF,yL] at X1;let⟨y,hy,rfl⟩:=af h;let⟨p1,p2,rfl⟩:=Dh TZ;exact Bs C.calm (C.blt g.bn hg (by decide +kernel) wR) (C.blt g.bn X1.1 (by decide +kernel) JV) (O.e _ _ hy) (aO X1.2)
      ·cases h
     ·let⟨fs,RP,rfl⟩:=af h;exact KB (C.blt g.bn hg (by decide +kernel) wR) (ck O RP) (SM rfl)
    ·cases h
   ·split at h
    ·rename_i hx;subst hx;split at h
     ·rename_i e y py;split at h
      ·rename_i X3;let⟨ty,WV,h⟩:=bs h;let⟨z,hz,rfl⟩:=af h;let⟨t1,t2,t3,t4⟩:=Gn WV;exact L9 (C.blt g.bn hg (by decide +kernel) oY) (C.blt g.bn X3 t1 t2) (O.e _ _ hz) t3 t4 (SM rfl)
      ·cases h
     ·cases h
    ·split at h
     ·rename_i hx;subst hx;split at h
      ·rename_i hl;let⟨fs,RP,rfl⟩:=af h;let⟨e,rfl⟩:=vx hl;exact CG (C.blt g.bn hg (by decide +kernel) oM) (ck O RP) (SM rfl)
      ·cases h
     ·split at h
      ·rename_i hx;subst hx;split at h
       ·rename_i hl;let⟨fs,RP,rfl⟩:=af h;let⟨e,rfl⟩:=vx hl;exact KN C.calm (C.blt g.bn hg (by decide +kernel) KP) (ck O RP) (SM rfl)
       ·cases h
      ·split at h
       ·rename_i hx;subst hx;split at h
        ·rename_i hl;let⟨fs,RP,rfl⟩:=af h;let⟨e,rfl⟩:=vx hl;exact Lo C.calm (C.blt g.bn hg (by decide +kernel) Kj) (SM rfl) (ck O RP)
        ·cases h
       ·split at h
        ·rename_i hx;subst hx;split at h
         ·rename_i hl;let⟨fs,RP,rfl⟩:=af h;let⟨e,rfl⟩:=vx hl;exact Kk C.calm (C.blt g.bn hg (by decide +kernel) J1) (SM rfl) (ck O RP)
         ·cases h
        ·split at h
         ·rename_i hx;subst hx;split at h
          ·cases h
          ·rename_i hl;let⟨fs,RP,rfl⟩:=af h;cases args with
           | nil=>exact absurd rfl hl
           | cons e es =>
            exact Ky C.calm (C.blt g.bn hg (by decide +kernel) Cv) (SM rfl) (SI rfl) (ck O RP)
         ·split at h
          ·let⟨y,hy,rfl⟩:=af h;exact DF.de (O.f _ _ hy)
          ·cases h
 ·cases h
end
section
variable {G:Sg}{X:Cx}{N:List Str}{sc:Scope}{k j:Nat}{T:Tr}{pos p:Pos}
def Bo(h:isStar e=false):((backTo Qq (starEach [e] env)).all (λx=>!x.1)&&(backToKw Qq (keywordEach [] env)).all (λx=>x.1.isSome)&&decide ([e].length+([]:List Keyword).length+(if ([]:List Keyword).isEmpty then 0 else 1) < 30))=true:=by
 rw[aO h];rfl
def dH(h:nh o=false):attributeBase o a env w=w:=by
 cases o<;>first|rfl|cases h
def BE(C:Bk X N sc k)(O:bD X T)(h:v7 T o m apos args Qq=some f):DE X (.Call (.Attribute o m apos) args [] Qq) f:=by
 unfold v7 at h;split at h
 ·rename_i hm;rw[zF,zF,yL] at hm;let⟨⟨hm1,hm⟩,Q5⟩:=hm;have e1:m="index":=eq_of_beq hm1;subst e1;split at h
  ·rename_i e;split at h
   ·rename_i hs;let⟨x,hx,h⟩:=bs h;let⟨y,hy,rfl⟩:=af h;split
    ·exact AV C.VR (dH Q5) (Bo hs) hm (aO hs) (O.e _ _ hx) (O.e _ _ hy)
    ·exact Ar (dH Q5) (Bo hs) hm (aO hs) (O.e _ _ hx) (O.e _ _ hy)
   ·cases h
  ·cases h
 ·cases h
def CS(C:Bk X N sc k)(g:Ln G X j)(T7:j<=k)(O:bD X T)(h:yx G sc N T e=some f):DE X e f:=by
 unfold yx at h;split at h
 ·exact Bw C g h
 ·exact wb h
 ·exact Fj C O h
 ·exact D0 C O h
 ·exact pS O h
 ·exact (tV C O h).1
 ·let⟨z,hz,h⟩:=bs h;let⟨x,hx,h⟩:=bs h;let⟨y,hy,rfl⟩:=af h;exact Np (O.t _ _ hz) (O.e _ _ hx) (O.e _ _ hy)
 ·let⟨x,hx,rfl⟩:=af h;exact JM (ck O hx)
 ·exact B4 C O h
 ·let⟨x,hx,rfl⟩:=af h;exact DF.de (O.f _ _ hx)
 ·let⟨x,hx,rfl⟩:=af h;exact DF.de (O.f _ _ hx)
 ·exact AA C g T7 O h
 ·let⟨x,hx,rfl⟩:=af h;exact DF.de (O.f _ _ hx)
 ·exact BE C O h
 ·cases h
def Ey(O:bD X T):∀ {es:List Expr}{f:Dl.Env->Option Bool},Nv T op es=some f->DW X (.BoolOp op es pos) f
 | [],f,h=>by cases h
 | [a],f,h=>by
  cases op with
  | And=>exact Fn (O.t _ _ h)
  | Or=>exact Js (O.t _ _ h)
 | a::b::r,f,h=>by
  unfold Nv at h;let⟨x,hx,h⟩:=bs h;let⟨y,hy,rfl⟩:=af h;have ih:=Ey O hy;cases op with
  | And=>exact Kb (O.t _ _ hx) ih
  | Or=>exact Mj (O.t _ _ hx) ih
def Ec(C:Bk X N sc k)(O:bD X T)(h:stepT T e=some f):DT X e f:=by
 unfold stepT at h;split at h
 ·let⟨x,hx,rfl⟩:=af h;exact (tV C O hx).2
 ·let⟨x,hx,rfl⟩:=af h;exact JB (O.t _ _ hx)
 ·exact DW.dt (Ey O h)
 ·split at h
  ·rename_i hp;let⟨x,hx,rfl⟩:=af h;refine LC (O.e _ _ hx) ?_;revert hp;cases e<;>first|(intro hp;cases hp;done)|(intro hp _;rfl)
  ·cases h
def wY(h:vp e=true):∀x,foldedSetIterable e env x=pure x:=by
 cases e<;>first|(intro _;rfl)|cases h
def vU(C:Bk X N sc k)(B:Bn X)(O:bD X T)(h:Mw sc T tg iter=some fi):DI X tg iter fi/\∀x,foldedSetIterable iter X.env x=pure x:=by
 unfold Mw at h;split at h
 ·refine⟨?_,λ_=>rfl⟩;split at h
  ·rename_i hx;subst hx;split at h
   ·split at h
    ·rename_i hg;rw[zF,yL] at hg;let⟨x,hx,rfl⟩:=af h;exact C0 (C.blt B hg.1 (by decide +kernel) EB) (ck O hx) (aO hg.2)
    ·cases h
   ·cases h
  ·split at h
   ·rename_i hx;subst hx;split at h
    ·split at h
     ·rename_i hg;simp?[zF,yL] at hg;let⟨x,hx,rfl⟩:=af h;cases tg<;>first|exact Hf (C.blt B hg.1.1 (by decide +kernel) sj) (ck O hx) (aO hg.1.2)|exact absurd hg.2 (by simp[rT])
     ·cases h
    ·cases h
   ·split at h
    ·rename_i hx;subst hx;split at h
     ·split at h
      ·rename_i e e' hg;simp?[zF,yL] at hg;let⟨x,hx,rfl⟩:=af h;cases tg<;>first|exact HC (C.blt B hg.1.1.1 (by decide +kernel) JG) (aO hg.1.1.2) (eQ (by simp[hg.1.2])) (ck O hx)|exact absurd hg.2 (by simp[rT])
      ·cases h
     ·cases h
    ·let⟨x,hx,rfl⟩:=af h;exact EU (O.e _ _ hx)
 ·cases h
 ·rename_i h1 h2;have hn:vp iter=true:=by cases iter<;>first|rfl|exact absurd rfl (h2 _ _ _)
  split at h
  ·let⟨x,hx,rfl⟩:=af h;exact⟨GX (O.e _ _ hx),wY hn⟩
  ·let⟨x,hx,rfl⟩:=af h;exact⟨EU (O.e _ _ hx),wY hn⟩
def KY(h:Oq tg=some xs):(∃x px,tg=.Name x px/\xs=[x])\/∃x px y py m pt,tg=.Tuple [.Name x px,.Name y py] m pt/\xs=[x,y]:=by
 unfold Oq at h;split at h
 ·cases h;exact .inl ⟨_,_,rfl,rfl⟩
 ·cases h;exact .inr ⟨_,_,_,_,_,_,rfl,rfl⟩
 ·cases h
def KO(h:NB tg=some xs):((∃x px,tg=.Name x px/\xs=[x])\/∃x px y py m pt,tg=.Tuple [.Name x px,.Name y py] m pt/\xs=[x,y])\/∃x px y py z pz m pt,tg=.Tuple [.Name x px,.Name y py,.Name z pz] m pt/\xs=[x,y,z]:=by
 unfold NB at h;split at h
 ·cases h;exact .inr ⟨_,_,_,_,_,_,_,_,rfl,rfl⟩
 ·exact .inl (KY h)
def qa(C:Bk X N sc k)(B:Bn X)(O:bD X T)(OB:∀scope N' fp s H,Bk (aq X scope N' fp s H) N' scope k->bD (aq X scope N' fp s H) (blk scope N'))
  (h:sf sc N T blk elt [⟨tg,iter,ifs,as⟩] scope=some f):as=0/\nv X tg iter ifs elt scope f:=by
 unfold sf at h;dsimp only at h;split at h
 ·rename_i has;refine⟨has,?_⟩;let⟨xs,hxs,h⟩:=bs h;split at h
  ·rename_i Qt;rw[zF] at Qt;let⟨fi,Rt,h⟩:=bs h;let⟨tt,S8,h⟩:=bs h;let⟨te,TM,rfl⟩:=af h;let⟨S,CB⟩:=C.comp Qt.1;let⟨hd,QK⟩:=vU C B O Rt;refine⟨_,_,_,_,_,_,_,rfl,S,hd,QK,λfp s H=>?_⟩;have C1:=CB fp s H;have O1:=OB scope _ fp s H C1;refine⟨?_,?_,O1.e _ _ TM⟩
   ·rcases KO hxs with (⟨x,px,rfl,rfl⟩|⟨x,px,y,py,m,pt,rfl,rfl⟩)|⟨x,px,y,py,z,pz,m,pt,htg,rfl⟩
    ·have z:=C1.loc (i:=0) (x:=x) (List.all_eq_true.mp Qt.2 0 (by simp));exact zp 0 z.1 z.2.1 z.2.2.1 z.2.2.2
    ·have z:=C1.loc (i:=0) (x:=x) (List.all_eq_true.mp Qt.2 0 (by simp));have w:=C1.loc (i:=1) (x:=y) (List.all_eq_true.mp Qt.2 1 (by simp));exact K3 0 1 C1.calm z.1 z.2.1 z.2.2.1 w.2.1 w.2.2.1 z.2.2.2 w.2.2.2
    ·have z0:=C1.loc (i:=0) (x:=x) (List.all_eq_true.mp Qt.2 0 (by simp));have w:=C1.loc (i:=1) (x:=y) (List.all_eq_true.mp Qt.2 1 (by simp));have u:=C1.loc (i:=2) (x:=z) (List.all_eq_true.mp Qt.2 2 (by simp));subst htg;exact D8 0 1 2 C1.calm z0.1 z0.2.1 z0.2.2.1 w.2.1 w.2.2.1 u.2.1 u.2.2.1 z0.2.2.2 w.2.2.2 u.2.2.2
   ·unfold sO at S8;split at S8
    ·cases S8;exact zu
    ·exact zz (O1.t _ _ S8)
    ·cases S8
  ·cases h
 ·cases h
def nv.df(hc:X.calm=true)(h:nv X tg iter ifs elt scope f):DF X (.ListComp elt [⟨tg,iter,ifs,0⟩] scope pos) f:=by
 let⟨N',t,cs,fi,tgt,tt,te,rfl,S,hd,QK,hY⟩:=h.ex;exact Hs hc S hd hY QK
def C2(C:Bk X N sc k)(B:Bn X)(T8:∀q,lam=some q->Ib X q/\j+3<=k)(O:bD X T)
  (OB:∀scope N' fp s H,Bk (aq X scope N' fp s H) N' scope k->bD (aq X scope N' fp s H) (blk scope N'))
  (OL:∀scope N' qual A f c s H,Bk (IS X A qual scope N' f c s H) N' scope (k - 3)->j<=k - 3->bD (IS X A qual scope N' f c s H) (lmb scope N')) {e:Expr}{f:Dl.Env->Option (List D)}(h:ze lam sc N T blk lmb e=some f):DF X e f:=by
 unfold ze at h;split at h
 ·let⟨x,hx,rfl⟩:=af h;exact JS (ck O hx)
 ·rename_i elt gens scope ps
  match gens,h with
  | [⟨tg,iter,ifs,as⟩],h =>
   let⟨rfl,q⟩:=qa C B O OB h;exact q.df C.calm
 ·split at h
  ·let⟨x,hx,h⟩:=bs h;let⟨y,hy,rfl⟩:=af h;exact Lr (O.f _ _ hx) (O.e _ _ hy)
  ·cases h
 ·let⟨x,hx,h⟩:=bs h;let⟨y,hy,rfl⟩:=af h;exact Jf (O.e _ _ hx) (O.e _ _ hy)
 ·split at h
  ·rename_i hg;rw[zF,yL] at hg;split at h
   ·rename_i hx;subst hx;let⟨x,hx,rfl⟩:=af h;exact G9 (C.blt B hg.1 (by decide +kernel) Ga) (ck O hx) (aO hg.2)
   ·split at h
    ·rename_i hx;subst hx;let⟨x,hx,rfl⟩:=af h;exact BC (C.blt B hg.1 (by decide +kernel) Bg) (ck O hx) (aO hg.2)
    ·cases h
  ·cases h
 ·cases h
def Gu(C:Bk X N sc k)(B:Bn X)(O:bD X T)(OB:∀scope N' fp s H,Bk (aq X scope N' fp s H) N' scope k->bD (aq X scope N' fp s H) (blk scope N'))
  {elt:Expr}{gens:List Comprehension}{scope:Scope}{p:Pos}{f:Dl.Env->Option (List D)}(h:ze lam sc N T blk lmb (.ListComp elt gens scope p)=some f):∃tg iter ifs,gens=[⟨tg,iter,ifs,0⟩]/\nv X tg iter ifs elt scope f:=by
 have h:sf sc N T blk elt gens scope=some f:=h
 match gens,h with
 | [⟨tg,iter,ifs,as⟩],h =>
  let⟨rfl,q⟩:=qa C B O OB h;exact⟨tg,iter,ifs,rfl,q⟩
def K4:bootBuiltins "str"=some (.type "str"):=by decide +kernel
def BO(C:Bk X N sc k)(g:Ln G X j)(O:bD X T)(h:Ce G sc T x e=some f):DE X (.Call (.Name x p) [e] [] pos) f:=by
 unfold Ce at h;split at h
 ·rename_i hg;simp?[zF,yL] at hg;let⟨hg,hs,_⟩:=hg;split at h
  ·rename_i hc;rw[zF] at hc;obtain rfl:=eq_of_beq hc.1;let⟨fs,hf,rfl⟩:=af h;exact GO (C.blt g.bn hg (by decide +kernel) wR) (ck O hf) (aO hs)
  ·split at h
   ·rename_i hc;obtain rfl:=eq_of_beq hc;let⟨fs,hf,rfl⟩:=af h;exact Ft (C.blt g.bn hg (by decide +kernel) K4) (ck O hf) (aO hs)
   ·split at h
    ·rename_i hc;rw[zF] at hc;obtain rfl:=eq_of_beq hc.1;let⟨fs,hf,rfl⟩:=af h;exact HE (C.blt g.bn hg (by decide +kernel) Kc) (ck O hf) (aO hs)
    ·cases h
 ·cases h
def DB(O:bD X T)(h:D6 T o m apos e Qq=some f):DE X (.Call (.Attribute o m apos) [e] [] Qq) f:=by
 unfold D6 at h;split at h
 ·rename_i hg;simp?[zF,yL] at hg;let⟨hl,hc,hs⟩:=hg;split at h
  ·rename_i hm;obtain rfl:=eq_of_beq hm;let⟨x,hx,h⟩:=bs h;let⟨y,hy,rfl⟩:=af h;exact F3 (dH hc) (Bo hs) hl (aO hs) (O.e _ _ hx) (O.e _ _ hy)
  ·split at h
   ·rename_i hm;obtain rfl:=eq_of_beq hm;let⟨x,hx,h⟩:=bs h;let⟨y,hy,rfl⟩:=af h;exact DF.de (DN (dH hc) (Bo hs) hl (aO hs) (O.e _ _ hx) (O.e _ _ hy))
   ·split at h
    ·rename_i hm;rw[zF] at hm;obtain rfl:=eq_of_beq hm.1;let⟨x,hx,h⟩:=bs h;let⟨y,hy,rfl⟩:=af h;exact AR (dH hc) (Bo hs) hl (aO hs) (O.e _ _ hx) (O.e _ _ hy)
    ·cases h
 ·cases h
def EN(O:bD X T)(h:E6 T a b=some f):DE X (.Subscript a b pos) f:=by
 unfold E6 at h;split at h
 ·let⟨x,hx,h⟩:=bs h;let⟨l,hl,h⟩:=bs h;let⟨u,hu,rfl⟩:=af h;exact Gs (O.e _ _ hx) (sv O hl) (sv O hu)
 ·split at h
  ·rename_i hc;let⟨x,hx,h⟩:=bs h;let⟨y,hy,rfl⟩:=af h;exact J3 (O.e _ _ hx) (O.e _ _ hy) (js hc)
  ·cases h
def Kx(hg:LK op=some g)(hm:behindInMarks op b=false)(ha:DE X a x)(hb:DE X b y):DE X (.Compare a [op] [b] pos) (f2 g x y)/\DT X (.Compare a [op] [b] pos) (fB (f2 g x y)):=by
 cases op<;>cases hg
 ·exact⟨eS Dw dY ha hb hm,eH Dw dY ha hb hm⟩
 ·exact⟨eS CT dY ha hb hm,eH CT dY ha hb hm⟩
def tQ(O:bD X T){cs:List Expr}(h:yk T a ops cs=some f):DE X (.Compare a ops cs pos) f/\DT X (.Compare a ops cs pos) (fB f):=by
 unfold yk at h;split at h
 ·split at h
  ·rename_i hm;rw[zF,yL] at hm;let⟨g,hg,h⟩:=bs h;let⟨x,hx,h⟩:=bs h;let⟨y,hy,rfl⟩:=af h;exact Kx hg hm.2 (O.e _ _ hx) (O.e _ _ hy)
  ·cases h
 ·cases h
def DQ(C:Bk X N sc k)(g:Ln G X j)(O:bD X T)(h:CM G sc T e=some f):DE X e f:=by
 unfold CM at h;split at h
 ·split at h
  ·let⟨x,hx,h⟩:=bs h;let⟨y,hy,rfl⟩:=af h;exact pV vn B7 (O.e _ _ hx) (O.e _ _ hy)
  ·cases h
 ·split at h
  ·exact EN O h
  ·cases h
 ·exact BO C g O h
 ·exact DB O h
 ·exact (tQ O h).1
 ·cases h
def Ej(O:bD X T)(h:Cu T e=some f):DT X e f:=by
 unfold Cu at h;split at h
 ·let⟨x,hx,rfl⟩:=af h;exact (tQ O hx).2
 ·cases h
def CD(C:Bk X N sc k)(g:Ln G X j)(O:bD X T)(hM:∀f,yx G sc N T e=some f->DE X e f)(h:BZ G sc N T e=some f):DE X e f:=by
 unfold BZ at h;split at h
 ·cases h;exact DQ C g O ‹_›
 ·exact hM _ h
def Cg(O:bD X T)(hM:∀f,stepT T e=some f->DT X e f)(h:E5 T e=some f):DT X e f:=by
 unfold E5 at h;split at h
 ·cases h;exact Ej O ‹_›
 ·exact hM _ h
def tH(n:Nat):∀ {lam:Option Str}{X:Cx}{N:List Str}{sc:Scope}{k:Nat},Bk X N sc k->Ln G X j->j<=k->(∀q,lam=some q->Ib X q/\j+3<=k)->bD X (tr G n lam sc N):=by
 induction n with
 | zero=>intro lam X N sc k C g T7 T8;exact⟨λ_ _ _ _ _ h=>(by cases h),λ_ _ h=>(by cases h),λ_ _ h=>(by cases h),λ_ _ h=>(by cases h)⟩
 | succ n ih =>
  intro lam X N sc k C g T7 T8;have O:=ih C g T7 T8;exact⟨λelt gens scope p f h=>Gu (lam:=lam) (lmb:=tr G n none) (p:=p) C g.bn O (λscope N' fp s H C'=>ih C' ⟨g.fn,g.int,g.bn⟩ T7 λq z=>by cases z) h,λe f h=>CD C g O (λf h=>CS C g T7 O h) h,
   λe f h=>C2 (lam:=lam) (blk:=tr G n none) (lmb:=tr G n none) C g.bn T8 O (λscope N' fp s H C'=>ih C' ⟨g.fn,g.int,g.bn⟩ T7 λq z=>by cases z) (λscope N' qual A f c s H C' hk=>ih C' ⟨g.fn,g.int,g.bn⟩ hk λq z=>by cases z) h,
   λe f h=>Cg O (λf h=>Ec C O h) h⟩
end
def nz:Nat->Expr->List Str
 | 0,_=>[]
 | n+1,e=>match e with
  | .Name x _=>[x]
  | .UnaryOp _ a _=>nz n a
  | .BinOp a _ b _=>nz n a++nz n b
  | .BoolOp _ es _=>es.flatMap (nz n)
  | .Compare a _ cs _=>nz n a++cs.flatMap (nz n)
  | .IfExp c a b _=>nz n c++(nz n a++nz n b)
  | .Tuple es _ _=>es.flatMap (nz n)
  | .List es _=>es.flatMap (nz n)
  | .Subscript a b _=>nz n a++nz n b
  | .Slice lo hi st _=>(lo.toList++(hi.toList++st.toList)).flatMap (nz n)
  | .Call f args kws _=>nz n f++(args.flatMap (nz n)++kws.flatMap λk=>nz n k.value)
  | .Attribute o _ _=>nz n o
  | .ListComp elt gens _ _=>nz n elt++gens.flatMap λg=>nz n g.iter++g.ifs.flatMap (nz n)
  | .Lambda _ b _ _=>nz n b
  | _=>[]
def oW(N:List Str)(e:Expr):List Nat:=let ns:=nz 60 e;(List.range N.length).filter λj=>match N[j]? with|some x=>ns.contains x|none=>false
abbrev GS:=au->Option Out
def turns:Nat:=1000000
def wx:Expr->Bool
 | .ListComp ..=>true
 | .SetComp ..=>true
 | .DictComp ..=>true
 | _=>false
def Dv(sc:Scope)(N:List Str)(T:Tr)(x:Str)(px:Pos)(e:Expr):Option GS :=
 (N.idxOf? x).bind λi=>if jw N sc i x=true then
  (if yq e=true then (match e with
   | .ListComp _ _ scope lp =>
    if (decide (sc.names.lookup x=some .local)&&(px.line == lp.line&&!(scope.names.any λ(n,k)=>n == x&&(k == .local || k == .cell))))=true then (T.f e).map λf=>bf i (oW N e) f
    else if decide (sc.names.lookup x=some .cell)=true then (T.f e).map λf=>bf i (oW N e) f
    else if (px.line == lp.line)=false then (T.f e).map λf=>bf i (oW N e) f
    else none
   | _=>(T.f e).map λf=>bf i (oW N e) f)
  else if wx e=false then (T.e e).map λf=>aS i (oW N e) f else none) else none
def Dq(N:List Str)(sc:Scope)(T:Tr)(e:Expr):Option GS:=match e with
 | .Constant (.str _) _ _=>some hV
 | .Call (.Attribute (.Name x _) m apos) args [] Qq =>
  (N.idxOf? x).bind λi=>if (uY N sc i x&&apos.endLine == Qq.line&&args.all λe=>!isStar e)=true then
   (if m="append" then (match args with
    | [a]=>(T.e a).map λf=>j1 i (oW N a) f
    | _=>none)
   else if m="extend" then (match args with
    | [a]=>(T.f a).map λf=>oV i (oW N a) f
    | _=>none)
   else if m="insert" then (match args with
    | [a,b]=>(T.e a).bind λfk=>(T.e b).map λf=>L7 i (oW N b) fk f
    | _=>none)
   else none) else none
 | .Call (.Name _ _) _ _ _=>(T.e e).map u9
 | _=>none
def Ot(sc:Scope)(N:List Str)(tg:Expr):Option (au->D->Option au):=match tg with
 | .Name x _=>(N.idxOf? x).bind λi=>if jw N sc i x=true then some (uz i) else none
 | .Tuple [.Name x _,.Name y _] _ _=>(N.idxOf? x).bind λi=>(N.idxOf? y).bind λj=>if (jw N sc i x&&jw N sc j y)=true then some (AZ i j) else none
 | .Tuple [.Name x _,.Tuple [.Name y _,.Name z _,.Name w _] _ _] _ _=>(N.idxOf? x).bind λi=>(N.idxOf? y).bind λj=>(N.idxOf? z).bind λk=>(N.idxOf? w).bind λl=>if ((jw N sc i x&&jw N sc j y)&&(jw N sc k z&&jw N sc l w))=true then some (E3 i j k l) else none
 | _=>none
def C8(sc:Scope)(N:List Str)(T:Tr)(x:Str)(kx e:Expr):Option GS :=
 (N.idxOf? x).bind λi=>if (uY N sc i x&&!uI kx)=true then (T.e kx).bind λfk=>(T.e e).map λf=>M3 i (oW N e) fk f else none
def mK(f:Stmt->Option GS):List Stmt->Option GS
 | []=>some hV
 | [s]=>f s
 | s::r=>(f s).bind λg=>(mK f r).map λh=>aA g h
def Cj(x:Str):Expr->Option (Expr×Expr×Expr)
 | .List [a,b,c] _=>if x="_law_rows" then some (a,b,c) else none
 | _=>none
def wC{x:Str}{e:Expr}(h:Cj x e=some p):∃lp,e=.List [p.1,p.2.1,p.2.2] lp:=by
 unfold Cj at h;split at h
 ·split at h
  ·cases h;exact⟨_,rfl⟩
  ·cases h
 ·cases h
def wu(sc:Scope)(N:List Str)(T:Tr)(x:Str)(a b c:Expr):Option GS :=
 (N.idxOf? x).bind λi=>if (jw N sc i x&&!isStar a&&!isStar b&&!isStar c)=true then (T.f a).bind λf=>(T.f b).bind λg=>(T.f c).map λk=>qv i f g k else none
def vX(sc:Scope)(N:List Str)(T:Tr)(x m:Str)(apos Qq:Pos)(ka e:Expr):Option GS :=
 (N.idxOf? x).bind λi=>if (uY N sc i x&&!uI ka&&(m == ("append":Str)&&(apos.endLine == Qq.line&&!isStar e)))=true then (T.e ka).bind λfa=>(T.e e).map λf=>pF i fa f else none
def pO(sc:Scope)(N:List Str)(T:Tr):Nat->Stmt->Option GS
 | 0,_=>none
 | n+1,st=>match st with
  | .Return (some e) _=>(T.e e).map bh
  | .If c a b _=>(T.t c).bind λt=>(mK (pO sc N T n) a).bind λg=>(mK (pO sc N T n) b).map λh=>iW t g h
  | .Assign [.Name x px] e _=>(match Cj x e with
   | some p=>wu sc N T x p.1 p.2.1 p.2.2
   | none=>Dv sc N T x px e)
  | .Expr (.Call (.Attribute (.Subscript (.Name x _) ka _) m apos) [e] [] Qq) _=>vX sc N T x m apos Qq ka e
  | .Assign [.Subscript (.Name x _) kx _] e _=>C8 sc N T x kx e
  | .For tg iter body [] _=>(Mw sc T tg iter).bind λfi=>(Ot sc N tg).bind λt=>(mK (pO sc N T n) body).map λg=>mI (oW N iter) fi t g
  | .While c body [] _=>(T.t c).bind λt=>(mK (pO sc N T n) body).map λg=>LS t g turns
  | .Expr e _=>Dq N sc T e
  | .Raise ..=>some Jo
  | .Pass _=>some hV
  | _=>none
section
variable {X:Cx}{N:List Str}{sc:Scope}{k:Nat}{T:Tr}{Qm Qn:Hp}{pos:Pos}
def fj(H:∀s g,f s=some g->DS X Qm Qn s g):∀ {l:List Stmt}{g:GS},mK f l=some g->xk X Qm Qn l g
 | [],g,h=>by cases h;exact F6
 | [s],g,h=>Gy (H _ _ h)
 | s::t::r,g,h=>by
  unfold mK at h;let⟨x,hx,h⟩:=bs h;let⟨y,hy,rfl⟩:=af h;exact uy (H _ _ hx) (fj H hy)
def i3(h:wx e=false):swapsWith e (some (.Name x px)) line env=pure false:=by
 cases e<;>first|rfl|cases h
def De(C:Bk X N sc k)(O:bD X T)(h:Dv sc N T x px e=some g):DS X Qm Qn (.Assign [.Name x px] e pos) g:=by
 unfold Dv at h;let⟨i,hi,h⟩:=bs h;split at h
 ·rename_i RQ;let⟨z1,z2,z3,z4⟩:=C.loc RQ;split at h
  ·split at h
   ·rename_i elt gens scope lp hl;split at h
    ·rename_i hc;rw[zF] at hc;let⟨f,hf,rfl⟩:=af h;let⟨tg,iter,ifs,rfl,q⟩:=O.c _ _ _ _ _ hf;let⟨N',t,cs,fi,tgt,tt,te,rfl,S,hd,QK,hY⟩:=q.ex;exact Fo i _ C.calm S hd hY z1 z2 (C.VS hc.1) (C.swap hc.1 hc.2) QK
    ·split at h
     ·rename_i hc;let⟨f,hf,rfl⟩:=af h;exact si i _ z1 z2 z3 (O.f _ _ hf) (C.U0 hc) z4
     ·split at h
      ·rename_i hc;let⟨f,hf,rfl⟩:=af h;refine si i _ z1 z2 z3 (O.f _ _ hf) ?_ z4;rw[oH,hc];simp
      ·cases h
   ·rename_i hl hn;let⟨f,hf,rfl⟩:=af h;refine si i _ z1 z2 z3 (O.f _ _ hf) (i3 ?_) z4;cases e<;>first|rfl|exact absurd rfl (hn _ _ _ _)|(rename_i hl _;cases hl;done)
  ·split at h
   ·rename_i hc;let⟨f,hf,rfl⟩:=af h;exact JC i _ z1 z2 z3 (O.e _ _ hf) (i3 hc) z4
   ·cases h
 ·cases h
def vV(h:(es.all λe=>!isStar e)=true)(hl:es.length < 20):((backTo Qq (starEach es env)).all (λx=>!x.1)&&(backToKw Qq (keywordEach [] env)).all (λx=>x.1.isSome)&&decide (es.length+([]:List Keyword).length+(if ([]:List Keyword).isEmpty then 0 else 1) < 30))=true:=by
 have h1:(backTo Qq (starEach es env)).all (λx=>!x.1)=true:=by
  have:=eQ (pos:=Qq) (env:=env) h;rw[List.all_eq_not_any_not];simpa using this
 rw[h1];simp[backToKw,keywordEach];lia
def EI(C:Bk X N sc k)(O:bD X T)(h:Dq N sc T e=some g):DS X Qm Qn (.Expr e pos) g:=by
 unfold Dq at h;split at h
 ·cases h;exact Jp
 ·rename_i x px m apos args Qq;replace h:=bs h;let⟨i,hi,h⟩:=h;split at h
  ·rename_i hv;simp?[zF] at hv;let⟨⟨hv,Qv⟩,hs⟩:=hv;let⟨z1,z2,z3,z4⟩:=C.Wq hv;split at h
   ·rename_i hm;subst hm;split at h
    ·let⟨f,hf,rfl⟩:=af h;exact A7 i _ z1 z2 (O.e _ _ hf) z3 z4 (vV hs (by simp)) Qv (aO (by simpa using hs))
    ·cases h
   ·split at h
    ·rename_i hm;subst hm;split at h
     ·let⟨f,hf,rfl⟩:=af h;exact AU i _ z1 z2 (O.f _ _ hf) z3 z4 (vV hs (by simp)) Qv (aO (by simpa using hs))
     ·cases h
    ·split at h
     ·rename_i hm;subst hm;split at h
      ·let⟨fk,X4,h⟩:=bs h;let⟨f,hf,rfl⟩:=af h;have RO:=hs;simp?[xP,List.all_nil,Bool.and_true,zF,yL] at RO;exact Bj i _ z1 z2 (O.e _ _ X4) (O.e _ _ hf) z3 z4 (vV hs (by simp)) Qv (aO RO.1) (aO RO.2)
      ·cases h
     ·cases h
  ·cases h
 ·let⟨f,hf,rfl⟩:=af h;exact Fz rfl (O.e _ _ hf)
 ·cases h
def KE(C:Bk X N sc k)(h:Ot sc N tg=some t):MV X Qm Qn tg t:=by
 unfold Ot at h;split at h
 ·let⟨i,hi,h⟩:=bs h;split at h
  ·rename_i hl;cases h;have z:=C.loc hl;exact BX i z.1 z.2.1 z.2.2.1 z.2.2.2
  ·cases h
 ·let⟨i,hi,h⟩:=bs h;let⟨j,hj,h⟩:=bs h;split at h
  ·rename_i hl;rw[zF] at hl;cases h;have z:=C.loc hl.1;have w:=C.loc hl.2;exact He i j C.calm z.1 z.2.1 z.2.2.1 w.2.1 w.2.2.1 z.2.2.2 w.2.2.2
  ·cases h
 ·let⟨i,hi,h⟩:=bs h;let⟨j,hj,h⟩:=bs h;let⟨m,hm,h⟩:=bs h;let⟨l,hl,h⟩:=bs h;split at h
  ·rename_i hl;rw[zF,zF,zF] at hl;cases h;have z:=C.loc hl.1.1;have w:=C.loc hl.1.2;have y:=C.loc hl.2.1;have u:=C.loc hl.2.2;exact JL i j m l C.calm z.1 z.2.1 z.2.2.1 w.2.1 w.2.2.1 y.2.1 y.2.2.1 u.2.1 u.2.2.1 z.2.2.2 w.2.2.2 y.2.2.2 u.2.2.2
  ·cases h
 ·cases h
def BQ(C:Bk X N sc k)(O:bD X T)(h:C8 sc N T x kx e=some g):DS X Qm Qn (.Assign [.Subscript (.Name x px) kx Rp] e pos) g:=by
 unfold C8 at h;let⟨i,hi,h⟩:=bs h;split at h
 ·rename_i hv;simp?[zF,yL] at hv;let⟨hv,hc⟩:=hv;let⟨z1,z2,z3,z4⟩:=C.Wq hv;let⟨fk,X4,h⟩:=bs h;let⟨f,hf,rfl⟩:=af h;refine E4 i _ z1 z2 (O.e _ _ X4) (O.e _ _ hf) z3 z4 (λv=>?_) ?_ ?_ rfl
  ·cases kx<;>first|rfl|cases hc
  ·cases e<;>rfl
  ·rfl
 ·cases h
def Be(C:Bk X N sc k)(O:bD X T)(h:wu sc N T x a b c=some g):DS X Qm Qn (.Assign [.Name x px] (.List [a,b,c] lp) pos) g:=by
 unfold wu at h;let⟨i,hi,h⟩:=bs h;split at h
 ·rename_i hv;simp?[zF,yL] at hv;let⟨⟨⟨RQ,ha⟩,hb⟩,hc⟩:=hv;let⟨z1,z2,z3,z4⟩:=C.loc RQ;let⟨f,hf,h⟩:=bs h;let⟨g',hg,h⟩:=bs h;let⟨k',hk,rfl⟩:=af h;exact Ef i z1 z2 z3 (O.f _ _ hf) (O.f _ _ hg) (O.f _ _ hk) (aO ha) (aO hb) (aO hc) (i3 rfl) z4
 ·cases h
def AH(C:Bk X N sc k)(O:bD X T)(h:vX sc N T x m apos Qq ka e=some g):DS X Qm Qn (.Expr (.Call (.Attribute (.Subscript (.Name x px) ka p1) m apos) [e] [] Qq) pos) g:=by
 unfold vX at h;let⟨i,hi,h1⟩:=bs h;split at h1
 ·rename_i hv;simp?[zF,yL] at hv;let⟨⟨hv,ha⟩,hm,hl,hs⟩:=hv;obtain rfl:=eq_of_beq hm;let⟨z1,z2,z3,z4⟩:=C.Wq hv;let⟨fa,X5,h2⟩:=bs h1;let⟨f,hf,rfl⟩:=af h2;exact FL i z1 z2 (O.e _ _ X5) (O.e _ _ hf) z3 z4 (js ha) (dH rfl) (Bo hs) hl (aO hs)
 ·cases h1
def nK(C:Bk X N sc k)(B:Bn X)(O:bD X T):∀ (n:Nat) {st:Stmt}{g:GS},pO sc N T n st=some g->DS X Qm Qn st g
 | 0,st,g,h=>by cases h
 | n+1,st,g,h=>by
  have ih:=λs g h=>nK C B O n (st:=s) (g:=g) h;unfold pO at h;split at h
  ·let⟨f,hf,rfl⟩:=af h;exact K0 (O.e _ _ hf)
  ·let⟨t,ht,h⟩:=bs h;let⟨a,ha,h⟩:=bs h;let⟨b,hb,rfl⟩:=af h;exact MO (O.t _ _ ht) (fj ih ha) (fj ih hb)
  ·split at h
   ·rename_i p hp;let⟨lp,rfl⟩:=wC hp;exact Be C O h
   ·exact De C O h
  ·exact AH C O h
  ·exact BQ C O h
  ·let⟨fi,Rt,h⟩:=bs h;let⟨t,ht,h⟩:=bs h;let⟨b,hb,rfl⟩:=af h;let⟨hd,QK⟩:=vU C B O Rt;exact Ka _ C.pass C.calm hd (KE C ht) (fj ih hb) QK
  ·let⟨t,ht,h⟩:=bs h;let⟨b,hb,rfl⟩:=af h;exact Dj _ C.pass (O.t _ _ ht) (fj ih hb)
  ·exact EI C O h
  ·cases h;exact Mc
  ·cases h;exact Gh
  ·cases h
end
section
variable {K:W.Frag}
def j8(P:Program)(w:World)(K:W.Frag)(mg:Str->Option Value)(base:Heap)(j:Nat)(l:List (Str×Nat×(List D->Option D))):Prop:=∀x n m,l.lookup x=some (n,m)->ES P w K mg base j x n m
def dD(mg:Str->Option Value)(l:List (Str×D)):Prop:=∀x i,l.lookup x=some i->ON mg x i
def N6:j8 P w K mg base j []:=λ_ _ _ h=>by cases h
def MT(F:ES P w K mg base j x n m)(h:j8 P w K mg base j l):j8 P w K mg base j ((x,n,m)::l):=λy n' m' e=>by
 rw[zY] at e;cases q:y == x with
 | true=>rw[q] at e;cases e;rw[eq_of_beq q];exact F
 | false=>rw[q] at e;exact h y n' m' e
def Oy:dD mg []:=λ_ _ h=>by cases h
def Do{d:D}(F:ON mg x d)(h:dD mg l):dD mg ((x,d)::l):=λy i' e=>by
 rw[zY] at e;cases q:y == x with
 | true=>rw[q] at e;cases e;rw[eq_of_beq q];exact F
 | false=>rw[q] at e;exact h y i' e
def HY(F:∃t,mg x=some (.int i t))(h:dD mg l):dD mg ((x,.int i)::l):=Do (d:=.int i) F h
def JP(F:∃t,mg x=some (.str i t))(h:dD mg l):dD mg ((x,.str i)::l):=Do (d:=.str i) F h
def HX{st:Stmt}(C:Bk X N (aj st) j)(B:Bn X)(hf:j8 X.prog X.w X.K X.mg X.base j fs)(hi:dD X.mg is)
  (t:mK (pO (aj st) N (tr ⟨fs,is⟩ 40 none (aj st) N) 40) (bo st)=some g):xk X Qm Qn (bo st) g :=
 fj (λs g h=>nK C B (tH (G:=⟨fs,is⟩) 40 C ⟨hf,hi,B⟩ (yI j) λq z=>by cases z) 40 h) t
def P3{st:Stmt}(D:AD K mg x st ps)(S:cO N ps (aj st))(B:∀x∈cU,mg x=none)(hf:j8 P w K mg base j fs)(hi:dD mg is)
  (t:mK (pO (aj st) N (tr ⟨fs,is⟩ 40 none (aj st) N) 40) (bo st)=some g):ES P w K mg base (j+1) x ps.length (bN g N.length):=by
 let⟨f,fd,hm,F,hb⟩:=D.ex;exact P4 F S hb hm λX hP hw hK RE RN C _ _ HF H=>by subst hP;subst hw;subst hK;subst RE;subst RN;exact HX C B hf hi t
end
abbrev tW(s:Stmt)(N:List Str)(S:Sg)(l:Option Str):Option GS:=mK (pO (aj s) N (tr S 40 l (aj s) N) 40) (bo s)
def O0(a:sc.kind=.function:=by rfl)(b:sc.isCoroutine=false:=by rfl)(c:sc.isGenerator=false:=by rfl)(d:N.Nodup:=by decide +kernel)(e:N.take P.length=P:=by rfl)(f:∀x∈P,sc.names.lookup x=some .local \/ sc.names.lookup x=some .cell:=by decide +kernel)(g:∀y∈sc.names,y.2≠.free:=by decide +kernel):cO N P sc:=⟨a,b,c,d,e,f,g⟩
section
variable {K:W.Frag}
end
end Rf
namespace Ex
open PySem L2 PySem.Spec PyProof.Rows
def pC(x:dI P w H h a o):∃ob,h.get? a=some ob:=by
 cases o with
 | lst xs=>let⟨_,_,_,_,e⟩:=x;exact⟨_,e⟩
 | tup xs=>let⟨_,_,_,⟨_,e,_⟩,_⟩:=x;exact⟨_,e⟩
 | dK Rw=>let⟨_,_,_,_,o,_,_,e,_⟩:=x;exact⟨_,e⟩
 | dT Rw=>let⟨_,_,_,_,o,_,_,e,_⟩:=x;exact⟨_,e⟩
 | set S n=>let⟨o,_,_,_,e,_⟩:=x;exact⟨_,e⟩
 | ins C dx fs=>let⟨_,_,_,e,_⟩:=x;exact⟨_,e⟩
 | own y=>let⟨_,e⟩:=x;exact⟨_,e⟩
 | xd fs=>let⟨_,⟨_,_,_,e,_⟩,_⟩:=x;exact⟨_,e⟩
 | Wg lo hi=>let⟨_,_,_,e⟩:=x;exact⟨_,e⟩
 | QY ob u=>let⟨e,_⟩:=x;exact⟨_,e⟩
 | tab q=>let⟨_,e,_⟩:=x;exact⟨_,e⟩
 | Uw q=>let⟨_,_,_,_,e0,e,_⟩:=x;cases e0;exact⟨_,e⟩
 | met f y=>exact⟨_,(show h.get? a=some _ from x)⟩
 | ext φ=>let⟨_,⟨_,e⟩,_⟩:=x;exact⟨_,e⟩
structure A4(P:Program)(w:World)(l:List Env)(H:Hp)(s:Shared)(cls:Value)(ea:Addr)(H':Hp)(s':Shared):Prop where
 os:s'.os=s.os
 bare:AllBare s'.gens
 un:Un (dZ l) [] H H' s.heap s'.heap
 Qt:lW P w H' s'.heap
 Vo:∃B a0,Heap.FlyingW B l ea cls a0 s'.heap/\∀b,b∉dZ l->(H' b≠none\/∃o,s.heap.get? b=some o)->∃o,B.get? b=some o
def oQ(P:Program)(w:World):Fx:=λl H s E e s'=>∃ea cls H',e=.ref ea/\A4 P w l H s cls ea H' s'/\E cls none H'
section
variable {X:Cx}{pins:List (Addr×Obj)}{σ:L2.St}{H H':Hp}{s s':Shared}{cls:Value}{ea:Addr}
def qp(I:Inv X pins σ H s)(hs:X.stack=X.env::X.outer)(hf:X.env.frame=some X.env.locals)(hex:X.ex=[])(Sf:s'.os=s.os)(hbr:AllBare s'.gens)(RR:Un (dZ X.stack) [] H H' s.heap s'.heap)(Qt:lW X.prog X.w H' s'.heap)
  (RB:B.StaysIn s'.heap) (X6:s'.heap.FunFrames B X.stack) (hB:∀b,b∉dZ X.stack->(H' b≠none\/∃o,X.Qz.heap.get? b=some o)->∃o,B.get? b=some o) (x1:Heap.FlyingW B X.outer ea cls a0 h')
  (x2:∀b∈dZ X.outer,∀o,s'.heap.get? b=some o->(∀vs,o.data≠.fields vs)->∃sl,h'.get? b=some { o with slots:=sl }) :
  A4 X.prog X.w X.outer X.Qn X.Qz cls ea H' { s' with heap:=h' }:=by
 have nx:∀b:Addr,b∉X.ex:=λb=>by rw[hex];simp
 have fs:dZ X.stack=X.env.locals::dZ X.outer:=by rw[hs];unfold dZ;rw[jB,hf]
 have TB:∀b o,X.Qz.heap.get? b=some o->b≠X.env.locals:=λb o e=>yN (zP (zV e) I.ok.above);have out:∀b o,X.Qz.heap.get? b=some o->b∉dZ X.outer->b∉dZ X.stack:=λb o e hb z=>by
  rw[fs] at z;rcases List.mem_cons.mp z with z|z
  ·exact TB b o e z
  ·exact hb z
 have Sa:∀b∈dZ X.stack,H' b=none:=λb hb=>by
  let⟨_,o,ho,_⟩:=I.stack.mem hb;exact RR.free b o ho (I.Rh b hb) (by simp)
 have Fb:∀b u,H' b≠none->s'.heap.get? b=some u->h'.get? b=some u:=λb u hn e=>by
  let⟨o,eo⟩:=hB b (λz=>hn (Sa b z)) (.inl hn);have:=RB b o eo;rw[e] at this;cases this;exact x1.1 b u eo
 have old:∀b o o2,b∉dZ X.stack->X.Qz.heap.get? b=some o->s'.heap.get? b=some o2->h'.get? b=some o2:=λb o o2 hb e e2=>by
  let⟨o3,eo⟩:=hB b hb (.inr ⟨o,e⟩);have:=RB b o3 eo;rw[e2] at this;cases this;exact x1.1 b o2 eo
 have Zc:∀b,b∈dZ X.outer->b∈dZ X.stack:=λb hb=>by rw[fs];exact zC _ hb
 have RS:∀b∈dZ X.outer,∀o,s'.heap.get? b=some o->∃sl,h'.get? b=some { o with slots:=sl }:=λb hb o e=>by
  let⟨_,o2,e2,d2⟩:=X6.mem (Zc b hb);rw[e] at e2;cases e2;exact x2 b hb o e d2
 refine⟨Sf.trans I.os,hbr,⟨λb o e n hb _=>?_,λb o e n hb _=>?_,λb o e n _=>?_,λb o e _=>?_,λb xs e=>RR.Ra b xs (I.base.Ra b xs e),λb o u e=>RR.Q1 b o u (I.base.Q1 b o u e),?_⟩,λa o e=>?_,B,a0,x1,λb hb hh=>?_⟩
 ·have e1:=I.base.keep b o e n hb (nx b);have n1:=I.base.free b o e n (nx b);have RN:=out b o e hb;exact old b o o RN e (RR.keep b o e1 n1 RN (by simp))
 ·let⟨sl,e1⟩:=I.base.slot b o e n hb (nx b);have n1:=I.base.free b o e n (nx b);let⟨Tq,e2⟩:=RR.slot b _ e1 n1 (Zc b hb) (by simp);let⟨X7,e3⟩:=RS b hb _ e2;exact⟨X7,e3⟩
 ·let⟨o1,e1⟩:=I.base.there b o e (nx b);exact RR.free b o1 e1 (I.base.free b o e n (nx b)) (by simp)
 ·let⟨o1,e1⟩:=I.base.there b o e (nx b);let⟨o2,e2⟩:=RR.there b o1 e1 (by simp);by_cases hb:b∈dZ X.outer
  ·let⟨sl,e3⟩:=RS b hb o2 e2;exact⟨_,e3⟩
  ·exact⟨o2,old b o o2 (out b o e hb) e e2⟩
 ·exact I.base.Q2.trans (RR.Q2.trans (.kept (λb u ⟨q,z⟩ e=>Fb b u (by rw[z];simp) e) λ_ _ e _=>e))
 ·refine (Qt a o e).QL (λb u hb q=>Fb b u ?_ q) (λ_ q=>q) λ_ _ q _=>q;rcases hb with rfl|z
  ·rw[e];simp
  ·rw[z];simp
 ·refine hB b (λz=>?_) hh;rw[fs] at z;rcases List.mem_cons.mp z with z|z
  ·subst z;rcases hh with hn|⟨o,e⟩
   ·exact hn (Sa _ (by rw[fs];exact zE))
   ·exact TB _ o e rfl
  ·exact hb z
def Nd(hs:X.stack=X.env::X.outer)(hf:X.env.frame=some X.env.locals)(hex:X.ex=[])
  (R9:∀e s',wpAny (model X.prog X.w) X.A (leaving X.env e) (λ_ SQ=>oQ X.prog X.w X.outer X.Qn X.Qz E' e SQ) (λ_ _=>False) s'->X.xe e s') (hE:∀cls H',E cls none H'->E' cls none H'):cA (oQ X.prog X.w) X E:=by
 intro pins σ H s e s' I h;let⟨ea,cls,H',rfl,F,hc⟩:=h;let⟨B,a0,QV,hB⟩:=F.Vo;refine R9 _ _ ?_;refine wpAny_leaves_onW (base:=B) (a0:=a0) (cls:=cls) (by rw[I.ok.frames,hs]) hf (by rw[<- hs];exact QV) λh' x1 x2=>⟨ea,cls,H',rfl,qp I hs hf hex F.os F.bare F.un F.Qt QV.1 QV.2.2.1 (λb hb hh=>hB b hb (hh.imp id λ⟨o,e⟩=>I.base.there b o e (by rw[hex];simp))) x1 (λb _ o e d=>x2 b o e d),hE _ _ hc⟩
def vc(I:Inv X pins σ H s)(hs:X.stack=X.env::X.outer)(hf:X.env.frame=some X.env.locals)(hex:X.ex=[])
  (R9:∀e s',wpAny (model X.prog X.w) X.A (leaving X.env e) (λ_ SQ=>oQ X.prog X.w X.outer X.Qn X.Qz E' e SQ) (λ_ _=>False) s'->X.xe e s') (hm:Heap.MadeExcOf s.heap s'.heap ea cls args) (ho:s'.os=s.os) (hg:AllBare s'.gens) (hE:E' cls none H):X.xe (.ref ea) s':=by
 have fs:dZ X.stack=X.env.locals::dZ X.outer:=by rw[hs];unfold dZ;rw[jB,hf]
 have V2:=I.stack;refine R9 _ _ ?_;have So:∀env∈X.stack,∀b,env.frame=some b->b∈dZ X.stack:=λenv he b hb=>List.mem_filterMap.mpr ⟨env,he,hb⟩;refine wpAny_leaves_madeW (base:=W.hideAll s.heap (dZ X.stack)) (h:=s.heap) (cls:=cls) (args:=args) (by rw[I.ok.frames,hs]) hf (λb o q=>W.of_hideAll _ q) (by rw[<- hs];exact W.funFrames_hide V2 So) hm λh' t x1 x2 x3 x4=>⟨ea,cls,H,rfl,?_,hE⟩
 refine qp I hs hf hex ho hg (Un.kept hm.keeps) (I.Qt.kept hm.keeps) (λb o q=>hm.keeps b o (W.of_hideAll _ q)) ((W.funFrames_hide V2 So).of_keeps λb o q _=>⟨o,hm.keeps b o q,rfl⟩) (λb hb hh=>?_) x1 (λb _ o e d=>x4 b o e d);have ⟨o,e⟩:∃o,s.heap.get? b=some o:=by
  rcases hh with hn|h
  ·let⟨u,hu⟩:=Option.ne_none_iff_exists'.mp hn;exact pC (I.Qt b u hu)
  ·let⟨o,e⟩:=h;exact I.base.there b o e (by rw[hex];simp)
 exact⟨o,W.hideAll_get _ e hb⟩
end
abbrev Ja:List Value:=[.type "ValueError",.type "Exception",.type "BaseException",.type "object"]
def Hi{K:W.Frag}(X:K.In h)(q:W.excIn K C Ja "ValueError.__new__"=true) :
  ∃bm N nm qn bs hd sn sub ab col dd k0 k1 k2 k3 k5 mN,h.get? C=some (excClassObj nm qn C N bs bm hd sn sub ab col dd k0 k1 k2 k3 k5 "ValueError.__new__")/\h.Ns N mN/\mN "__init__"=none/\OwnTail h Ja bm:=by
 unfold W.excIn at q;split at q
 ·rename_i dd cd sl ho;split at q
  ·rename_i C' bm k0 k1 k2 k3 n k5 hm Tv;simp?[zF,kP,yL] at q;obtain⟨⟨⟨⟨⟨rfl,rfl⟩,V3⟩,ht⟩,Qt⟩,WA⟩:=q;cases cd with
   | mk nm bs mro ns qn hd sn sub ab col del =>
    simp only at hm V3 Qt WA;subst hm V3;cases sl with
    | mk l =>
     simp only at Tv;subst Tv;exact⟨bm,ns,nm,qn,bs,hd,sn,sub,ab,col,dd,k0,k1,k2,k3,k5,_,X _ _ ho,.of_isNs (W.isNs_of_in X Qt),W.nsMap_none_of_in X Qt WA,W.tail_of_in X ht⟩
  ·cases q
 ·cases q
def Cn(I:Inv X pins σ H s)(hc:X.calm=true)(hg:Gl X x)(hm:X.mg x=some (.ref C))(q:W.excIn X.K C Ja "ValueError.__new__"=true)
  (hs:X.stack=X.env::X.outer) (hf:X.env.frame=some X.env.locals) (hex:X.ex=[])
  (R9:∀e s',wpAny (model X.prog X.w) X.A (leaving X.env e) (λ_ SQ=>oQ X.prog X.w X.outer X.Qn X.Qz E' e SQ) (λ_ _=>False) s'->X.xe e s') (hE:E' (.ref C) none H) (QR:(x == ("__debug__":Str))=false) :
  wpAny (model X.prog X.w) X.A (exec (.Raise (some (.Call (.Name x np) [.Constant (.str t) i p] [] Qq)) none pos) X.env) Q X.xe s:=by
 let⟨bm,N,nm,qn,bs,hd,sn,sub,ab,col,dd,k0,k1,k2,k3,k5,mN,hC,hN,WA,T⟩:=Hi I.RW q;refine wpAny_Raise_call_subT (C:=C) (nm:=nm) (q:=qn) (N:=N) (bs:=bs) (bm:=bm) (hdct:=hd) (sn:=sn) (sub:=sub) (ab:=ab) (col:=col) (dd:=dd) (k0:=k0) (k1:=k1) (k2:=k2) (k3:=k3) (k5:=k5)
  F.excBase_ValueError (mN:=mN) (T.hasType F.excBase_ValueError.hasBase) (I.ok.hd hc) rfl WA (lA I hg hm ⟨rfl,?_⟩ QR)
 refine Calls.evalArgs_plain (jD (vL (k:=i) (pos:=p) (jU ⟨rfl,?_,hC,hN,T,λh' e hme=>?_⟩)))
 ·exact yA (show 1<=4000 by lia) (by decide)
 ·exact vc (s:={ s with toks:=s.toks+1 }) (I.tok _) hs hf hex R9 hme rfl I.bare hE
open PySem L2 Dl PySem.Spec PyProof.Rows
def PB(K:W.Frag)(mg:Str->Option Value)(n:Nat)(xm:List D->Option Str):Sp:=λvs H _ E=>∃HF ds c C,aM HF H/\dz K HF/\ar K HF ds vs/\ds.length=n/\xm ds=some c/\mg c=some (.ref C)/\∀H' Qp,bV HF H Qp H'->E (.ref C) none H'
structure GZ(P:Program)(w:World)(K:W.Frag)(mg:Str->Option Value)(base:Heap)(k:Nat)(x:Str)(n:Nat)(xm:List D->Option Str):Prop where
 ex:∃ (f:Addr) (fd:FuncData) (ps:List Str),mH P w K mg base (oQ P w) k f fd ps (PB K mg n xm)/\mg x=some (.ref f)/\W.keepIn K (.ref f)=true/\Binds K fd ps []
def GZ.mono{K:W.Frag}{xm:List D->Option Str}(F:GZ P w K mg base k x n xm)(h:k<=j):GZ P w K mg base j x n xm:=by
 let⟨f,fd,ps,a,b,c,d⟩:=F.ex;exact⟨f,fd,ps,a.mono h,b,c,d⟩
structure Xk(X:Cx)(E:XK):Prop where
 hs:X.stack=X.env::X.outer
 hf:X.env.frame=some X.env.locals
 hex:X.ex=[]
 R9:∀e s',wpAny (model X.prog X.w) X.A (leaving X.env e) (λ_ SQ=>oQ X.prog X.w X.outer X.Qn X.Qz E e SQ) (λ_ _=>False) s'->X.xe e s'
def Xk.pass(hx:Xk X E):cA (oQ X.prog X.w) X E:=Nd hx.hs hx.hf hx.hex hx.R9 λ_ _ h=>h
def Li(K:W.Frag)(mg:Str->Option Value)(E:XK)(xf:Dl.Env->Option Str):TE:=λσ H _=>∃HF ρ c C,aM HF H/\cK K HF ρ σ/\xf ρ=some c/\mg c=some (.ref C)/\∀H' Qp,bV HF H Qp H'->E (.ref C) none H'
def lQ(X:Cx)(E:XK)(e:Expr)(xf:Dl.Env->Option Str):Prop:=PE X e (Li X.K X.mg E xf)
def tX(K:W.Frag)(mg:Str->Option Value)(Qm Qn:Hp)(E:XK)(xg:au->Option Str):TS:=λ_ σ H=>∃HF ρ c C,eK K Qm Qn HF H ρ σ/\xg ρ=some c/\mg c=some (.ref C)/\∀H' Qp,bV Qm Qn Qp H'->E (.ref C) none H'
def DX(X:Cx)(E:XK)(Qm Qn:Hp)(st:Stmt)(xg:au->Option Str):Prop:=PS X st (tX X.K X.mg Qm Qn E xg)
def Bz(X:Cx)(E:XK)(Qm Qn:Hp)(st:List Stmt)(xg:au->Option Str):Prop:=uE X st (tX X.K X.mg Qm Qn E xg)
def Jm(h:PA X.QF es t):PA X es t:=λpos pins s σ H Q I hw =>
 yW (h pos pins s σ H Q (I.Qx _) hw) (λ_ _ ⟨v,H',I',r,q⟩=>⟨v,H',I'.Qw,r,q⟩) λ_ _ z=>False.elim z
def Lf{st:Stmt}(h:PS X.QF st t):PS X st t:=λpins s σ H D I hw =>
 yW (h pins s σ H D (I.Qx _) hw) (λ_ _ q=>q.Qw) λ_ _ z=>False.elim z
def m8(n:Nat)(xm:List D->Option Str)(fs:Dl.Env->Option (List D)):Dl.Env->Option Str:=λρ=>(fs ρ).bind λds=>if ds.length=n then xm ds else none
def FI{xm:List D->Option Str}{p pos:Pos}(F:GZ X.prog X.w X.K X.mg X.base k x n xm)(hr:gK k X.A)(hx:cA (oQ X.prog X.w) X E)(hg:Gl X x)(ha:DA X.QF (e::es) fs)(QR:(x == ("__debug__":Str))=false:=by decide)
  (he:starEach (e::es) X.env=(false,eval e X.env)::starEach es X.env:=by rfl) (Rb:(backTo pos (starEach es X.env)).any (·.1)=false:=by rfl):lQ X E (.Call (.Name x p) (e::es) [] pos) (m8 n xm fs):=by
 let⟨f,fd,ps,ok,hm,hk,hb⟩:=F.ex;refine aB (yl (E:=E) ok hr hg hm hk hb .nil hx (Jm ha) QR he Rb) λσ H Q ⟨HF,ρ,c,C,sm,eo,hf,hc,q⟩=>?_;let⟨ds,Sh,hf⟩:=bs hf;split at hf
 ·rename_i hl;exact⟨HF,ρ,ds,sm,eo,Sh,λvs H1 Qr g1 r1=>⟨Qr,ds,c,C,g1.fh,eo.tb.mono g1.ff,by rw[qC];exact r1,hl,hf,hc,λH' Qp g=>q H' Qp (g1.trans g)⟩⟩
 ·cases hf
def Na(t:Dl.Env->Option Bool)(xa xb:Dl.Env->Option Str):Dl.Env->Option Str:=λρ=>(t ρ).bind λb=>if b=true then xa ρ else xb ρ
def Mi(hc:DT X.QF c t)(ha:lQ X E a xa)(hb:lQ X E b xb):lQ X E (.IfExp c a b pos) (Na t xa xb) :=
 aB (tU (PT.QF hc) ha hb) λσ H Q ⟨HF,ρ,c,C,sm,eo,hf,hc,q⟩=>by
  let⟨b,h,hf⟩:=bs hf;refine⟨HF,ρ,b,sm,eo,h,λH' Qp G=>?_⟩;cases b with
  | true=>exact k8 ⟨Qp,ρ,c,C,G.fh,eo.mono G.ff,hf,hc,λH2 QC G2=>q H2 QC (G.trans G2)⟩
  | false=>exact nJ ⟨Qp,ρ,c,C,G.fh,eo.mono G.ff,hf,hc,λH2 QC G2=>q H2 QC (G.trans G2)⟩
def D7{K:W.Frag}{D:Ends}(h:tX K mg Qm Qn E (λρ=>xf (aL ρ)) D σ H):Li K mg E xf σ H Q:=by
 let⟨HF,ρ,c,C,S,hx,hc,q⟩:=h;exact⟨H,aL ρ,c,C,.refl _,S.all,hx,hc,λH' Qp G=>q H' HF (S.step G.hh).gr⟩
def JO(h:lQ X E e xf)(hs:swapsWith e none pos.line X.env=pure false:=by rfl):DX X E Qm Qn (.Expr e pos) (λρ=>xf (aL ρ)):=bW (iT h hs) λD σ H q=>D7 q
def JI(h:lQ X E e xf):DX X E Qm Qn (.Return (some e) pos) (λρ=>xf (aL ρ)):=bW (vg h) λD σ H q=>D7 q
def nE{st:Stmt}{rest:List Stmt}(h:DX X E Qm Qn st xg):Bz X E Qm Qn (st::rest) xg:=λpins s σ H D I q=>by
 refine wpAny_execs_cons (bg (h pins s σ H ⟨λ_ _=>False,λ_ _=>False,λ_ _=>False,λ_ _=>False⟩ I q) λf s1 z=>?_);cases f with
 | next=>let⟨_,_,_,z⟩:=z;exact z.elim
 | brk=>let⟨_,_,_,z⟩:=z;exact z.elim
 | cont=>let⟨_,_,_,z⟩:=z;exact z.elim
 | ret u=>let⟨_,_,_,_,_,z⟩:=z;exact z.elim
def rF(g:au->Option Out)(xg:au->Option Str):au->Option Str:=λρ=>(g ρ).bind λo=>match o with|.nx ρ'=>xg ρ'|.rt _=>none
def uc{st:Stmt}{rest:List Stmt}(h:DS X.QF Qm Qn st g)(hr:Bz X E Qm Qn rest xg):Bz X E Qm Qn (st::rest) (rF g xg) :=
 rW (ib (Lf h) hr) λD σ H ⟨HF,ρ,c,C,S,hx,hc,q⟩=>by
  let⟨o,ho,hx⟩:=bs hx;cases o with
  | rt d=>cases hx
  | nx ρ'=>exact⟨HF,ρ,.nx ρ',S,ho,λσ' H' Qp S' _=>⟨Qp,ρ',c,C,S',hx,hc,q⟩⟩
def Fc(t:Dl.Env->Option Bool)(xa xb:au->Option Str):au->Option Str:=λρ=>(t (aL ρ)).bind λb=>if b=true then xa ρ else xb ρ
def MB(hc:DT X.QF c t)(ha:Bz X E Qm Qn a xa)(hb:Bz X E Qm Qn b xb):DX X E Qm Qn (.If c a b pos) (Fc t xa xb) :=
 bW (EJ (PT.QF hc) ha hb) λD σ H ⟨HF,ρ,c,C,S,hx,hc,q⟩=>by
  let⟨b,h,hx⟩:=bs hx;refine⟨H,aL ρ,b,.refl _,S.all,h,λH' Qp G=>?_⟩;cases b with
  | true=>exact k8 ⟨HF,ρ,c,C,S.step G.hh,hx,hc,q⟩
  | false=>exact nJ ⟨HF,ρ,c,C,S.step G.hh,hx,hc,q⟩
def CC(hk:Xk X E)(hc:X.calm=true)(hg:Gl X x)(hm:X.mg x=some (.ref C))(q:W.excIn X.K C Ja "ValueError.__new__"=true)(QR:(x == ("__debug__":Str))=false:=by decide) :
  DX X E Qm Qn (.Raise (some (.Call (.Name x np) [.Constant (.str t) i p] [] Qq)) none pos) (λ_=>some x):=λpins s σ H D I ⟨HF,ρ,c,C',S,hx,Ri,z⟩=>by
 cases hx;rw[hm] at Ri;cases Ri;exact Cn I hc hg hm q hk.hs hk.hf hk.hex hk.R9 (z H HF S.gr) QR
def mP(xg:au->Option Str)(n:Nat)(args:List D):Option Str:=xg (args.map Slot.val++List.replicate (n - args.length) .Qo)
def tN{K:W.Frag}(sm:aM HF H)(tb:dz K HF)(rr:ar K HF ds vs):eK K HF H HF H (ds.map Slot.val++List.replicate (N.length - ds.length) .Qo) (L2.start N vs):=by
 refine⟨.refl sm,λi e h=>?_,λi es h=>?_,λi j es fs a h=>?_,?_,tb,λi ks h=>absurd h mW,λi j ks ls h=>absurd h mW⟩
 ·have hi:i < ds.length:=by
   by_cases hi:i < ds.length
   ·exact hi
   ·rw[yP (by simpa using hi),yT] at h;split at h<;>cases h
  rw[yO (by simpa using hi),zO] at h;let⟨d',SH,h⟩:=af h;cases h;let⟨v,hv,rv⟩:=rr.getD SH;refine⟨v,?_,rv⟩;unfold L2.start;rw[yO (by simpa [rr.length] using hi),zO,hv];rfl
 ·exfalso;by_cases hi:i < ds.length
  ·rw[yO (by simpa using hi),zO] at h;let⟨d',SH,h⟩:=af h;cases h
  ·rw[yP (by simpa using hi),yT] at h;split at h<;>cases h
 ·exfalso;by_cases hi:i < ds.length
  ·rw[yO (by simpa using hi),zO] at h;let⟨d',SH,h⟩:=af h;cases h
  ·rw[yP (by simpa using hi),yT] at h;split at h<;>cases h
 ·unfold L2.start;rw[zN,zN,zD,zD,xH,xH,rr.length];exact yI _
def fnX{K:W.Frag}{st:Stmt}(F:E8 K x qual st f fd)(S:cO N ps (aj st))(hb:Binds K fd ps [])(hm:mg x=some (.ref f))
  (body:∀ (X:Cx) (E:XK),X.prog=P->X.w=w->X.K=K->X.mg=mg->X.base=base->Bk X.QF N (aj st) k->X.calm=true->Xk X E->∀Qm Qn,Bz X E Qm Qn (bo st) xg):GZ P w K mg base (k+1) x ps.length (mP xg N.length):=by
 refine⟨f,fd,ps,?_,hm,F.kp,hb⟩;let⟨oc,od,kV,doc,pm,an,QU,ct,SR,rfl,lk,Q8⟩:=F.ex;refine BS lk Q8 S (λvs H Q E ⟨HF,ds,c,C,h1,_,h2,h3,_⟩=>by rw[h2.length,h3]) λA outer s H vs Q E hr ⟨HF,ds,c,C,sm,tb,rr,hl,hd,hc,q⟩=>?_;refine⟨_,body (rH (oQ P w) P w K mg base N qual (aj st) f QU A outer s H E) E rfl rfl rfl rfl rfl ⟨rfl,S.nd,λy kd hy=>.inl hy,rfl,λ_ _=>rfl,hr,rfl,S.kind⟩ rfl ⟨rfl,rfl,rfl,λe s' z=>yW z (λ_ _ h=>h) λ_ _ h=>h.elim⟩ HF H,?_⟩;exact⟨HF,_,c,C,tN sm tb rr,hd,hc,q⟩
section
variable {X:Cx}{pins:List (Addr×Obj)}{σ:L2.St}{H H':Hp}{s s':Shared}{cls:Value}{ea:Addr}
def Es(I:Inv X pins σ H s)(RR:Un (dZ X.stack) [] H H' s.heap s'.heap)(Qt:lW X.prog X.w H' s'.heap)
  (RB:B.StaysIn s'.heap) (X6:s'.heap.FunFrames B X.stack) (hB:∀b,b∉dZ X.stack->(H' b≠none\/∃o,s.heap.get? b=some o)->∃o,B.get? b=some o) (x1:B.StaysIn h') (x2:s'.heap.UpToSlots h') :
  Un (dZ X.stack) [] H H' s.heap h'/\lW X.prog X.w H' h':=by
 have Sa:∀b∈dZ X.stack,H' b=none:=λb hb=>by
  let⟨_,o,ho,_⟩:=I.stack.mem hb;exact RR.free b o ho (I.Rh b hb) (by simp)
 have Fb:∀b u,H' b≠none->s'.heap.get? b=some u->h'.get? b=some u:=λb u hn e=>by
  let⟨o,eo⟩:=hB b (λz=>hn (Sa b z)) (.inl hn);have:=RB b o eo;rw[e] at this;cases this;exact x1 b u eo
 have old:∀b o o2,b∉dZ X.stack->s.heap.get? b=some o->s'.heap.get? b=some o2->h'.get? b=some o2:=λb o o2 hb e e2=>by
  let⟨o3,eo⟩:=hB b hb (.inr ⟨o,e⟩);have:=RB b o3 eo;rw[e2] at this;cases this;exact x1 b o2 eo
 have RS:∀b∈dZ X.stack,∀o,s'.heap.get? b=some o->∃sl,h'.get? b=some { o with slots:=sl }:=λb hb o e=>by
  let⟨_,o2,e2,d2⟩:=X6.mem hb;rw[e] at e2;cases e2;exact x2 b o e d2
 refine⟨⟨λb o e n hb _=>?_,λb o e n hb _=>?_,λb o e n _=>RR.free b o e n (by simp),λb o e _=>?_,RR.Ra,RR.Q1,?_⟩,λa o e=>?_⟩
 ·exact old b o o hb e (RR.keep b o e n hb (by simp))
 ·let⟨Tq,e2⟩:=RR.slot b o e n hb (by simp);let⟨X7,e3⟩:=RS b hb _ e2;exact⟨X7,e3⟩
 ·let⟨o2,e2⟩:=RR.there b o e (by simp);by_cases hb:b∈dZ X.stack
  ·let⟨sl,e3⟩:=RS b hb o2 e2;exact⟨_,e3⟩
  ·exact⟨o2,old b o o2 hb e e2⟩
 ·exact RR.Q2.trans (.kept (λb u ⟨q,z⟩ e=>Fb b u (by rw[z];simp) e) λ_ _ e _=>e)
 ·refine (Qt a o e).QL (λb u hb q=>Fb b u ?_ q) (λ_ q=>q) λ_ _ q _=>q;rcases hb with rfl|z
  ·rw[e];simp
  ·rw[z];simp
def A4.inv(I:Inv X pins σ H s)(F:A4 X.prog X.w X.stack H s cls ea H' s'):Inv X pins σ H' s':=I.SN F.os F.un F.Qt F.bare (λb hb=>absurd hb (by simp))
def A4.QL(I:Inv X pins σ H s)(F:A4 X.prog X.w X.stack H s cls ea H' s')(QV:Heap.FlyingW B X.stack ea cls a0 s'.heap)(hB:∀b,b∉dZ X.stack->(H' b≠none\/∃o,s.heap.get? b=some o)->∃o,B.get? b=some o)
  (x1:Heap.FlyingW B X.stack ea cls a0 h') (x2:s'.heap.UpToSlots h'):A4 X.prog X.w X.stack H s cls ea H' { s' with heap:=h' }:=by
 let⟨u,k⟩:=Es I F.un F.Qt QV.1 QV.2.2.1 hB x1.1 x2;exact⟨F.os,F.bare,u,k,B,a0,x1,hB⟩
def land{M:Model}{E:Value->Shared->Prop}{Q:Unit->Shared->Prop}(I:Inv X pins σ H s)(hs:X.stack=X.env::X.outer)(hf:X.env.frame=some X.env.locals)(F:A4 X.prog X.w X.stack H s cls ea H' s')
  (k:∀h',A4 X.prog X.w X.stack H s cls ea H' { s' with heap:=h' }->Q () { s' with heap:=h' }) :
  wpAny M X.A (noteFrame (.ref ea) X.env) (λ_ s2=>wpAny M X.A (setFlight (.ref ea) none) Q E s2) E s':=by
 let⟨B,a0,QV,hB⟩:=F.Vo;refine wpAny_looks_onW (base:=B) (a0:=a0) (cls:=cls) (by rw[I.ok.frames,hs]) hf (by rw[<- hs];exact QV) λh4 hh x2=>?_;refine wpAny_landsW (s:={ s' with heap:=h4 }) hh λh5 y1 y2=>k h5 ?_;exact F.QL I QV hB (by rw[hs];exact y1) (x2.trans y2)
def again{M:Model}{A:Around}{E:Value->Shared->Prop}{Q:Unit->Shared->Prop}(I:Inv X pins σ H s)(F:A4 X.prog X.w X.stack H s cls ea H' s')
  (k:∀h',A4 X.prog X.w X.stack H s cls ea H' { s' with heap:=h' }->Q () { s' with heap:=h' }):wpAny M A (setFlight (.ref ea) none) Q E s':=by
 let⟨B,a0,QV,hB⟩:=F.Vo;exact lands_againW QV λh5 y1 y2=>k h5 (F.QL I QV hB y1 y2)
end
abbrev gz(X:Cx)(A':Around):Cx:={ X with A:=A',calm:=false }
def sG(I:Inv X pins σ H s)(Tt:A'.frames=X.A.frames):Inv (gz X A') pins σ H s :=
 let ok:=I.ok
 ⟨⟨ok.mod,ok.kind,ok.glob,ok.blt,ok.above,ok.inj,ok.has,ok.Uz,λz=>(by cases z),Tt.trans ok.frames,ok.Sa,ok.Uc,ok.bs,ok.Tz,ok.RF,ok.RG,ok.Q3,ok.Ud⟩,I.os,I.bare,I.base,I.loc,I.cell,I.free,I.QE,I.pin,I.Qt,I.len⟩
def we(ok:X.Ok)(I:Inv (gz X A') pins σ H s):Inv X pins σ H s:=⟨ok,I.os,I.bare,I.base,I.loc,I.cell,I.free,I.QE,I.pin,I.Qt,I.len⟩
def vj{t':Nat}(I:Inv X pins σ H s)(hn:h'.Ns X.env.locals m')(hs:Heap.SameBut X.env.locals s.heap h'):Inv X pins (List.replicate X.N.length none) H { s with heap:=h',toks:=t' }:=by
 have TB:∀b o,X.Qz.heap.get? b=some o->b≠X.env.locals:=λb o e=>yN (zP (zV e) I.ok.above);have kp:∀b o,b≠X.env.locals->s.heap.get? b=some o->h'.get? b=some o:=λb o ne e=>(hs.2 b ne).trans e;have tr:∀b u,H b=some u->b≠X.env.locals:=λb u e z=>by rw[z,I.free] at e;cases e
 refine⟨I.ok,I.os,I.bare,⟨λb o e n hb hx=>kp b o (TB b o e) (I.base.keep b o e n hb hx),λb o e n hb hx=>?_,I.base.free,λb o e hx=>?_,I.base.Ra,I.base.Q1,?_⟩,⟨m',hn,λi x v _ h2 _=>?_⟩,λx c e=>?_,I.free,I.QE,λp hp=>?_,λa o e=>?_,?_⟩
 ·let⟨sl,e1⟩:=I.base.slot b o e n hb hx;exact⟨sl,kp b _ (TB b o e) e1⟩
 ·let⟨o',e1⟩:=I.base.there b o e hx;exact⟨o',kp b _ (TB b o e) e1⟩
 ·exact I.base.Q2.trans (.kept (λb u ⟨q,z⟩ e=>kp b u (tr b _ z) e) λ_ _ e _=>e)
 ·rw[yT] at h2;split at h2<;>cases h2
 ·let⟨v,o,ho,hd⟩:=I.cell x c e;exact⟨v,o,kp c o (I.Ue x c e) ho,hd⟩
 ·let⟨e,n,ne,r⟩:=I.pin p hp;exact⟨kp _ _ ne e,n,ne,r⟩
 ·refine (I.Qt a o e).QL (λb u hb q=>kp b u ?_ q) (λ_ q=>q) λ_ _ q _=>q;rcases hb with rfl|z
  ·exact tr b _ e
  ·exact tr b _ z
 ·simp
def ExcAt(l:List PySem.Env)(H:Hp)(h:Heap)(ea:Addr)(cls:Value):Prop:=(∃ob vs,h.get? ea=some ob/\ob.cls=cls/\ob.data=.fields vs)/\H ea=none/\ea∉dZ l
def KC{rest:List ExceptHandler}{D:Ends}(I:Inv X pins σ H s)(F:A4 X.prog X.w X.stack H s cls ea H' s')(hg:Gl X x)(hm:X.mg x=some (.ref C))(QR:(x == ("__debug__":Str))=false)
  (hx:W.exmOne X.K cls (.ref C)=some true) (hN:X.N.Nodup) (hi:X.N[i]?=some n) (hl:X.env.kindOf n=some .local) (SF:X.env.scope.names.lookup n=some .local) (Q5:X.env.cells.lookup n=none)
  (k:∀s2,Inv (gz X (X.A.mark (some (.ref ea)))) pins (σ.set i (some (.ref ea))) H' s2->ExcAt X.stack H' s2.heap ea cls ->
   wpAny (model X.prog X.w) (X.A.mark (some (.ref ea))) (execs (U4::Tn) X.env) (λf s3=>∃u v σ' H3,f=.ret u/\Inv (gz X (X.A.mark (some (.ref ea)))) pins σ' H3 s3/\RelV v u/\D.rt v H3) (λ_ _=>False) s2) :
  wpAny (model X.prog X.w) X.A (handleBy (.ref ea) X.env (.ExceptHandler (some (.Name x np)) (some n) (U4::Tn) pos::rest)) (SP X pins D) X.xe s':=by
 have Tt:(X.A.mark (some (.ref ea))).frames=X.A.frames:=rfl;have I1:=F.inv I;let⟨B,a0,QV,hB⟩:=F.Vo;let⟨ob,V4,X8⟩:=QV.there;refine wpAny_handleBy_cons (codeAny_handlers_test ?_) (by intro q;cases q);refine lA (X:=gz X (X.A.mark (some (.ref ea)))) (sG I1 Tt) hg hm ?_ QR;have LT:W.Looks (model X.prog X.w) s'.heap (typeOf (.ref ea)) cls:=λA Q E s2 k2 q=>wpAny_typeOf_ref (k2 _ _ V4) (by rw[X8];exact q);refine (W.exm_one I1.RW LT hx).here ?_;refine codeAny_handlers_suite_as ?_;refine again I F λh2 F2=>?_;let⟨B2,a2,U5,hB2⟩:=F2.Vo;let⟨oe,vs,T,oT,ts,he,⟨hec,_⟩,X9,_⟩:=U5.2.2.2;refine l5 (X:=X) (i:=i) (v:=.ref ea) (F2.inv I) hN hi (.inl SF) rfl (λs2 I2 Yb=>?_) (.inr SF);let⟨a,Yb,ha⟩:=Yb;have hal:a=X.env.locals:=by
  rcases ha with h|h
  ·exact h
  ·rw[Q5] at h;cases h
 subst hal;have QS:ea≠X.env.locals:=λz=>by
  let⟨m,⟨o,es,ep,ho,hd,_⟩,_⟩:=(F2.inv I).loc;rw[<- z] at ho;have:oe=o:=by rw[he] at ho;exact yZ ho
  rw[<- this,X9] at hd;cases hd
 have Zd:ea∉dZ X.stack:=λz=>by
  let⟨_,o2,e2,d2⟩:=U5.2.2.1.mem z;have:oe=o2:=by rw[he] at e2;exact yZ e2
  exact d2 vs (this ▸ X9)
 have TJ:H' ea=none:=by
  cases q:H' ea with
  | none=>rfl
  | some u =>
   let⟨o,eo⟩:=hB2 ea Zd (.inl (by rw[q];simp));rw[U5.2.1] at eo;cases eo
 refine yW (k s2 (sG I2 Tt) ⟨⟨oe,vs,(Yb.2 ea QS).trans he,hec,X9⟩,TJ,Zd⟩) (λf s3 hz=>?_) λ_ _ z=>z.elim;let⟨u,v,σ',H3,rfl,I3,r,d⟩:=hz;have I4:=we I1.ok I3;let⟨m3,hn3,_⟩:=id I4.loc;exact wpAny_nameGoes hl hn3 (by rw[I4.ok.kind];rfl) λh' m' RT Yc=>⟨v,_,H3,vj I4 RT Yc,r,d⟩
abbrev dO(X:Cx)(pn:List (Addr×Obj))(xe:Value->Shared->Prop):Cx:={ X with pn:=pn,xe:=xe }
def Dc(ok:X.Ok):(dO X pn xe).Ok :=
 ⟨ok.mod,ok.kind,ok.glob,ok.blt,ok.above,ok.inj,ok.has,ok.Uz,ok.hd,ok.frames,ok.Sa,ok.Uc,ok.bs,ok.Tz,ok.RF,ok.RG,ok.Q3,ok.Ud⟩
def xn(I:Inv X pins σ H s)(h:∀p∈pn++pins',p∈X.pn++pins):Inv (dO X pn xe) pins' σ H s :=
 ⟨Dc I.ok,I.os,I.bare,I.base,I.loc,I.cell,I.free,I.QE,λp hp=>I.pin p (h p hp),I.Qt,I.len⟩
def pA(ok:X.Ok)(I:Inv (dO X pn xe) pins' σ H s)(h:∀p∈X.pn++pins,p∈pn++pins'):Inv X pins σ H s :=
 ⟨ok,I.os,I.bare,I.base,I.loc,I.cell,I.free,I.QE,λp hp=>I.pin p (h p hp),I.Qt,I.len⟩
def xj(X:Cx)(i:Nat)(ss:List Stmt)(c:Str)(d:D):Prop:=∀ (pn pins:List (Addr×Obj)) (xe:Value->Shared->Prop) (σ:L2.St) (H:Hp) (s:Shared) (ea C:Addr),X.mg c=some (.ref C)->Inv (gz (dO X pn xe) (X.A.mark (some (.ref ea)))) pins σ H s->σ[i]?=some (some (.ref ea)) ->
 ExcAt X.stack H s.heap ea (.ref C)->wpAny (model X.prog X.w) (X.A.mark (some (.ref ea))) (execs ss X.env) (λf s3=>∃u v σ' H3,f=.ret u/\Inv (gz (dO X pn xe) (X.A.mark (some (.ref ea)))) pins σ' H3 s3/\RelV v u/\∀HF,aM HF H->∃QN,bV HF H QN H3/\Rep X.K QN d v) (λ_ _=>False) s
def sC(gb:au->Option Out)(xg:au->Option Str)(fin:Str->Option D):au->Option Out:=λρ=>match gb ρ with
 | some (.rt d)=>some (.rt d)
 | some (.nx _)=>none
 | none=>(xg ρ).bind λc=>(fin c).map Out.rt
def Le{fin:Str->Option D}(hs:X.stack=X.env::X.outer)(hf:X.env.frame=some X.env.locals)
  (hg:Gl X x) (hm:X.mg x=some (.ref CF)) (QR:(x == ("__debug__":Str))=false) (hN:X.N.Nodup) (hi:X.N[i]?=some n) (hl:X.env.kindOf n=some .local) (SF:X.env.scope.names.lookup n=some .local) (Q5:X.env.cells.lookup n=none)
  (Qt:xk X.QF Qm Qn body gb) (hx:∀pn xe E,cA (oQ X.prog X.w) (dO X pn xe) E->Bz (dO X pn xe) E Qm Qn body xg)
  (Yd:∀c d,fin c=some d->(∀C,X.mg c=some (.ref C)->W.exmOne X.K (.ref C) (.ref CF)=some true)/\(∃C,X.mg c=some (.ref C))/\xj X i (U4::Tn) c d) :
  DS X Qm Qn (.Try body [.ExceptHandler (some (.Name x np)) (some n) (U4::Tn) T9] [] [] pos) (sC gb xg fin):=by
 intro pins s σ H D I ⟨HF,ρ,o,S,U6,q⟩;refine wpAny_Try_except ?_;unfold sC at U6;split at U6
 ·rename_i d WB;cases U6;refine yW (uE.QF Qt pins s σ H { D with nx:=λ_ _=>False,bk:=λ_ _=>False,ct:=λ_ _=>False } I ⟨HF,ρ,.rt d,S,WB,q⟩ |> λ_=>Qt pins s σ H { D with nx:=λ_ _=>False,bk:=λ_ _=>False,ct:=λ_ _=>False } (I.Qx _) ⟨HF,ρ,.rt d,S,WB,q⟩) (λf s1 z=>?_) λ_ _ z=>z.elim;cases f with
  | next=>let⟨_,_,_,z⟩:=z;exact z.elim
  | brk=>let⟨_,_,_,z⟩:=z;exact z.elim
  | cont=>let⟨_,_,_,z⟩:=z;exact z.elim
  | ret u=>exact SP.Qw (D:=D) z
 ·cases U6
 ·let⟨c,hc,U6⟩:=bs U6;let⟨d,hd,rfl⟩:=af U6;let⟨hex,⟨C,hC⟩,hsu⟩:=Yd c d hd;have hxm:=hex C hC;let E1:XK:=λcls _ H'=>cls=.ref C/\∃Qp,bV Qm Qn Qp H';let Ze:Value->Shared->Prop:=λe s1=>∃pins' σ' Hc s0 ea H',e=.ref ea/\Inv (dO X (X.pn++pins) X.xe) pins' σ' Hc s0/\A4 X.prog X.w X.stack Hc s0 (.ref C) ea H' s1/\∃Qp,bV Qm Qn Qp H';have hp:cA (oQ X.prog X.w) (dO X (X.pn++pins) Ze) E1:=λpins' σ' Hc s0 e s1 Ic hcx=>by
   let⟨ea,cls,H',rfl,F,rfl,Qp,G⟩:=hcx;exact⟨pins',σ',Hc,s0,ea,H',rfl,⟨Dc I.ok,Ic.os,Ic.bare,Ic.base,Ic.loc,Ic.cell,Ic.free,Ic.QE,Ic.pin,Ic.Qt,Ic.len⟩,F,Qp,G⟩
  have hI:Inv (dO X (X.pn++pins) Ze) [] σ H s:=xn I λp hp=>by rw[qC] at hp;exact hp
  refine yW (hx _ _ E1 hp [] s σ H ⟨λ_ _=>False,λ_ _=>False,λ_ _=>False,λ_ _=>False⟩ hI ⟨HF,ρ,c,C,S,hc,hC,λH' Qp G=>⟨rfl,Qp,G⟩⟩) (λf s1 z=>?_) λe s1 z=>?_
  ·exfalso;cases f with
   | next=>let⟨_,_,_,z⟩:=z;exact z
   | brk=>let⟨_,_,_,z⟩:=z;exact z
   | cont=>let⟨_,_,_,z⟩:=z;exact z
   | ret u=>let⟨_,_,_,_,_,z⟩:=z;exact z
  ·let⟨pins',σ',Hc,s0,ea,H',rfl,Ic,F,Qp,G⟩:=z;refine land (X:=dO X (X.pn++pins) X.xe) Ic hs hf F λh' F'=>?_;refine bg (KC (X:=dO X (X.pn++pins) X.xe) (D:=⟨λ_ _=>False,λv H3=>D.rt v H3,λ_ _=>False,λ_ _=>False⟩) Ic F' hg hm QR hxm hN hi hl SF Q5 λs2 I2 V4=>?_) λf s3 z=>?_
   ·have hlen:i < σ'.length:=by rw[Ic.len];exact (List.getElem?_eq_some_iff.mp hi).1
    refine yW (hsu _ _ _ _ _ _ _ C hC I2 (by simp[hlen]) V4) (λf s3 z=>?_) λ_ _ z=>z;let⟨u,v,RY,H3,rfl,I3,r,z⟩:=z;let⟨QN,g3,rp⟩:=z Qp G.fh;exact⟨u,v,RY,H3,rfl,I3,r,q v H3 QN (G.trans g3) rp⟩
   ·cases f with
    | next=>let⟨_,_,_,z⟩:=z;exact z.elim
    | brk=>let⟨_,_,_,z⟩:=z;exact z.elim
    | cont=>let⟨_,_,_,z⟩:=z;exact z.elim
    | ret u =>
     let⟨v,RY,H3,I3,r,z⟩:=z;exact⟨v,RY,H3,pA I.ok I3 λp hp=>qF _ hp,r,z⟩
open PySem PySem.W PySem.Spec PySem.Calls PyProof.Rows
section
variable {K:Frag}{x D:Addr}
def A9(X:K.In h)(ha:findIn K (.ref D) name=some (some a))(hg:specialIn K a "__get__"=some (some g))(ht:takesIn K a=some true):Looks M h (Builtin.ObjectAttr.find self (.ref D) name) (.bind g a):=by
 refine (looks_findIn X ha).andThen ?_;refine (show Looks M h (Builtin.ObjectAttr.getOf (some a)) (some g) from looks_specialIn X hg).andThen ?_;refine (show Looks M h (Builtin.ObjectAttr.dataDescriptor? (some a) (some g)) (some (g,a)) from (looks_takesIn X ht).andThen .now).andThen ?_;exact Looks.tag .now
def Cy(X:K.In s.heap)(L0:Looks (model prog w) s.heap (typeOf (.ref x)) (.ref D))(hm:mroIn K D (.type "object")=some true)
  (h:R (.ok (.ret (.ref D))) s):codeAny (model prog w) A (.call (.builtin "getset_descriptor.__get__") ⟨[.builtin "object.__class__",.ref x,tp],[]⟩) R s:=by
 have LI:Looks (model prog w) s.heap (isInstance (.ref x) (.type "object")) true:=L0.andThen (looks_mroIn X hm);let⟨hh,g,dr,t,os⟩:=s;refine vE KF.slot_gs.plain KF.entry_gs (KF.slot_gs.check _ _ _ _ _ _ _ _ KF.type_class (KF.args_gs _ _ _) ?_);unfold Builtin.«getset_descriptor.__get__» Builtin.Getset_descriptor.descrGet;rw[dga_obj];refine zS (zT ?_);unfold Builtin.Getset_descriptor.descrGetter Builtin.Getset_descriptor.descrCheckInstance Builtin.Getset_descriptor.descrNameAndClass;simp?[KF.owner_class]
 repeat lk
 refine⟨vK _ (by decide +kernel),jS KF.entry_class ?_⟩;unfold Builtin.«object.__class__» shownTypeOf
 repeat lk
 exact h
def Bv(X:K.In s.heap)(ho:s.heap.get? x=some ox)(Q5:ox.cls=.ref D)(hga:findIn K (.ref D) "__getattribute__"=some (some (.builtin "BaseException.__getattribute__")))(TJ:findIn K (.ref D) "__getattr__"=some none)
  (ha:findIn K (.ref D) "__class__"=some (some (.builtin "object.__class__"))) (hn:specialIn K (.builtin "object.__class__") "__get__"=some (some (.builtin "getset_descriptor.__get__"))) (htk:takesIn K (.builtin "object.__class__")=some true) (hm:mroIn K D (.type "object")=some true) (hb:subIn K (.ref D) (.type "BaseException")=some true)
  (h:Q (some (.ref D)) { s with toks:=s.toks+1 }):wpAny (model prog w) A (getAttr? (.ref x) "__class__") Q E s:=by
 let⟨hh,g,d,t,os⟩:=s;have L0:Looks (model prog w) hh (typeOf (.ref x)) (.ref D):=Q5 ▸ (Looks.ld ho).andThen .now;have L1:=looks_findIn (M:=model prog w) X hga;have L2:=looks_findIn (M:=model prog w) X TJ;have LF:=A9 (M:=model prog w) (self:=.ref x) X ha hn htk;have LI:Looks (model prog w) hh (isInstance (.ref x) (.type "BaseException")) true:=L0.andThen (looks_subIn X hb);unfold getAttr? getAttrBy? getAttrBy;refine zS (wpAny_mkText (zS (jZ (xU (zS (L0.at (zS (L1.at ?_))))))));have hx2:(Value.builtin "BaseException.__getattribute__" == Value.builtin "object.__getattribute__")=false:=by decide +kernel
 simp?[hx2,kE,yK,qL];unfold getAttrByItsOwn hookBefore;refine zS ?_;show wpAny _ _ (typeLookup (.ref D) "__getattr__") _ _ _;refine L2.at ?_;refine zS (jZ (xU ?_));show wpAny _ _ (boundAndCalled (.builtin "BaseException.__getattribute__") (.ref x) (.str "__class__" t)) _ _ _;unfold boundAndCalled;refine zS (wpAny_of_eq (F.attr_ValueError.ga.bind (.ref x)) ?_);refine wpAny_call (vE F.attr_ValueError.ga.plain F.entry_bexc_ga ?_);have hk:builtinKind "BaseException.__getattribute__"=some .slot:=by decide +kernel
 have U7:splitId "BaseException.__getattribute__"=some ("BaseException","__getattribute__"):=by decide +kernel
 simp?[checkBuiltinCall,hk,U7];refine zS (LI.at ?_);simp?[xV,yK,qL];have V5:argsOk "BaseException.__getattribute__" ⟨[.ref x]++[.str (Str.ofString "__class__") t],[]⟩:=F.args_bexc_ga _ _;have body:∀ {P:Fin->Shared->Prop}{E':Value->Shared->Prop},P (.done (.ret (.ref D))) ⟨hh,g,d,t+1,os⟩->wpAny (model prog w) A.in1 (Builtin.«object.__getattribute__» ⟨[.ref x]++[.str (Str.ofString "__class__") t],[]⟩) P E' ⟨hh,g,d,t+1,os⟩:=λ{P E'} q=>by
  unfold Builtin.«object.__getattribute__»;refine zS (zT ?_);refine zS (zT ?_);refine zS (L0.at ?_);refine zS (LF.at ?_);show wpAny _ _ (holding [.builtin "object.__class__"] (call (.builtin "getset_descriptor.__get__") [.builtin "object.__class__",.ref x,.ref D]) >>= ret) _ _ _;exact zS (xU (wpAny_call (Cy (s:=⟨hh,g,d,t+1,os⟩) X L0 hm (zT q))))
 cases Ye:Manifest.signature? "BaseException.__getattribute__" with
 | none=>exact zT (body (handed_on rfl (zT h)))
 | some sig =>
  have ha':Bind.checkArgs "BaseException.__getattribute__" sig ⟨[.ref x]++[.str (Str.ofString "__class__") t],[]⟩=pure ():=by simpa only[argsOk,Ye] using V5
  simp?[ha'];exact zT (body (handed_on rfl (zT h)))
structure GQ(K:Frag)(C:Addr):Prop where
 ga:findIn K (.ref C) "__getattribute__"=some (some (.builtin "BaseException.__getattribute__"))
 no:findIn K (.ref C) "__getattr__"=some none
 cl:findIn K (.ref C) "__class__"=some (some (.builtin "object.__class__"))
 hn:specialIn K (.builtin "object.__class__") "__get__"=some (some (.builtin "getset_descriptor.__get__"))
 tk:takesIn K (.builtin "object.__class__")=some true
 ob:mroIn K C (.type "object")=some true
 be:subIn K (.ref C) (.type "BaseException")=some true
 ci:(clsIn K C).isSome=true
def CI(k:GQ K D):KitX K (.ref x) (.ref D) (λh=>h.get? x=some ox/\ox.cls=.ref D) where
 ty:=λ_ _ _ p=>p.2 ▸ (Looks.ld p.1).andThen .now
 it:=λ_ _ X _=>by
  have hc:=k.ci;unfold clsIn at hc;split at hc
  ·rename_i ho;intro A' Q' E' s' kp q;unfold isType loadHead;exact zS (wpAny_loadPart (kp _ _ (X _ _ ho)) (zT q))
  ·cases hc
 ne:=λh tp dd its n sl X htp=>by
  have hc:=k.ci;refine Bool.eq_false_iff.mpr λq=>?_;have e:D=tp:=Value.ref.inj (beq_iff_eq.mp q);subst e;unfold clsIn at hc;split at hc
  ·rename_i ho;have z:=(X _ _ ho).symm.trans htp;cases z
  ·cases hc
 ca:=λX p q=>Bv X p.1 p.2 k.ga k.no k.cl k.hn k.tk k.ob k.be q
def wI(k:GQ K D)(X:K.In s.heap)(ho:s.heap.get? x=some ox)(hc:ox.cls=.ref D)(e:kitOne K (.ref D) c=some b)(h:∀tk,Q (.bool b) { s with toks:=tk }) :
  wpAny (model prog w) A (call (.builtin "isinstance") [.ref x,c]) Q E s:=kia_one (CI k) X ⟨ho,hc⟩ e (λz=>nomatch z) h
end
section
variable {K:W.Frag}
end
def KL{i:Nat}{n y:Str}{ea C:Addr}{ob:Obj}{c:Value}{b:Bool}{p p1 p2 pos:Pos}(k:GQ X.K C)(Ua:(ea,ob)∈X.pn)(RH:ob.cls=.ref C)(hgi:Gl X "isinstance")(SK:X.mg "isinstance"=none)(hi:X.N[i]?=some n)(hl:X.env.kindOf n=some .local)(SF:X.env.scope.names.lookup n=some .local)(Ru:(n == ("__debug__":Str))=false)
  (hy:∀ {pins:List (Addr×Obj)}{σ:L2.St}{H:Hp}{s:Shared}{Q:Value->Shared->Prop},Inv X pins σ H s->Q c s->wpAny (model X.prog X.w) X.A (eval (.Name y p2) X.env) Q X.xe s) (e:W.kitOne X.K (.ref C) c=some b) :
  PE X (.Call (.Name "isinstance" p) [.Name n p1,.Name y p2] [] pos) (λσ H Q=>σ[i]?=some (some (.ref ea))/\Q (.bl b) H):=by
 intro pins s σ H Q I ⟨WC,q⟩;have ev:∀ {Q:Value->Shared->Prop},Q (.ref ea) s->wpAny (model X.prog X.w) X.A (eval (.Name n p1) X.env) Q X.xe s:=λ{Q} q=>by
  let⟨m,hn,YH⟩:=I.loc;let⟨u,r,l⟩:=YH i n (.ref ea) hi WC (.inl SF);have r:u=.ref ea:=r;subst r;rcases l with ⟨hk,hm⟩|⟨hk,_⟩
  ·exact wpAny_Name (wpAny_loadName_local I.ok.kind hk hn hm q) Ru
  ·have hk:X.env.kindOf n=some .cell\/X.env.kindOf n=some .free:=hk;rw[hl] at hk;rcases hk with hk|hk<;>cases hk
 have ho:=(I.pin (ea,ob) (qF _ Ua)).1;refine qT (gR I hgi SK (u:=.builtin "isinstance") (by decide +kernel) ?_);refine PyProof.Rows.callWith_builtin1 (jD (ev (jD (hy I (jU ?_))))) rfl rfl;exact wI k I.RW ho RH e λtk=>⟨.bl b,H,I.tok tk,rfl,q⟩
def cY{K:W.Frag}:∀bs:List Bool,ar K H (bs.map PyData.bool) (bs.map V.bl)
 | []=>rfl
 | b::bs=>⟨_,_,rfl,rfl,cY bs⟩
def j4(bs:List Bool):SeqAt.shaped (.list (bs.map PyData.bool))=true:=by
 have h:∀bs:List Bool,PyData.canLayAll0 (bs.map PyData.bool)=true/\PyData.depthAll (bs.map PyData.bool)<=1:=λbs=>by
  induction bs with
  | nil=>exact⟨by simp[PyData.canLayAll0],by simp[PyData.depthAll]⟩
  | cons b bs ih=>exact⟨by simp[PyData.canLayAll0,PyData.canLay0,ih.1],by simp[PyData.depthAll,PyData.depth];lia⟩
 have:=h bs;unfold SeqAt.shaped;rw[zF];exact⟨by simp[PyData.canLay0,this.1],by simp[PyData.depth];lia⟩
def oh{base h h':Heap}{C:Addr}(hb:∀b o,b≠C->h.get? b=some o->(∀vs,o.data≠.fields vs)->∃o',h'.get? b=some o'/\o'.data=o.data):∀ {l:List PySem.Env},C∉dZ l->h.FunFrames base l->h'.FunFrames base l
 | [],_,_=>trivial
 | env::rest,hC,⟨a,⟨L,o,e1,e2,e3,e4⟩,r⟩=>by
  have hL:L≠C:=λz=>hC (by subst z;unfold dZ;rw[jB,e1];exact zE);let⟨o',f1,f2⟩:=hb L o hL e3 e4;refine⟨a,⟨L,o',e1,e2,f1,by rw[f2];exact e4⟩,oh hb (λz=>hC ?_) r⟩;unfold dZ at z ⊢;rw[jB,e1];exact zC _ z
def ml{B h:Heap}{as:List Addr}:∀ {l:List PySem.Env},h.FunFrames B l->h.FunFrames (W.hideAll B as) l
 | [],_=>trivial
 | env::rest,⟨a,⟨L,o,e1,e2,e3,e4⟩,r⟩=>by
  refine⟨a,⟨L,o,e1,?_,e3,e4⟩,ml r⟩;cases z:(W.hideAll B as).get? L with
  | none=>rfl
  | some o'=>rw[W.of_hideAll _ z] at e2;cases e2
def qf{B:Heap}{as:List Addr}{b:Addr}(h:B.get? b=none):(W.hideAll B as).get? b=none:=by
 cases z:(W.hideAll B as).get? b with
 | none=>rfl
 | some o'=>rw[W.of_hideAll _ z] at h;cases h
section
variable {X:Cx}{pins:List (Addr×Obj)}{σ:L2.St}{H:Hp}{s s':Shared}
def Nf{E:XK}{C:Addr}{m:Str->Option Value}{e:Value}{cenv:PySem.Env}(hk:Xk X E)(I:Inv X pins σ H s)(hC0:X.Qz.heap.get? C=none)(Yg:C∉dZ X.stack)(Zf:H C=none)(RT:s.heap.Ns C m)(hce:cenv.frame=X.env.frame)
  (h:oQ X.prog X.w X.stack H s E e s') {E0:Value->Shared->Prop} :
  wpAny (model X.prog X.w) X.A (noteFrame e cenv) (λ_ s1=>∃m,s1.heap.Ns C m/\∀h',Heap.SameBut C s1.heap h'->∀ce:PySem.Env,ce.frame=X.env.frame->∀Q:Value->Shared->Prop,wpAny (model X.prog X.w) X.A (PySem.passOn aa0 e ce) Q X.xe { s1 with heap:=h' }) E0 s':=by
 let⟨ea,cls,H',rfl,F,hc⟩:=h;let⟨B,a0,⟨st,be,ff,tr⟩,hB⟩:=F.Vo;have V6:noteFrame (.ref ea) cenv=noteFrame (.ref ea) X.env:=by unfold noteFrame PySem.frameOf;rw[hce]
 rw[V6];let⟨oC,es,ep,c1,c2,c3,c4⟩:=RT;have c1':s'.heap.get? C=some oC:=F.un.keep C oC c1 Zf Yg (by simp);have hH':H' C=none:=F.un.free C oC c1 Zf (by simp);have V7:∀ {h:Heap}{b:Addr}{o o2:Obj}{vs:Array Value},h.get? C=some o2->o2.data=oC.data->h.get? b=some o->o.data=.fields vs->b≠C:=λ{h b o o2 vs} e1 e2 e3 e4 z=>by
  subst z;rw[e1] at e3;cases e3;rw[e2,c2] at e4;cases e4
 have fl:(W.hideAll B [C]).FlyingW (X.env::X.outer) ea cls a0 s'.heap:=by
  rw[<- hk.hs];let⟨oe,vs,T,oT,ts,t1,t2,t3,t4,t5,t6,t7,t8,t9⟩:=tr;exact⟨λb o z=>st b o (W.of_hideAll _ z),qf be,ml ff,oe,vs,T,oT,ts,t1,t2,t3,t4,qf t5,t6,t7,t8,t9⟩
 refine wpAny_looks_onW (by rw[I.ok.frames,hk.hs]) hk.hf fl λh1 hd up=>?_;let⟨SM,be1,Zg,tr1⟩:=hd;rw[<- hk.hs] at Zg;let⟨sl,c5⟩:=up C oC c1' (by intro vs z;rw[c2] at z;cases z);refine⟨m,⟨_,es,ep,c5,c2,c3,c4⟩,λh2 sb ce Yh Q=>?_⟩;let⟨oe,vs,T,oT,ts,t1,t2,t3,t4,t5,t6,t7,t8,t9⟩:=tr1;have neE:ea≠C:=V7 c5 rfl t1 t3;have neT:T≠C:=V7 c5 rfl t7 t8;have g1:h2.get? ea=some oe:=(sb.2 ea neE).trans t1;have g2:h2.get? T=some oT:=(sb.2 T neT).trans t7;have hz:3 < ts.size:=by
  rcases Nat.lt_or_ge 3 ts.size with z|z
  ·exact z
  ·rw[Array.getElem?_eq_none z] at t9;cases t9
 have n0:(Value.ref T == Value.none)=false:=rfl;have n1:(Value.ref T != Value.none)=true:=rfl;have Tt:ce.frame=some X.env.locals:=by rw[Yh,hk.hf]
 unfold PySem.passOn;refine zS (qP g1 t3 t4 ?_);rw[n0];simp?[yK,qL];unfold setFlight;refine zS (zS (qP g1 t3 t4 ?_));rw[n1,yH rfl];refine wpAny_setField g2 t8 hz (wpAny_throw (hk.R9 _ _ ?_));rw[Tt];show wpAny _ X.A (leaving X.env (.ref ea)) _ _ { s' with heap:=h2.update T (Obj.mapFields λa=>a.setIfInBounds 3 (rawInt (X.env.locals:Nat))) };generalize hfu:(Obj.mapFields λa=>a.setIfInBounds 3 (rawInt (X.env.locals:Nat)))=fu;have k1:∃WD WE,(h2.update T fu).get? T=some WD/\WD.data=.fields WE/\WE[3]?=some (rawInt (X.env.locals:Nat)):=by
  subst hfu;cases oT with
  | mk cl di da sl =>
   cases t8;refine⟨_,_,Heap.get?_update_self _ g2 rfl,rfl,?_⟩;simp[Array.getElem?_setIfInBounds,hz]
 let⟨WD,WE,k1,k2,k3⟩:=k1;have k4:∀b,b≠T->(h2.update T fu).get? b=h2.get? b:=λb hb=>Heap.get?_update_ne _ _ _ _ hb;have hid:(W.hideAll B [C]).get? C=none:=W.hideAll_none [C] (by simp);have G6:∀b o,(W.hideAll B [C]).get? b=some o->b≠C/\b≠T:=λb o z=>⟨(λy=>by subst y;rw[hid] at z;cases z),(λy=>by subst y;rw[t5] at z;cases z)⟩
 have SJ:(W.hideAll B [C]).StaysIn (h2.update T fu):=λb o z=>by rw[k4 b (G6 b o z).2,sb.2 b (G6 b o z).1];exact SM b o z
 have V8:∀ {b:Addr}{o:Obj},h1.get? b=some o->(∀vs,o.data≠.fields vs)->b≠T:=λ{b o} z y w=>by subst w;rw[t7] at z;cases z;exact y _ t8
 have ff3:(h2.update T fu).FunFrames (W.hideAll B [C]) X.stack:=oh (C:=C) (λb o hb z y=>⟨o,by rw[k4 b (V8 z y),sb.2 b hb];exact z,rfl⟩) Yg Zg;have Zh:(h2.update T fu).TracedAtW (W.hideAll B [C]) ea cls a0 (rawInt (X.env.locals:Nat)):=⟨oe,vs,T,WD,WE,by rw[k4 ea (jG t6)];exact g1,t2,t3,t4,t5,t6,k1,k2,k3⟩
 unfold leaving;refine zS (wpAny_noteFrame_againW hk.hf Zh (wpAny_setFlight_noneW SJ ff3 Zh λh4 st4 Zi tr4 kp4=>?_));have ff5:h4.FunFrames (W.hideAll B [C]) X.outer:=by rw[hk.hs] at Zi;exact Zi.2.2
 refine⟨ea,cls,H',rfl,qp (s':=s') (h':=h4) I hk.hs hk.hf hk.hex F.os F.bare F.un F.Qt (B:=W.hideAll B [C]) fl.1 (by rw[hk.hs];exact fl.2.2.1) (λb hb hh=>?_) ⟨st4,be1,ff5,tr4⟩ (λb hb o z y=>?_),hc⟩
 ·have QS:b≠C:=λw=>by
   subst w;rcases hh with q|⟨o,q⟩
   ·exact q hH'
   ·rw[hC0] at q;cases q
  let⟨o,q⟩:=hB b hb (hh.imp id λ⟨o,e⟩=>I.base.there b o e (by rw[hk.hex];simp));exact⟨o,W.hideAll_get _ q (by simpa using QS)⟩
 ·have So:b∈dZ X.stack:=by rw[hk.hs];unfold dZ at hb ⊢;rw[jB,hk.hf];exact zC _ hb
  have QS:b≠C:=λw=>Yg (by rw[<- w];exact So);let⟨Tq,q⟩:=up b o z y;refine⟨Tq,kp4 b _ ?_ y⟩;rw[k4 b (V8 q y),sb.2 b QS];exact q
end
section
variable {X:Cx}{pins:List (Addr×Obj)}{σ σ':L2.St}{H:Hp}{s:Shared}{scope:Scope}{N:List Str}
 {tg iter elt:Expr}{ifs:List Expr}{pos:Pos}{g:TG}{tt:TT}{te:TE}{E:XK}
def JE(h:PG X.QF tg g):PG X tg g:=λpins s σ H v u Q I r hw =>
 yW (h pins s σ H v u Q (I.Qx _) r hw) (λ_ _ ⟨σ',H',I',q⟩=>⟨σ',H',I'.Qw,q⟩) λ_ _ z=>False.elim z
def Fs(h:Fd X.QF ifs tt):Fd X ifs tt:=λpins s σ H Q I hw =>
 yW (h pins s σ H Q (I.Qx _) hw) (λ_ _ ⟨H',I',q⟩=>⟨H',I'.Qw,q⟩) λ_ _ z=>False.elim z
def JQ(h:PI X.QF tg iter wi):PI X tg iter wi:=λpins s σ H R I hw =>
 yW (h pins s σ H R (I.Qx _) hw) (λ_ _ q=>yW q (λ_ _ ⟨it,fp,tn,J,H',e,I',T,st,f,r⟩=>⟨it,fp,tn,J,H',e,I'.Qw,T,st,f,r⟩) λ_ _ z=>False.elim z) λ_ _ z=>False.elim z
def oR{R:Result->Shared->Prop}{target:Expr}{acc:Value}{env:PySem.Env}(I:Nat->Shared->Prop)
  (turn:∀n s,I n s->wpAny (model prog w) A (pyNext it) (λr Qs=>match r with
   | none=>R (.ok .next) Qs
   | some v=>wpAny (model prog w) A (letOwnedTupleGo target it v) (λ_ RK=>wpAny (model prog w) A (assign target env v) (λ_ R0 =>
     wpAny (model prog w) A (nU ifs env) (λok Ro =>
      if ok=true then wpAny (model prog w) A (eval elt env) (λx Ry =>
       wpAny (model prog w) A (call (.builtin "list.append") [acc,x]) (λ_ SY=>∃m,m < n/\I m SY) (notedBy (model prog w) A env λx s'=>R (.error x) s') Ry) (notedBy (model prog w) A env λx s'=>R (.error x) s') Ro
      else ∃m,m < n/\I m Ro) (notedBy (model prog w) A env λx s'=>R (.error x) s') R0) (notedBy (model prog w) A env λx s'=>R (.error x) s') RK) (notedBy (model prog w) A env λx s'=>R (.error x) s') Qs) (notedBy (model prog w) A env λx s'=>R (.error x) s') s)
  (n:Nat) (h:I n s) :
  codeAny (model prog w) A (.compLoop (.ListComp elt [⟨target,iter,ifs,0⟩] scope pos) 0 it acc env) R s:=by
 refine codeAny_loop rfl I (λn s hI=>?_) n h;show wpAny _ A ((compTurn (.ListComp elt [⟨target,iter,ifs,0⟩] scope pos) 0 it acc env).onRaise (λx=>do noteFrame x env;theTreesLotGoes x)) _ _ s;refine wpAny_noted ?_;rw[compTurn_list];refine zS (kK (zS (bg (turn n s hI) λr Qs S5=>?_)));cases r with
 | none=>exact zT S5
 | some v =>
  refine zS (bg S5 λ_ RK S6=>?_);refine zS (bg S6 λ_ R0 UK=>zS (bg UK λok Ro S7=>?_));cases ok with
  | false=>exact zT ⟨rfl,S7⟩
  | true =>
   exact zS (zS (bg S7 λx Ry UL=>zS (bg UL λ_ SY UM=>zT (zT ⟨rfl,UM⟩))))
def iq(X:Cx)(pins:List (Addr×Obj))(σ:L2.St)(Q:VK)(acc:Value)(C:Addr)(r:Result)(s5:Shared):Prop:=match r with
 | .ok f=>se X pins σ Q acc C (.ok f) s5
 | .error e=>∃m,s5.heap.Ns C m/\∀h',Heap.SameBut C s5.heap h'->∀ce:PySem.Env,ce.frame=X.env.frame->∀Q':Value->Shared->Prop,wpAny (model X.prog X.w) X.A (PySem.passOn "comprehension.variables-let-go" e ce) Q' X.xe { s5 with heap:=h' }
def wH(hk:Xk X E)(hc:X.calm=true)(I:Inv X pins σ H s)(T:Turn X.prog X.w X.K tg J fp it tn)(st:tn 0 s.heap)(hf:∀b∈fp,d9 X pins H b)(Xz:scope.kind=.function)
  (QO:∀x∈scope.names,x.2=.free->X.env.kindOf x.1=some .cell\/X.env.kindOf x.1=some .free) (SX:∀ {x:Str},(x,NameKind.cell)∈scope.names->(x,NameKind.free)∈scope.names->False)
  (R1:∀ (i:Nat) (x:Str) (v:V),N[i]?=some x->σ'[i]?=some (some v)->scope.names.lookup x=some .free/\∃j:Nat,X.N[j]?=some x/\σ[j]?=some (some v)) (hlen:σ'.length=N.length)
  (hY:∀fp s H xe,cA (oQ X.prog X.w) ((aq X scope N fp s H).Qx xe) E->PG ((aq X scope N fp s H).Qx xe) tg g/\Fd ((aq X scope N fp s H).Qx xe) ifs tt/\PE ((aq X scope N fp s H).Qx xe) elt te)
  (Wl:∀D,H D=none->u0 J g tt te D σ' (upd H D (.lst [])) Q) {E':Value->Shared->Prop} :
  wpAny (model X.prog X.w) X.A (newList []) (λacc Ro=>wpAny (model X.prog X.w) X.A (newFunctionEnv scope X.env.globals (g8 X.env scope.names []) [] X.env.qual none .none (some X.env)) (λcenv Ry =>
   codeAny (model X.prog X.w) X.A (.compStart (.ListComp elt [⟨tg,iter,ifs,0⟩] scope pos) 0 (.ref it) acc { cenv with scope:=relabel scope X.env }) (iq X pins σ Q acc cenv.locals) Ry/\cenv.frame=X.env.frame) E' Ro) E' s:=by
 refine qH ?_;have QV:∀b∈fp,b < s.heap.objs.size:=λb hb=>let ⟨o,e,_⟩:=T.obj _ _ st b hb;zV e;have I3:=I.SS (ys:=[]) (its:=[]) (t':=s.toks) .nil (xR _);have hD:H s.heap.objs.size=none:=I.fresh;let⟨W,⟨m0,w0⟩,turn⟩:=Wl _ hD;generalize e3:({ s with heap:=s.heap.push { cls:=.type "list",data:=.seq ([]:List Value).toArray },toks:=s.toks }:Shared)=s3 at I3;have VD:s3.heap=s.heap.push { cls:=.type "list",data:=.seq ([]:List Value).toArray }:=by rw[<- e3]
 generalize WX:upd H s.heap.objs.size (.lst [])=H3 at I3 w0 turn;have QW:s.heap.objs.size < s3.heap.objs.size:=by rw[VD,xF];exact jY _
 have WY:∀b o,s.heap.get? b=some o->s3.heap.get? b=some o:=λb o e=>by rw[VD];exact zR _ e
 generalize s.heap.objs.size=D at *;have f3:∀b∈fp,d9 X pins H3 b:=λb hb=>by
  let⟨f0,f⟩:=hf b hb;refine⟨?_,f⟩;rw[<- WX,ay (yN (QV b hb))];exact f0
 have SJ:tn 0 s3.heap:=T.keep _ _ _ st λb _ o e=>WY b o e;refine nZ λh4 RT UN UJ=>?_;dsimp only;refine⟨?_,rfl⟩;have I4:=sS (N:=N) (σ':=σ') (fp:=fp) I3 f3 (λb hb=>vO (QV b hb) QW) Xz QO RT UN UJ SX R1 hlen s3.toks;have fC:∀H',H' s3.heap.objs.size=none->d9 X pins H' s3.heap.objs.size:=λH' hn=>I3.Rm (yI _) hn;have back:∀ {pins':List (Addr×Obj)}{Sl:L2.St}{H5:Hp}{s5:Shared},Inv (aq X scope N fp s3 H3) pins' Sl H5 s5->Inv X pins σ H5 s5:=λ{pins' Sl H5 s5} I6=>I3.SN I6.os I6.base I6.Qt I6.bare λb hb=>by
  let⟨f0,f1,f2,f4,f5,f6⟩:=f3 b hb;exact⟨f4,f1,f5,f6⟩
 have Zj:∀o,s3.heap.get? s3.heap.objs.size≠some o:=λo z=>qB _ (zV z);have hxp:cA (oQ X.prog X.w) ((aq X scope N fp s3 H3).Qx (notedBy (model X.prog X.w) X.A (cu X scope s3.heap.objs.size) λx s'=>iq X pins σ Q (.ref D) s3.heap.objs.size (.error x) s')) E:=λV9 Sl H5 s5 e s' I5 h=>by
  have J5:Inv (aq X scope N fp s3 H3) V9 Sl H5 s5:=I5.Qw;let⟨m,Zk,_⟩:=J5.loc;show notedBy (model X.prog X.w) X.A (cu X scope s3.heap.objs.size) (λx s'=>iq X pins σ Q (.ref D) s3.heap.objs.size (.error x) s') e s';refine Nf (C:=s3.heap.objs.size) (m:=m) hk (back J5) ?_ ?_ J5.free Zk rfl h
  ·cases z:X.Qz.heap.get? s3.heap.objs.size with
   | none=>rfl
   | some o =>
    let⟨o',z'⟩:=I3.base.there _ o z (by rw[hk.hex];simp);exact absurd z' (Zj o')
  ·intro z;let⟨_,o,z',_⟩:=I3.stack.mem z;exact Zj o z'
 let⟨hg,S8,TM⟩:=hY fp s3 H3 _ hxp;have UO:∀b∈fp,∀H':Hp,H' b=none->d9 (aq X scope N fp s3 H3) [] H' b:=λb hb H' hn=>by
  refine⟨hn,(I4.ok.Uc b hb).1,I4.ok.RG b hb,.inl hb,(I4.ok.Uc b hb).2,λp hp=>?_⟩;cases hp
 have loop:codeAny (model X.prog X.w) X.A (.compLoop (.ListComp elt [⟨tg,iter,ifs,0⟩] scope pos) 0 (.ref it) (.ref D) (cu X scope s3.heap.objs.size)) (iq X pins σ Q (.ref D) s3.heap.objs.size) { s3 with heap:=h4 }:=by
  refine oR (λn s'=>∃i σ' H',Inv (aq X scope N fp s3 H3) [] σ' H' s'/\tn i s'.heap/\(∀b∈fp,H' b=none)/\W i n σ' H') ?_ m0
   ⟨0,σ',H3,I4,T.keep _ _ _ SJ λb _ o e=>UN b o e,λb hb=>(f3 b hb).1,w0⟩
  rintro n s5 ⟨i,Sl,H5,I5,TH,UB,w5⟩;rcases turn i n Sl H5 w5 with ⟨stop,q⟩|⟨go,step⟩
  ·refine bg (T.done (aq X scope N fp s3 H3) rfl rfl rfl hc i [] s5 Sl H5 _ I5 (λb hb=>UO b hb H5 (UB b hb)) TH stop) λr s6 ⟨hr,I6⟩=>?_;subst hr;let⟨m,WZ,_⟩:=I6.loc;exact⟨D,H5,m,rfl,rfl,back I6,WZ,fC H5 I6.free,q⟩
  ·refine bg (T.item (aq X scope N fp s3 H3) rfl rfl rfl hc i [] s5 Sl H5 _ I5 (λb hb=>UO b hb H5 (UB b hb)) TH go) λr s6 ⟨u,hr,h6⟩=>?_;subst hr;refine bg h6 λ_ s7 ⟨x,H7,I7,r7,y7,UP,W0⟩=>?_;have W2:=I7.pinned (λb hb=>UO b hb H7 (W0 b hb)) (T.obj _ _ UP);have again:∀ {TN:L2.St}{H9:Hp}{s9:Shared}{n':Nat},Inv (aq X scope N fp s3 H3) ([]++l6 fp s7.heap) TN H9 s9->W (i+1) n' TN H9->∃i σ' H',Inv (aq X scope N fp s3 H3) [] σ' H' s9/\tn i s9.heap/\(∀b∈fp,H' b=none)/\W i n' σ' H':=λ{TN H9 s9 n'} I9 w9=>by
    refine⟨i+1,TN,H9,I9.QP,T.keep _ _ _ UP λb hb o e=>(I9.pin (b,o) (yB _ (yB _ (dC hb e)))).1,λb hb=>?_,w9⟩;let⟨o,e,d⟩:=T.obj _ _ UP b hb;exact (I9.pin (b,o) (yB _ (yB _ (dC hb e)))).2.1
   refine bg (hg _ s7 Sl H7 x u _ (W2.Qx _) r7 (step x H7 y7)) λ_ s8 ⟨TQ,H8,I8,q8⟩=>?_;refine bg (S8 _ s8 TQ H8 _ I8 q8) λok s9 ⟨H9,I9,q9⟩=>?_;cases ok with
   | false =>
    rw[yJ (by decide)] at q9;rw[yJ (by decide)];let⟨m',hm,w9⟩:=q9;exact⟨m',hm,again I9.Qw w9⟩
   | true =>
    rw[yH rfl] at q9;rw[yH rfl];refine bg (TM _ s9 TQ H9 _ I9 q9) λy W4 ⟨v,W5,W6,W7,ys,UQ,hz,m',hm,W8⟩=>?_;refine bg (iS (X:=(aq X scope N fp s3 H3).Qx (notedBy (model X.prog X.w) X.A (cu X scope s3.heap.objs.size) λx s'=>iq X pins σ Q (.ref D) s3.heap.objs.size (.error x) s')) _ W4 TQ W5 (.ref D) [v] (.ref D) [y] (λ_ H'=>W (i+1) m' TQ H') W6 rfl (.cons W7 .nil) ⟨D,ys,v,rfl,rfl,UQ,hz,W8⟩) λ_ ZK ⟨_,ZL,W9,_,Xa⟩=>?_;exact⟨m',hm,again W9.Qw Xa⟩
 exact codeAny_compStart_list loop (T.self _ 0 _ _ _ (T.keep _ _ _ SJ λb _ o e=>UN b o e) loop)
end
def EK(tgt:Dl.Env->D->Option Dl.Env)(tt:Dl.Env->Option Bool)(te:Dl.Env->Option D)(xe:Dl.Env->Option Str)(ρ:Dl.Env):List D->Option Str
 | []=>none
 | d::ds=>(tgt ρ d).bind λρ'=>(tt ρ').bind λb=>if b=true then (match xe ρ' with|some c=>some c|none=>(te ρ').bind λ_=>EK tgt tt te xe ρ ds) else EK tgt tt te xe ρ ds
def fN(t:Nat)(cs:List Nat)(fi:Dl.Env->Option (List D))(tgt:Dl.Env->D->Option Dl.Env)(tt:Dl.Env->Option Bool)(te:Dl.Env->Option D)(xe:Dl.Env->Option Str):Dl.Env->Option Str:=λρ=>(fi ρ).bind λds=>if ds.length<=sizeLine then EK tgt tt te xe (eW t cs ρ) ds else none
section
variable {X:Cx}{E:XK}{elt iter tg:Expr}{ifs:List Expr}{scope:Scope}{N:List Str}{t:Nat}{cs:List Nat}{fi:Dl.Env->Option (List D)}{tgt:Dl.Env->D->Option Dl.Env}{tt:Dl.Env->Option Bool}{te:Dl.Env->Option D}{xe:Dl.Env->Option Str}{pos:Pos}
def G7:∀σ H Q,Li X.K X.mg E (fN t cs fi tgt tt te xe) σ H Q->uM (OQ X.K fi) (LZ X.K tgt) (FJ X.K tt) (λσ H Q=>tD X.K te σ H Q\/Li X.K X.mg E xe σ H Q) (gf t cs) σ H Q:=λσ H Q ⟨HF,ρ,c,Cc,sm,eo,hf,Wj,q⟩=>by
 let⟨ds,hx,hf⟩:=bs hf;split at hf;rotate_left
 ·cases hf
 rename_i hz;refine⟨HF,ρ,ds,sm,eo,hx,λJ H1 Qr g1 it Dn hD=>?_⟩;have Xd:=zg (t:=t) (cs:=cs) (eo.mono g1.ff);have Xe:Qr Dn=none:=g1.fh.free hD;refine⟨λi m σ' H'=>m+i=ds.length/\∃Qp ys,bV Qr H1 Qp H'/\Qp Dn=none/\H' Dn=some (.lst ys)/\ys.length<=i/\cK X.K Qp (eW t cs ρ) σ'/\EK tgt tt te xe (eW t cs ρ) (ds.drop i)=some c,
  ⟨ds.length,rfl,Qr,[],.own g1.fh hD,Xe,aC,yI _,Xd,hf⟩,?_⟩
 rintro i m σ' H' ⟨hm,Qp,ys,G,TR,Uj,Zl,Xf,hc⟩;by_cases hi:i < ds.length
 ·refine .inr ?_;have hd:ds.drop i=ds[i]::ds.drop (i+1):=kH hi;have he:ds[i]?=some ds[i]:=List.getElem?_eq_some_iff.mpr ⟨hi,rfl⟩;generalize ds[i]=d at hd he;rw[hd] at hc;unfold EK at hc;let⟨ρ',h1,hc⟩:=bs hc;let⟨b,h2,hc⟩:=bs hc;let⟨go,Tp⟩:=it.go i d H' Qp he G.ff G.fh;refine⟨go,λx H2 y=>?_⟩;let⟨QC,G2,rx⟩:=Tp x H2 y;refine⟨QC,_,d,ρ',G2.fh,Xf.mono G2.ff,rx,h1,λRZ Vl Td=>?_⟩;refine⟨QC,ρ',b,G2.fh,Vl,h2,λH3 QN G3=>?_⟩;have VE:∀Rz H4,bV Qp H' Rz H4->Rz Dn=none:=λRz H4 G4=>by
   cases e4:Rz Dn with
   | none=>rfl
   | some o =>
    rcases G4.nw Dn o e4 with z|z
    ·rw[TR] at z;cases z
    ·rw[Uj] at z;cases z
  cases b with
  | false =>
   refine nJ ⟨m - 1,by lia,by lia,QN,ys,(G.trans G2).trans G3,VE _ _ (G2.trans G3),(G2.trans G3).hh _ _ Uj,by lia,Td.mono G3.ff,by simpa using hc⟩
  | true =>
   rw[yH rfl] at hc;cases R9:xe ρ' with
   | some c' =>
    rw[R9] at hc;cases hc;refine k8 (.inr ⟨QN,ρ',c,Cc,G3.fh,Vl.mono G3.ff,R9,Wj,λH' Qp G4=>q _ _ (((g1.trans G).trans (G2.trans G3)).trans G4)⟩)
   | none =>
    rw[R9] at hc;let⟨z,h3,hc⟩:=bs hc;refine k8 (.inl ⟨QN,ρ',z,G3.fh,Vl.mono G3.ff,h3,λv H4 Rz G4 rv=>?_⟩);have GG:=(G2.trans G3).trans G4;have n4:=VE _ _ GG;have Xg:=GG.hh _ _ Uj;refine⟨ys,Xg,by lia,m - 1,by lia,by lia,Rz,ys++[v],?_,n4,aC,by simp;lia,Td.mono (G3.ff.trans G4.ff),hc⟩;have G5:=G.trans GG;refine⟨λb o e=>?_,G5.ff,λb o e=>?_,G5.nw⟩
    ·rw[ay (aF e hD)];exact G5.hh b o e
    ·rw[ay (aF e n4)];exact G5.fh b o e
 ·have Sv:i=ds.length:=by lia
  subst Sv;rw[List.drop_length] at hc;cases hc
def EE{T:String}{p0:Pos}(B:l7 X.QF x (.type T))(hl:lQ X E l xf)(hn:x≠"__name__":=by decide)(hd:(x == ("__debug__":Str))=false:=by decide)(he:starEach [l] X.env=(false,eval l X.env)::starEach [] X.env:=by rfl):lQ X E (.Call (.Name x p0) [l] [] pos) xf :=
 aB (iZ (r:=λ_ _ _=>False) (λ_ _ _ _ _ _ _ _ _ h=>h.elim) B.gl B.mg B.bt (aW hl cy he) hn hd he rfl) λσ H Q h=>h
def K7(a b:Dl.Env->Option Str):Dl.Env->Option Str:=λρ=>match a ρ with
 | some c=>some c
 | none=>b ρ
def Mn{e:Expr}(ha:lQ X E e a)(hb:lQ X E e b):lQ X E e (K7 a b):=λpins s σ H Q I ⟨HF,ρ,c,C,sm,eo,hf,q⟩=>by
 unfold K7 at hf;split at hf
 ·rename_i c' z;cases hf;exact ha pins s σ H Q I ⟨HF,ρ,c,C,sm,eo,z,q⟩
 ·exact hb pins s σ H Q I ⟨HF,ρ,c,C,sm,eo,hf,q⟩
end
def AX{M:Model}{A:Around}{E:Value->Shared->Prop}{s:Shared}{env:PySem.Env}{e:Expr}{scope:Scope}{pos:Pos}{To first:Sem Value}{g:Comprehension}{gs:List Comprehension}{cl:List (Str×Addr)}{Q:Value->Shared->Prop}
  (hg:clausesOf e=g::gs) (hs:∀x,foldedSetIterable g.iter env x=pure x) (hc:closureFor scope env=pure cl) (hk:scope.kind=.function) (hl:∀x∈scope.names,x.2=.local -> scope.names.lookup x.1=some .local)
  (h:wpAny M A first (λx s1=>wpAny M A (pyIter x) (λit s2=>wpAny M A To (λacc s3=>wpAny M A (newFunctionEnv scope env.globals cl [] env.qual none .none (some env)) (λcenv s4 =>
   codeAny M A (.compStart e 0 it acc { cenv with scope:=relabel scope env }) (λr s5=>∃m,s5.heap.Ns cenv.locals m/\∀h',Heap.SameBut cenv.locals s5.heap h'->match r with
    | .ok _=>Q acc { s5 with heap:=h' }
    | .error x=>wpAny M A (PySem.passOn "comprehension.variables-let-go" x { cenv with scope:=relabel scope env }:Sem Value) Q E { s5 with heap:=h' }) s4) E s3) E s2) E s1) E s) :
  wpAny M A (comprehension e scope env pos To false first none) Q E s:=by
 unfold comprehension;rw[hc,hg];refine zS (bg h λx s1 h1=>?_);refine zS (kK (zS (wpAny_of_eq (hs x) ?_)));refine zS (xU (bg h1 λit s2 h2=>?_));refine wpAny_standIf (zS (bg h2 λacc s3 h3=>?_));refine zS (zT (zS (bg h3 λcenv s4 h4=>?_)));have hv:∀x∈(scope.names.filter λx=>(x.2 == .local || x.2 == .cell)&&x.1 != (".0":Str)).reverse,x.2=.local -> Env.kindOf { cenv with scope:=relabel scope env } x.1=some .local:=λx hx ht=>by
  rw[List.mem_reverse] at hx;exact lookup_relabel_local (hl x (List.mem_filter.mp hx).1 ht)
 refine xU (zS (jZ (xU (wpAny_run (jK h4 ?_)))));rintro (x|f) s5 ⟨m,hn,z⟩
 ·exact zS (xU (wpAny_comp_letGo (cenv:={ cenv with scope:=relabel scope env }) hk _ s5 m hv hn λh' _ _ sb=>z h' sb))
 ·exact zS (xU (wpAny_comp_letGo (cenv:={ cenv with scope:=relabel scope env }) hk _ s5 m hv hn λh' _ _ sb=>zT (z h' sb)))
section
variable {X:Cx}{pins:List (Addr×Obj)}{σ σ':L2.St}{H:Hp}{s:Shared}{scope:Scope}{N:List Str}
 {tg iter elt:Expr}{ifs:List Expr}{pos:Pos}{g:TG}{tt:TT}{te:TE}{E:XK}
def Da{wi:TI}{Q6:L2.St->L2.St}(hk:Xk X E)(hc:X.calm=true)(S:fM X scope N Q6)(hi:PI X tg iter wi)
  (hY:∀fp s H xe,cA (oQ X.prog X.w) ((aq X scope N fp s H).Qx xe) E->PG ((aq X scope N fp s H).Qx xe) tg g/\Fd ((aq X scope N fp s H).Qx xe) ifs tt/\PE ((aq X scope N fp s H).Qx xe) elt te)
  (hs:∀x,foldedSetIterable iter X.env x=pure x):PE X (.ListComp elt [⟨tg,iter,ifs,0⟩] scope pos) (uM wi g tt te Q6):=by
 intro pins s σ H Q I h;rw[eval_ListComp];refine AX rfl hs (gN (iH I.ok S.free)) S.kind S.loc (bg (hi pins s σ H _ I h) λv s1 h1=>bg h1 λVt s2 h2=>?_);let⟨it,fp,tn,J,H2,e,I2,T,SI,f2,rd⟩:=h2;subst e;refine bg (wH (iter:=iter) (pos:=pos) (E':=X.xe) hk hc I2 T SI f2 S.kind S.free S.dup (S.Wn σ) (S.len σ) hY rd) λacc s3 h3=>bg h3 λcenv s4 h4=>?_;refine jK h4.1 λr s5 h5=>?_;cases r with
 | ok a =>
  let⟨D,H5,m,rfl,_,I5,hn,fC,q⟩:=h5;refine⟨m,hn,λh' sb=>?_⟩;let⟨f0,f1,S9,f3,f4,f5⟩:=fC;exact⟨.ref D,H5,I5.turned (t':=s5.toks) (λb o hb e=>(sb.2 b hb).trans e) f0 f1 f3 f4 f5,rfl,q⟩
 | error e =>
  let⟨m,hn,z⟩:=h5;exact⟨m,hn,λh' sb=>z h' sb _ h4.2 _⟩
def uO{t:Nat}{cs:List Nat}{fi:Dl.Env->Option (List D)}{tgt:Dl.Env->D->Option Dl.Env}{tt:Dl.Env->Option Bool}{te:Dl.Env->Option D}{xe:Dl.Env->Option Str}(hk:Xk X E)(hc:X.calm=true)(S:fM X scope N (gf t cs))(hi:DI X.QF tg iter fi)
  (hY:∀fp s H,DG (aq X scope N fp s H) tg tgt/\Iv (aq X scope N fp s H) ifs tt/\DE (aq X scope N fp s H) elt te)
  (hx:∀fp s H xf,cA (oQ X.prog X.w) ((aq X scope N fp s H).Qx xf) E->lQ ((aq X scope N fp s H).Qx xf) E elt xe)
  (hs:∀x,foldedSetIterable iter X.env x=pure x):lQ X E (.ListComp elt [⟨tg,iter,ifs,0⟩] scope pos) (fN t cs fi tgt tt te xe) :=
 aB (Da (g:=LZ X.K tgt) (tt:=FJ X.K tt) (te:=λσ H Q=>tD X.K te σ H Q\/Li X.K X.mg E xe σ H Q) hk hc S (JQ hi) (λfp s0 H0 xf hp=>by
  let⟨y1,y2,y3⟩:=hY fp s0 H0;refine⟨JE (X:=(aq X scope N fp s0 H0).Qx xf) y1,Fs (X:=(aq X scope N fp s0 H0).Qx xf) y2,λpins s σ H Q I h=>?_⟩;rcases h with h|h
  ·exact PE.QF (X:=(aq X scope N fp s0 H0).Qx xf) y3 pins s σ H Q I h
  ·exact hx fp s0 H0 xf hp pins s σ H Q I h) hs) G7
def gT:List ((Dl.Env->Option D)×Option (Dl.Env->Option Str))->Dl.Env->Option Str
 | [],_=>none
 | (f,x)::r,ρ=>match x.bind (· ρ) with
  | some c=>some c
  | none=>(f ρ).bind λ_=>gT r ρ
inductive A5(X:Cx)(E:XK):List Expr->List ((Dl.Env->Option D)×Option (Dl.Env->Option Str))->Prop
 | nil:A5 X E [] []
 | cons {e:Expr}{es:List Expr}{f:Dl.Env->Option D}{x:Option (Dl.Env->Option Str)}{ps:List ((Dl.Env->Option D)×Option (Dl.Env->Option Str))}:DE X.QF e f->(∀y,x=some y->lQ X E e y)->(starEach (e::es) X.env=(false,eval e X.env)::starEach es X.env)->A5 X E es ps->A5 X E (e::es) ((f,x)::ps)
def HJ{es:List Expr}{ps:List ((Dl.Env->Option D)×Option (Dl.Env->Option Str))}(h:A5 X E es ps):PA X es (λσ H _=>Li X.K X.mg E (gT ps) σ H λ_ _=>True):=by
 induction h with
 | nil=>exactλpos pins s σ H Q I ⟨HF,ρ,c,C,_,_,z,_⟩=>by cases z
 | @cons e es f x ps hf hx hs _ ih =>
  have ee:PE X e (λσ H Q=>tD X.K f σ H Q\/∃y,x=some y/\Li X.K X.mg E y σ H Q):=λpins s σ H Q I z=>by
   rcases z with z|⟨y,hy,z⟩
   ·exact PE.QF hf pins s σ H Q I z
   ·exact hx y hy pins s σ H Q I z
  refine nM (aW ee ih hs) λσ H Q ⟨HF,ρ,c,C,sm,eo,hc,hm,q⟩=>?_;unfold gT at hc;split at hc
  ·rename_i c' hb;cases hc;let⟨y,hy,hb⟩:=bs hb;exact .inr ⟨y,hy,HF,ρ,c,C,sm,eo,hb,hm,q⟩
  ·let⟨d,hd,hc⟩:=bs hc;exact .inl ⟨HF,ρ,d,sm,eo,hd,λv H1 Qr g1 r1=>⟨Qr,ρ,c,C,g1.fh,eo.mono g1.ff,hc,hm,λH2 QC g2=>q H2 QC (g1.trans g2)⟩⟩
def Jy{es:List Expr}{ps:List ((Dl.Env->Option D)×Option (Dl.Env->Option Str))}{k:Nat}(h:A5 X E es ps):lQ X E (.Tuple es k pos) (gT ps) :=
 aB (Cs (HJ h)) λσ H Q ⟨HF,ρ,c,C,sm,eo,hc,hm,q⟩=>⟨HF,ρ,c,C,sm,eo,hc,hm,q⟩
end
open PySem L2 Dl PySem.Spec PyProof.Rows Rf
abbrev XE:=Dl.Env->Option Str
abbrev XS:=au->Option Str
abbrev XT:=List (Str×Nat×(List D->Option Str))
def HA:XE:=λ_=>none
def rS:XS:=λ_=>none
def ou(x:XE):XS:=λρ=>x (aL ρ)
def LX(c:Str):XS:=λ_=>some c
def kz(xh:XS)(g:GS)(xr:XS):XS:=λρ=>match xh ρ with
 | some c=>some c
 | none=>rF g xr ρ
def lK(P:Program)(w:World)(K:W.Frag)(mg:Str->Option Value)(base:Heap)(j:Nat)(l:XT):Prop:=∀x n m,l.lookup x=some (n,m)->GZ P w K mg base j x n m
def NC(fx:XT)(sc:Scope)(T:Tr)(x:Str)(a:Expr)(as:List Expr):Option XE:=match fx.lookup x with
 | some (m,xm)=>if (o9 sc x&&((a::as).all λe=>!isStar e)&&!(x == ("__debug__":Str)))=true then (oZ T (a::as)).map λfs=>m8 m xm fs else none
 | none=>none
def FC(S:fM X.QF scope N' Q6)(hi:lQ X E iter xf)(hs:∀x,foldedSetIterable iter X.env x=pure x):lQ X E (.ListComp elt [⟨tg,iter,ifs,0⟩] scope pos) xf:=by
 intro pins s σ H Q I h;rw[eval_ListComp];exact wpAny_comprehension_free (use:=none) rfl hs (gN (iH I.ok S.free)) S.kind S.loc (bg (hi pins s σ H (λ_ _=>False) I h) λv s1 ⟨_,_,_,_,z⟩=>z.elim)
def FU(B:l7 X.QF "min" (.builtin "min"))(hl:lQ X E l xf)(RB:starEach [l] X.env=(false,eval l X.env)::starEach [] X.env):lQ X E (.Call (.Name "min" p0) [l] [⟨some "key",v,Yi⟩] pos) xf:=by
 intro pins s σ H Q I h;have he:backTo pos (starEach [l] X.env)=(false,eval l X.env)::backTo pos (starEach [] X.env):=by rw[RB];rfl
 refine qT (gR I B.gl B.mg B.bt ?_ (by decide) (by decide));refine PyProof.Rows.callWith_kw (e:=l) (rest:=[]) (kws:=[⟨some "key",v,Yi⟩]) ?_ he (by rw[he];rfl) rfl rfl;rw[he];exact jD (bg (hl pins s σ H (λ_ _=>False) I h) λu s1 ⟨_,_,_,_,z⟩=>z.elim)
def Pe(sc:Scope)(N:List Str)(tg iter:Expr)(as:Int)(scope:Scope):Bool:=match NB tg with
 | some xs=>decide (as=0)&&om sc scope N (xs++(iA N scope).filterMap λj=>N[j]?) xs.length (iA N scope)&&vp iter
 | none=>false
def rP(T:Tr)(rd:Expr->Option XE):List Expr->Option (List (FE×Option XE))
 | []=>some []
 | e::es=>if isStar e=false then (T.e e).bind λf=>(rP T rd es).map λps=>(f,rd e)::ps else none
def va(sc:Scope)(x:Str):Expr->List Expr->Option Expr
 | a,[]=>if (x == ("tuple":Str)&&(o9 sc x&&!isStar a))=true then some a else none
 | _,_=>none
def sM{sc:Scope}{x:Str}{a:Expr}{as:List Expr}{e:Expr}(h:va sc x a as=some e):as=[]/\a=e/\x="tuple"/\o9 sc x=true/\isStar a=false:=by
 unfold va at h;split at h
 ·split at h
  ·rename_i hc;cases h;simp?[zF,yL] at hc;exact⟨rfl,rfl,eq_of_beq hc.1,hc.2.1,hc.2.2⟩
  ·cases h
 ·cases h
def AL(fx:XT)(sc:Scope)(N:List Str)(T:Tr):Nat->Expr->Option XE
 | 0,_=>none
 | n+1,e=>match e with
  | .Call (.Name x _) (a::as) [] _=>(match NC fx sc T x a as with
   | some y=>some y
   | none=>(va sc x a as).bind (AL fx sc N T n))
  | .Tuple es _ _=>(rP T (AL fx sc N T n) es).bind λps=>if (ps.any λp=>p.2.isSome)=true then some (gT ps) else none
  | .Call (.Name x _) [l] [⟨some ky,.Lambda _ _ _ _,_⟩] _=>if ((x == ("min":Str)&&ky == ("key":Str))&&(o9 sc "min"&&!isStar l))=true then AL fx sc N T n l else none
  | .ListComp _ [⟨tg,iter,_,as⟩] scope _=>if Pe sc N tg iter as scope=true then AL fx sc N T n iter else none
  | .IfExp c a b _=>(T.t c).bind λt=>match AL fx sc N T n a,AL fx sc N T n b with
   | none,none=>none
   | xa,xb=>some (Na t (xa.getD HA) (xb.getD HA))
  | _=>none
abbrev BL:=Option (Scope->List Str->Tr)
def xN(N:List Str)(scope:Scope)(y:Str):List Str:=[y]++(iA N scope).filterMap λj=>N[j]?
def Af(b:Scope->List Str->Tr)(fx:XT)(sc:Scope)(N:List Str)(T:Tr)(elt:Expr)(y:Str)(py:Pos)(iter:Expr)(ifs:List Expr)(as:Int)(scope:Scope):Option XE :=
 if ((decide (as=0)&&om sc scope N (xN N scope y) 1 (iA N scope))&&jw (xN N scope y) scope 0 y)=true then (match elt with
  | .Call (.Name x _) (a::r) [] _=>(Mw sc T (.Name y py) iter).bind λfi=>(sO (b scope (xN N scope y)) ifs).bind λtt=>((b scope (xN N scope y)).e elt).bind λte=>(NC fx scope (b scope (xN N scope y)) x a r).map λxe=>fN 1 (iA N scope) fi (fG 0) tt te xe
  | _=>none) else none
def OK(bl:BL)(fx:XT)(sc:Scope)(N:List Str)(T:Tr)(e:Expr):Option XE:=match e with
 | .ListComp elt [⟨.Name y py,iter,ifs,as⟩] scope _=>bl.bind λb=>Af b fx sc N T elt y py iter ifs as scope
 | .Call (.Name x _) [.ListComp elt [⟨.Name y py,iter,ifs,as⟩] scope _] [] _=>if (x == ("tuple":Str)&&o9 sc x)=true then bl.bind λb=>Af b fx sc N T elt y py iter ifs as scope else none
 | _=>none
def NY(bl:BL)(fx:XT)(sc:Scope)(N:List Str)(T:Tr)(e:Expr):Option XE:=match OK bl fx sc N T e with
 | none=>AL fx sc N T 4 e
 | some a=>some (match AL fx sc N T 4 e with|some c=>K7 c a|none=>a)
def oS(f:Stmt->Option XS)(tS:Stmt->Option GS):List Stmt->Option XS
 | []=>none
 | s::r=>match f s,oS f tS r with
  | none,none=>none
  | some xh,none=>some xh
  | none,some xr=>(tS s).map λg=>rF g xr
  | some xh,some xr=>match tS s with
   | some g=>some (kz xh g xr)
   | none=>some xh
def FH(bl:BL)(cl:List Str)(fx:XT)(sc:Scope)(N:List Str)(T:Tr)(tS:Stmt->Option GS):Nat->Stmt->Option XS
 | 0,_=>none
 | n+1,st=>match st with
  | .Return (some e) _=>(NY bl fx sc N T e).map ou
  | .Expr e _=>if nh e=true then (AL fx sc N T 4 e).map ou else none
  | .Assign [.Name x _] e _=>(N.idxOf? x).bind λi=>if (jw N sc i x&&!wx e)=true then (AL fx sc N T 4 e).map ou else none
  | .If c a b _=>(T.t c).bind λt=>match oS (FH bl cl fx sc N T tS n) tS a,oS (FH bl cl fx sc N T tS n) tS b with
   | none,none=>none
   | xa,xb=>some (Fc t (xa.getD rS) (xb.getD rS))
  | .Raise (some (.Call (.Name x _) [.Constant (.str _) _ _] [] _)) none _=>if (cl.contains x&&o9 sc x&&!(x == ("__debug__":Str)))=true then some (LX x) else none
  | _=>none
section
variable {tS:Stmt->Option GS}
def MQ:lQ X E e HA:=λpins s σ H Q I ⟨HF,ρ,c,C,_,_,h,_⟩=>by cases h
def HS{st:List Stmt}:Bz X E Qm Qn st rS:=λpins s σ H Q I ⟨HF,ρ,c,C,_,h,_⟩=>by cases h
def Cm(C:Bk X.QF N sc k)(O:bD X.QF T)(hx:lK X.prog X.w X.K X.mg X.base k fx)(hp:cA (oQ X.prog X.w) X E)(h:NC fx sc T x a as=some xf):lQ X E (.Call (.Name x p) (a::as) [] pos) xf:=by
 unfold NC at h;split at h
 ·rename_i m xm hl;split at h
  ·rename_i hc;simp?[zF] at hc;let⟨fs,RP,rfl⟩:=af h;have RB:isStar a=false/\(as.all λe=>!isStar e)=true:=by
    have:=hc.1.2;rw[xP,zF] at this;exact⟨by simpa using this.1,this.2⟩
   exact FI (hx x m xm hl) C.room hp (C.gl hc.1.1) (ck O RP) (by simpa using hc.2) (aO (by simpa using RB.1)) (eQ RB.2)
  ·cases h
 ·cases h
def pQ(O:bD X.QF T)(hr:∀e y,rd e=some y->lQ X E e y):∀ {es:List Expr}{ps:List (FE×Option XE)},rP T rd es=some ps->A5 X E es ps
 | [],ps,h=>by cases h;exact .nil
 | e::es,ps,h=>by
  unfold rP at h;split at h
  ·rename_i hs;let⟨f,hf,h⟩:=bs h;let⟨qs,hq,rfl⟩:=af h;exact .cons (O.e _ _ hf) (λy hy=>hr e y hy) (aO hs) (pQ O hr hq)
  ·cases h
def gG(C:Bk X.QF N sc k)(B:Bn X)(O:bD X.QF T)(hx:lK X.prog X.w X.K X.mg X.base k fx)(hp:cA (oQ X.prog X.w) X E):∀ (n:Nat) {e:Expr}{xf:XE},AL fx sc N T n e=some xf->lQ X E e xf
 | 0,e,xf,h=>by cases h
 | n+1,e,xf,h=>by
  have ih:∀ {e:Expr}{o:Option XE},AL fx sc N T n e=o->lQ X E e (o.getD HA):=λ{e o} h=>by
   cases o with
   | none=>exact MQ
   | some x=>exact gG C B O hx hp n h
  unfold AL at h;split at h
  ·split at h
   ·rename_i hc;cases h;exact Cm C O hx hp hc
   ·let⟨e',TZ,h5⟩:=bs h;have z:=gG C B O hx hp n h5;let⟨rfl,rfl,rfl,h2,h4⟩:=sM TZ;exact EE (C.blt B h2 (by decide +kernel) oM) z (he:=aO h4)
  ·let⟨ps,Wa,h⟩:=bs h;split at h
   ·cases h;exact Jy (pQ O (λe y hy=>gG C B O hx hp n hy) Wa)
   ·cases h
  ·split at h
   ·rename_i hc;simp?[zF,yL] at hc;let⟨⟨h1,h2⟩,h3,h4⟩:=hc;obtain rfl:=eq_of_beq h1;obtain rfl:=eq_of_beq h2;exact FU (C.blt B h3 (by decide +kernel) Cv) (gG C B O hx hp n h) (aO h4)
   ·cases h
  ·split at h
   ·rename_i hc;unfold Pe at hc;split at hc
    ·simp?[zF,zJ] at hc;let⟨⟨h1,h2⟩,h3⟩:=hc;subst h1;exact FC (C.comp h2).1 (gG C B O hx hp n h) (wY h3)
    ·cases hc
   ·cases h
  ·let⟨t,ht,h⟩:=bs h;split at h
   ·cases h
   ·cases h;exact Mi (O.t _ _ ht) (ih rfl) (ih rfl)
  ·cases h
def B9{X:Cx}{T:Tr}{ifs:List Expr}{tt:Dl.Env->Option Bool}(O:bD X T)(h:sO T ifs=some tt):Iv X ifs tt:=by
 unfold sO at h;split at h
 ·cases h;exact zu
 ·exact zz (O.t _ _ h)
 ·cases h
structure Qc(X:Cx)(E:XK)(elt:Expr)(y:Str)(py:Pos)(iter:Expr)(ifs:List Expr)(as:Int)(scope:Scope)(xf:XE):Prop where
 ex:as=0/\∃ (N':List Str) (t:Nat) (cs:List Nat) (fi:Dl.Env->Option (List D)) (tgt:Dl.Env->D->Option Dl.Env) (tt:Dl.Env->Option Bool) (te:Dl.Env->Option D) (xe:XE),xf=fN t cs fi tgt tt te xe/\fM X scope N' (gf t cs)/\DI X.QF (.Name y py) iter fi/\(∀x,foldedSetIterable iter X.env x=pure x) /\
  (∀fp s H,DG (aq X scope N' fp s H) (.Name y py) tgt/\Iv (aq X scope N' fp s H) ifs tt/\DE (aq X scope N' fp s H) elt te) /\
  ∀fp s H xg,cA (oQ X.prog X.w) ((aq X scope N' fp s H).Qx xg) E->lQ ((aq X scope N' fp s H).Qx xg) E elt xe
def uB(C:Bk X.QF N sc k)(B:Bn X)(O:bD X.QF T)(OB:∀scope N' fp s H,Bk (aq X scope N' fp s H) N' scope k->bD (aq X scope N' fp s H) (b scope N'))(hx:lK X.prog X.w X.K X.mg X.base k fx)
  (h:Af b fx sc N T elt y py iter ifs as scope=some xf):Qc X E elt y py iter ifs as scope xf:=by
 unfold Af at h;split at h
 ·rename_i hc;simp?[zF,zJ] at hc;let⟨⟨h1,h2⟩,h3⟩:=hc;split at h
  ·let⟨fi,Rt,h⟩:=bs h;let⟨tt,S8,h⟩:=bs h;let⟨te,TM,h⟩:=bs h;let⟨xe,R9,rfl⟩:=af h;let⟨S,CB⟩:=C.comp h2;let⟨hd,QK⟩:=vU C B O Rt;refine⟨h1,_,_,_,_,_,_,_,_,rfl,⟨S.kind,S.free,S.dup,S.loc,S.Wn,S.len⟩,hd,QK,λfp s H=>?_,λfp s H xg hp=>?_⟩
   ·have C1:Bk (aq X scope _ fp s H) _ scope k:=CB fp s H;have z:=C1.loc (i:=0) (x:=y) h3;exact⟨zp 0 z.1 z.2.1 z.2.2.1 z.2.2.2,B9 (OB scope _ fp s H C1) S8,(OB scope _ fp s H C1).e _ _ TM⟩
   ·have C1:Bk (aq X scope _ fp s H) _ scope k:=CB fp s H;exact Cm (X:=(aq X scope (xN N scope y) fp s H).Qx xg) C1 (OB scope _ fp s H C1) hx hp R9
  ·cases h
 ·cases h
def K2(C:Bk X.QF N sc k)(B:Bn X)(O:bD X.QF T)(hx:lK X.prog X.w X.K X.mg X.base k fx)(hk:∀b,bl=some b->Xk X E/\∀scope N' fp s H,Bk (aq X scope N' fp s H) N' scope k->bD (aq X scope N' fp s H) (b scope N'))
  (h:OK bl fx sc N T e=some xf):lQ X E e xf:=by
 unfold OK at h;split at h
 ·let⟨b,rfl,h⟩:=bs h;let⟨k1,k2⟩:=hk b rfl;let⟨rfl,N',t,cs,fi,tgt,tt,te,xe,rfl,S,hd,QK,hY,hX⟩:=(uB (E:=E) C B O k2 hx h).ex;exact uO k1 C.calm S hd hY hX QK
 ·split at h
  ·rename_i hc;rw[zF] at hc;obtain rfl:=eq_of_beq hc.1;let⟨b,rfl,h⟩:=bs h;let⟨k1,k2⟩:=hk b rfl;let⟨rfl,N',t,cs,fi,tgt,tt,te,xe,rfl,S,hd,QK,hY,hX⟩:=(uB (E:=E) C B O k2 hx h).ex;exact EE (C.blt B hc.2 (by decide +kernel) oM) (uO k1 C.calm S hd hY hX QK)
  ·cases h
 ·cases h
def JK(C:Bk X.QF N sc k)(B:Bn X)(O:bD X.QF T)(hx:lK X.prog X.w X.K X.mg X.base k fx)(hp:cA (oQ X.prog X.w) X E)(hk:∀b,bl=some b->Xk X E/\∀scope N' fp s H,Bk (aq X scope N' fp s H) N' scope k->bD (aq X scope N' fp s H) (b scope N'))
  (h:NY bl fx sc N T e=some xf):lQ X E e xf:=by
 unfold NY at h;split at h
 ·exact gG C B O hx hp 4 h
 ·rename_i a ha;cases h;have z:=K2 C B O hx hk ha;split
  ·rename_i c hc;exact Mn (gG C B O hx hp 4 hc) z
  ·exact z
def G0{st:Stmt}{rest:List Stmt}(h1:DX X E Qm Qn st xh)(h2:DS X.QF Qm Qn st g)(h3:Bz X E Qm Qn rest xr):Bz X E Qm Qn (st::rest) (kz xh g xr):=λpins s σ H D I ⟨HF,ρ,c,C,S,hx,hc,q⟩=>by
 unfold kz at hx;split at hx
 ·rename_i c' hh;cases hx;exact nE h1 pins s σ H D I ⟨HF,ρ,c,C,S,hh,hc,q⟩
 ·exact uc h2 h3 pins s σ H D I ⟨HF,ρ,c,C,S,hx,hc,q⟩
def sg(hf:∀s x,f s=some x->DX X E Qm Qn s x)(ht:∀s g,tS s=some g->DS X.QF Qm Qn s g):∀ {l:List Stmt}{x:XS},oS f tS l=some x->Bz X E Qm Qn l x
 | [],x,h=>by cases h
 | s::r,x,h=>by
  have ih:=λx=>sg hf ht (l:=r) (x:=x);unfold oS at h;split at h
  ·cases h
  ·rename_i h1 h2;cases h;exact nE (hf _ _ h1)
  ·rename_i h1 h2;let⟨g,hg,rfl⟩:=af h;exact uc (ht _ _ hg) (ih _ h2)
  ·rename_i h1 h2;split at h
   ·rename_i g hg;cases h;exact G0 (hf _ _ h1) (ht _ _ hg) (ih _ h2)
   ·cases h;exact nE (hf _ _ h1)
def Pf(X:Cx)(E:XK)(Qm Qn:Hp)(cl:List Str):Prop:=∀x∈cl,Gl X x->(x == ("__debug__":Str))=false->∀ (np Qq pos p:Pos) (t:Str) (i:Nat),DX X E Qm Qn (.Raise (some (.Call (.Name x np) [.Constant (.str t) i p] [] Qq)) none pos) (LX x)
def BU(C:Bk X.QF N sc k)(B:Bn X)(O:bD X.QF T)(hx:lK X.prog X.w X.K X.mg X.base k fx)(hp:cA (oQ X.prog X.w) X E)(hk:∀b,bl=some b->Xk X E/\∀scope N' fp s H,Bk (aq X scope N' fp s H) N' scope k->bD (aq X scope N' fp s H) (b scope N'))(hr:Pf X E Qm Qn cl)(ht:∀s g,tS s=some g->DS X.QF Qm Qn s g):∀ (n:Nat) {st:Stmt}{x:XS},FH bl cl fx sc N T tS n st=some x->DX X E Qm Qn st x
 | 0,st,x,h=>by cases h
 | n+1,st,x,h=>by
  have ih:∀ {l:List Stmt}{o:Option XS},oS (FH bl cl fx sc N T tS n) tS l=o->Bz X E Qm Qn l (o.getD rS):=λ{l o} h=>by
   cases o with
   | none=>exact HS
   | some x=>exact sg (λs x h=>BU C B O hx hp hk hr ht n h) ht h
  unfold FH at h;split at h
  ·let⟨xf,hf,rfl⟩:=af h;exact JI (JK C B O hx hp hk hf)
  ·split at h
   ·rename_i hc;let⟨xf,hf,rfl⟩:=af h;refine JO (gG C B O hx hp 4 hf) ?_;rename_i e pos;cases e<;>first|rfl|cases hc
   ·cases h
  ·let⟨i,hi,h⟩:=bs h;split at h
   ·rename_i hl;simp?[zF,yL] at hl;let⟨xf,hf,rfl⟩:=af h;let⟨z1,z2,z3,z4⟩:=C.loc hl.1;exact bW (oF z1 z2 z3 (gG C B O hx hp 4 hf) (i3 hl.2) z4) λD σ H q=>D7 q
   ·cases h
  ·let⟨t,UX,h⟩:=bs h;split at h
   ·cases h
   ·cases h;exact MB (O.t _ _ UX) (ih rfl) (ih rfl)
  ·split at h
   ·rename_i hc;simp?[zF,yL] at hc;cases h;exact hr _ (List.contains_iff_mem.mp hc.1.1) (C.gl hc.1.2) hc.2 _ _ _ _ _ _
   ·cases h
  ·cases h
end
abbrev Pk(st:Stmt)(N:List Str)(S:Sg)(fx:XT)(cl:List Str):Option XS:=oS (FH (some (tr S 39 none)) cl fx (aj st) N (tr S 40 none (aj st) N) (pO (aj st) N (tr S 40 none (aj st) N) 40) 10) (pO (aj st) N (tr S 40 none (aj st) N) 40) (bo st)
def Ek(K:W.Frag)(mg:Str->Option Value)(cl:List Str):Prop:=∀c∈cl,∃C:Addr,mg c=some (.ref C)/\W.excIn K C Ja "ValueError.__new__"=true
section
variable {K:W.Frag}
def IL(C:Bk X.QF N sc j)(B:Bn X)(hf:j8 X.prog X.w X.K X.mg X.base j fs)(hi:dD X.mg is)(hx:lK X.prog X.w X.K X.mg X.base j fx)(hp:cA (oQ X.prog X.w) X E)(hk:∀b,bl=some b->Xk X E/\∀scope N' fp s H,Bk (aq X scope N' fp s H) N' scope j->bD (aq X scope N' fp s H) (b scope N'))(hr:Pf X E Qm Qn cl)
  (t:oS (FH bl cl fx sc N (tr ⟨fs,is⟩ 40 none sc N) (pO sc N (tr ⟨fs,is⟩ 40 none sc N) 40) 10) (pO sc N (tr ⟨fs,is⟩ 40 none sc N) 40) l=some xg):Bz X E Qm Qn l xg:=by
 have O:bD X.QF (tr ⟨fs,is⟩ 40 none sc N):=tH (G:=⟨fs,is⟩) 40 C ⟨hf,hi,B⟩ (yI j) λq z=>by cases z
 have ht:∀s g,pO sc N (tr ⟨fs,is⟩ 40 none sc N) 40 s=some g->DS X.QF Qm Qn s g:=λs g h=>nK C B O 40 h;exact sg (λs x h=>BU C B O hx hp hk hr ht 10 h) ht t
def N1{st:Stmt}(D:AD K mg x st ps)(B:∀x∈cU,mg x=none)(hf:j8 P w K mg base j S.fn)(hi:dD mg S.int)(hx:lK P w K mg base j fx)(hc:Ek K mg cl)(t:Pk st N S fx cl=some xg)(F:cO N ps (aj st):=by exact Rf.O0):GZ P w K mg base (j+1) x ps.length (mP xg N.length):=by
 let⟨f,fd,hm,Fu,hb⟩:=D.ex;refine fnX Fu F hb hm λX E hP hw hK RE RN C Wb hk HF H=>?_;subst hP;subst hw;subst hK;subst RE;subst RN;exact IL C B hf hi hx hk.pass (λb hb=>by
  cases hb;exact⟨hk,λscope N' fp s H C'=>tH (G:=S) 39 C' ⟨hf,hi,B⟩ (yI j) λq z=>by cases z⟩) (λc Q5 hg hd np Qq pos p t i=>by
  let⟨Ca,h1,h2⟩:=hc c Q5;exact CC hk Wb hg h1 h2 hd) t
def Oh:lK P w K mg base j []:=λ_ _ _ h=>by cases h
def xm(F:GZ P w K mg base i x n m)(h:lK P w K mg base j l)(e:i<=j:=by decide):lK P w K mg base j ((x,n,m)::l):=λy n' m' e'=>by
 rw[zY] at e';cases q:y == x with
 | true=>rw[q] at e';cases e';rw[eq_of_beq q];exact F.mono e
 | false=>rw[q] at e';exact h y n' m' e'
end
def Mg(K:W.Frag)(C:Addr):Bool:=W.findIn K (.ref C) "__getattribute__" == some (some (.builtin "BaseException.__getattribute__"))&&(W.findIn K (.ref C) "__getattr__" == some none)&&(W.findIn K (.ref C) "__class__" == some (some (.builtin "object.__class__")))&&(W.specialIn K (.builtin "object.__class__") "__get__" == some (some (.builtin "getset_descriptor.__get__")))&&(W.takesIn K (.builtin "object.__class__") == some true)&&(W.mroIn K C (.type "object") == some true)&&(W.subIn K (.ref C) (.type "BaseException") == some true)&&(W.clsIn K C).isSome
def M7(K:W.Frag)(F:Addr)(cs:List (Str×Addr)):Bool:=(W.nsIn K mainGlobals "FlowError" == some (some (.ref F)))&&(W.nsIn K mainGlobals "ValueError" == some none)&&cs.all λc=>(W.nsIn K mainGlobals c.1 == some (some (.ref c.2)))&&W.excIn K c.2 Ja "ValueError.__new__"&&Mg K c.2&&(W.exmOne K (.ref c.2) (.ref F) == some true)&&(W.kitOne K (.ref c.2) (.type "ValueError") == some true)&&cs.all λd=>W.kitOne K (.ref c.2) (.ref d.2) == some (c.1 == d.1)
structure qu(K:W.Frag)(mg:Str->Option Value)(F:Addr)(cs:List (Str×Addr)):Prop where
 fe:mg "FlowError"=some (.ref F)
 ve:mg "ValueError"=none
 at_:∀c∈cs,mg c.1=some (.ref c.2)
 ex:∀c∈cs,W.excIn K c.2 Ja "ValueError.__new__"=true
 ek:∀c∈cs,GQ K c.2
 xm:∀c∈cs,W.exmOne K (.ref c.2) (.ref F)=some true
 kv:∀c∈cs,W.kitOne K (.ref c.2) (.type "ValueError")=some true
 kt:∀c∈cs,∀d∈cs,W.kitOne K (.ref c.2) (.ref d.2)=some (c.1 == d.1)
def F1{K:W.Frag}{cs:List (Str×Addr)}(X:K.In h)(G:h.Ns mainGlobals mg)(e:M7 K F cs=true):qu K mg F cs:=by
 unfold M7 at e;simp?[zF,xC,kP] at e;let⟨⟨e1,e2⟩,e3⟩:=e;refine⟨W.mg_of X G e1,W.mg_none_of X G e2,λc hc=>W.mg_of X G (e3 c hc).1.1.1.1.1,λc hc=>(e3 c hc).1.1.1.1.2,λc hc=>?_,λc hc=>(e3 c hc).1.1.2,λc hc=>(e3 c hc).1.2,λc hc d hd=>(e3 c hc).2 d hd⟩;have q:=(e3 c hc).1.1.1.2;unfold Mg at q;simp?[zF,kP] at q;exact⟨q.1.1.1.1.1.1.1,q.1.1.1.1.1.1.2,q.1.1.1.1.1.2,q.1.1.1.1.2,q.1.1.1.2,q.1.1.2,q.1.2,q.2⟩
def qu.ok{K:W.Frag}{cs:List (Str×Addr)}(M:qu K mg F cs)(h:(cl.all λc=>(cs.map Prod.fst).contains c)=true):Ek K mg cl:=λc hc=>by
 have:=List.contains_iff_mem.mp (List.all_eq_true.mp h c hc);let⟨q,hq,rfl⟩:=List.mem_map.mp this;exact⟨q.2,M.at_ q hq,M.ex q hq⟩
section
variable {K:W.Frag}{cs:List (Str×Addr)}
def p8:∀ (names:List (Str×NameKind)) (n:Nat),(names.all λy=>!(y.2 == NameKind.cell))=true->cellsFrom n names []=[]
 | [],_,_=>rfl
 | (x,k)::r,n,h=>by
  rw[xP,zF] at h;unfold cellsFrom;rw[yJ (by simpa using h.1)];exact p8 r n h.2
end
end Ex
namespace Hd
open PySem L2 Dl PySem.Spec PyProof.Rows
section
variable {K:W.Frag}
def OW{st:Stmt}(hb:oa st ps)(a:W.nsIn K mainGlobals x=some (some (.ref f)))(l:K.lookup f=some (fo x st pm c))(d:W.codeIn K (.ref c) x=true)(k:W.keepIn K (.ref f)=true):gU K x st ps:=MS hb a l d k
end
section
variable {α:Type}{R:List α->Prop}
def vx(h:∀a,R [a])(us:List α)(e:us.length=1):R us:=by
 let⟨a,rfl⟩:=List.length_eq_one_iff.mp e;exact h a
def Nn(us:List α)(e:us.length=n+1):∃a r,us=a::r/\r.length=n:=by
 cases us with
 | nil=>cases e
 | cons a r=>exact⟨a,r,rfl,by simpa using e⟩
def M5(h:∀a b,R [a,b])(us:List α)(e:us.length=2):R us:=by
 let⟨a,r,rfl,e'⟩:=Nn us e;exact vx (R:=λr=>R (a::r)) (h a) r e'
def O7(h:∀a b c,R [a,b,c])(us:List α)(e:us.length=3):R us:=by
 let⟨a,r,rfl,e'⟩:=Nn us e;exact M5 (R:=λr=>R (a::r)) (h a) r e'
end
section
variable {K:W.Frag}
def f1(f c:Addr)(pm:Value){st:Stmt}(hb:oa st ps:=by exactλ_ _ _ _ _ _ _ _ us hl=>vx (R:=λus=>bindArgs _ ⟨us,[]⟩=pure (List.zip _ us)) (λ_=>rfl) us hl)(a:W.nsIn K mainGlobals x=some (some (.ref f)):=by kernel_rfl)(l:K.lookup f=some (fo x st pm c):=by kernel_rfl)(d:W.codeIn K (.ref c) x=true:=by kernel_rfl)(k:W.keepIn K (.ref f)=true:=by kernel_rfl):gU K x st ps:=OW hb a l d k
def f2(f c:Addr)(pm:Value){st:Stmt}(hb:oa st ps:=by exactλ_ _ _ _ _ _ _ _ us hl=>M5 (R:=λus=>bindArgs _ ⟨us,[]⟩=pure (List.zip _ us)) (λ_ _=>rfl) us hl)(a:W.nsIn K mainGlobals x=some (some (.ref f)):=by kernel_rfl)(l:K.lookup f=some (fo x st pm c):=by kernel_rfl)(d:W.codeIn K (.ref c) x=true:=by kernel_rfl)(k:W.keepIn K (.ref f)=true:=by kernel_rfl):gU K x st ps:=OW hb a l d k
def f3(f c:Addr)(pm:Value){st:Stmt}(hb:oa st ps:=by exactλ_ _ _ _ _ _ _ _ us hl=>O7 (R:=λus=>bindArgs _ ⟨us,[]⟩=pure (List.zip _ us)) (λ_ _ _=>rfl) us hl)(a:W.nsIn K mainGlobals x=some (some (.ref f)):=by kernel_rfl)(l:K.lookup f=some (fo x st pm c):=by kernel_rfl)(d:W.codeIn K (.ref c) x=true:=by kernel_rfl)(k:W.keepIn K (.ref f)=true:=by kernel_rfl):gU K x st ps:=OW hb a l d k
end
end Hd
namespace Rg
open PySem L2 Dl Rf Ex PySem.Spec PyProof.Rows
abbrev FT:=List (Str×Nat×(List D->Option D))
def DP(st:Stmt):List Str:=((aj st).names.filter λy=>y.2 == .local || y.2 == .cell).map (·.1)
structure Ok(P:Program)(w:World)(K:W.Frag)(mg:Str->Option Value)(base:Heap)(is:List (Str×D))(cl:List Str)(j:Nat)(l:FT)(fx:XT):Prop where
 of:j8 P w K mg base j l
 ox:lK P w K mg base j fx
 oi:dD mg is
 ob:∀x∈cU,mg x=none
 oc:Ek K mg cl
 os:∃h:Heap,K.In h/\h.Ns mainGlobals mg
section
variable {K:W.Frag}{st:Stmt}{l:FT}
def up(h:Ok P w K mg base is cl j l fx)(e:j<=k):Ok P w K mg base is cl k l fx:=⟨λx n m z=>(h.of x n m z).mono e,λx n m z=>(h.ox x n m z).mono e,h.oi,h.ob,h.oc,h.os⟩
def MN(h:Ok P w K mg base is cl j l fx)(F:ES P w K mg base j x n m):Ok P w K mg base is cl j ((x,n,m)::l) fx:=⟨MT F h.of,h.ox,h.oi,h.ob,h.oc,h.os⟩
def Oo(h:Ok P w K mg base is cl j l fx)(F:GZ P w K mg base j x n m):Ok P w K mg base is cl j l ((x,n,m)::fx):=⟨h.of,xm F h.ox (yI j),h.oi,h.ob,h.oc,h.os⟩
def N5(h:Ok P w K mg base is cl j l fx)(D:gU K x st ps):AD K mg x st ps:=let ⟨_,a,b⟩:=h.os;D.mg a b
def fst(a:sc.kind=.function:=by kernel_rfl)(b:sc.isCoroutine=false:=by kernel_rfl)(c:sc.isGenerator=false:=by kernel_rfl)(d:N.Nodup:=by decide +kernel)(e:N.take P.length=P:=by kernel_rfl)(f:∀x∈P,sc.names.lookup x=some .local \/ sc.names.lookup x=some .cell:=by decide +kernel)(g:∀y∈sc.names,y.2≠.free:=by decide +kernel):cO N P sc:=⟨a,b,c,d,e,f,g⟩
abbrev Hn(st:Stmt)(n:Nat):List Str:=(DP st).take n
def on(st:Stmt)(D:gU K x st (Hn st n))(h:Ok P w K mg base is cl j l fx)(t:tW st (DP st) ⟨l,is⟩ none=some g:=by kernel_rfl)(F:cO (DP st) (Hn st n) (aj st):=by exact fst)(e:(Hn st n).length=n:=by kernel_rfl)(e':(DP st).length=k:=by kernel_rfl):Ok P w K mg base is cl (j+1) ((x,n,bN g k)::l) fx:=by
 have:=MN (up h (Nat.le_succ j)) (P3 (N5 h D) F h.ob h.of h.oi t);rw[e,e'] at this;exact this
def ox(st:Stmt)(D:gU K x st (Hn st n))(h:Ok P w K mg base is cl j l fx)(t:tW st (DP st) ⟨l,is⟩ none=some g:=by kernel_rfl)(tx:Pk st (DP st) ⟨l,is⟩ fx cl=some xg:=by kernel_rfl)(F:cO (DP st) (Hn st n) (aj st):=by exact fst)(e:(Hn st n).length=n:=by kernel_rfl)(e':(DP st).length=k:=by kernel_rfl):Ok P w K mg base is cl (j+1) ((x,n,bN g k)::l) ((x,n,mP xg k)::fx):=by
 have:=N1 (N5 h D) h.ob h.of h.oi h.ox h.oc tx F;rw[e,e'] at this;exact Oo (on st D h t F e e') this
end
end Rg
namespace Ex
open PySem L2 Dl PySem.Spec PyProof.Rows Rf
section
variable {cs:List (Str×Addr)}
def mS(X:Cx)(i:Nat)(ea:Addr)(es:List Expr)(bs:List Bool):Prop:=PA X es (λσ H Q=>σ[i]?=some (some (.ref ea))/\Q (bs.map V.bl) H)
def Ku:mS X i ea [] []:=λpos pins s σ H Q I ⟨_,q⟩=>cy pos pins s σ H Q I q
def FF{bs:List Bool}(h:PE X e (λσ H Q=>σ[i]?=some (some (.ref ea))/\Q (.bl b) H))(hr:mS X i ea es bs)(hs:starEach (e::es) X.env=(false,eval e X.env)::starEach es X.env:=by rfl):mS X i ea (e::es) (b::bs) :=
 nM (aW h hr hs) λσ H Q ⟨h0,q⟩=>⟨h0,h0,q⟩
def Dy(sc:Scope)(n:Str):Expr->Option Str
 | .Call (.Name f _) [.Name m _,.Name y _] [] _=>if (f == ("isinstance":Str)&&m == n&&o9 sc "isinstance"&&o9 sc y)=true then some y else none
 | _=>none
def tT(sc:Scope)(n:Str):List Expr->Option (List Str)
 | []=>some []
 | e::r=>(Dy sc n e).bind λy=>(tT sc n r).map λys=>y::ys
def HK:Expr->Option Bool
 | .Constant (.bool b) _ _=>some b
 | _=>none
def EL:List Expr->Option (List Bool)
 | []=>some []
 | e::r=>(HK e).bind λb=>(EL r).map λbs=>b::bs
def ya:∀ {es:List Expr}{bs:List Bool},EL es=some bs->PA X es (λσ H Q=>Q (bs.map V.bl) H)
 | [],bs,h=>by cases h;exact cy
 | e::r,bs,h=>by
  unfold EL at h;let⟨b,hb,h⟩:=Dl.bs h;let⟨UR,U8,rfl⟩:=af h;unfold HK at hb;split at hb
  ·cases hb;exact nM (aW Iy (ya U8)) λσ H Q q=>q
  ·cases hb
def yc{i:Nat}{n y:Str}{e:Expr}{ea:Addr}{ob:Obj}{b:Bool}{v:Value}{c:Str×Addr}(M:qu X.K X.mg F cs)(hc:c∈cs)(Ua:(ea,ob)∈X.pn)(RH:ob.cls=.ref c.2)(SF:Dz X sc)(SK:X.mg "isinstance"=none)(hN:X.N[i]?=some n)(hl:X.env.kindOf n=some .local)(hs:X.env.scope.names.lookup n=some .local)(Ru:(n == ("__debug__":Str))=false)
  (hr:Dy sc n e=some y) (hy:∀ {p2:Pos}{pins:List (Addr×Obj)}{σ:L2.St}{H:Hp}{s:Shared}{Q:Value->Shared->Prop},Gl X y->Inv X pins σ H s->Q v s->wpAny (model X.prog X.w) X.A (eval (.Name y p2) X.env) Q X.xe s) (hk:W.kitOne X.K (.ref c.2) v=some b) :
  PE X e (λσ H Q=>σ[i]?=some (some (.ref ea))/\Q (.bl b) H)/\(∀env whole,isTrue e env whole=(do let v <- whole;standAt e.pos;holding [v] (truthy v)))/\∀es:List Expr,starEach (e::es) X.env=(false,eval e X.env)::starEach es X.env:=by
 unfold Dy at hr;split at hr
 ·rename_i f pf m pm y' py pos;split at hr
  ·rename_i hh;cases hr;simp?[zF,kP] at hh;let⟨⟨⟨rfl,rfl⟩,hg⟩,X3⟩:=hh;have gl:∀ {x:Str},o9 sc x=true->Gl X x:=λh=>by
    rcases SF _ _ (yM h) with q|⟨q,_⟩
    ·exact q
    ·cases q
   exact⟨KL (M.ek c hc) Ua RH (gl hg) SK hN hl hs Ru (λ{pins σ H s Q} I q=>hy (gl X3) I q) hk,λenv whole=>rfl,λes=>rfl⟩
  ·cases hr
 ·cases hr
def uP{i:Nat}{n:Str}{ea:Addr}{ob:Obj}{c:Str×Addr}(M:qu X.K X.mg F cs)(hc:c∈cs)(Ua:(ea,ob)∈X.pn)(RH:ob.cls=.ref c.2)(SF:Dz X sc)(SK:X.mg "isinstance"=none)(hN:X.N[i]?=some n)(hl:X.env.kindOf n=some .local)(hs:X.env.scope.names.lookup n=some .local)(Ru:(n == ("__debug__":Str))=false)(hd:(cs.all λd=>!(d.1 == ("__debug__":Str)))=true) :
  ∀ {es:List Expr}{ns:List Str},tT sc n es=some ns->(ns.all λc=>(cs.map Prod.fst).contains c)=true->mS X i ea es (ns.map λn=>c.1 == n)
 | [],ns,h,_=>by cases h;exact Ku
 | e::es,ns,h,ha=>by
  unfold tT at h;let⟨y,hy,h⟩:=bs h;let⟨ys,Zl,rfl⟩:=af h;rw[xP,zF] at ha;let⟨d,Yj,rfl⟩:=List.mem_map.mp (List.contains_iff_mem.mp ha.1);have QR:(d.1 == ("__debug__":Str))=false:=by simpa using List.all_eq_true.mp hd d Yj
  let⟨h1,_,h3⟩:=yc (v:=.ref d.2) M hc Ua RH SF SK hN hl hs Ru hy (λ{p2 pins σ H s Q} hg I q=>lA I hg (M.at_ d Yj) q QR) (M.kt c hc d Yj);exact FF h1 (uP M hc Ua RH SF SK hN hl hs Ru hd Zl ha.2) (h3 es)
def wX{i j:Nat}{n fl:Str}{c:Str×Addr}{e6:Expr}{cst es:List Expr}{ns:List Str}{pn':List (Addr×Obj)}{a1 a2 a3 c1 c5 c6 c8 c9 d1 d2:Pos}{bs:List Bool}(M:qu X.K X.mg F cs)(hc:c∈cs)(SF:∀pn xe A',Dz (dO (gz (dO X pn xe) A') pn' λ_ _=>False) sc)(SK:X.mg "isinstance"=none)(hu:X.A.units+64 < cLine)(hN:X.N.Nodup)(hi:X.N[i]?=some n)(hl:X.env.kindOf n=some .local)(hs:X.env.scope.names.lookup n=some .local)(Ru:(n == ("__debug__":Str))=false)
  (hj:X.N[j]?=some fl) (QV:X.env.scope.names.lookup fl=some .local) (Yk:(fl == ("__debug__":Str))=false) (hfc:(fl == ("__classdict__":Str))=false) (QB:i≠j) (QR:(cs.all λd=>!(d.1 == ("__debug__":Str)))=true)
  (r1:tT sc n es=some ns) (r6:Dy sc n e6=some "ValueError") (rb:EL cst=some bs) (RT:(ns.all λc=>(cs.map Prod.fst).contains c)=true) (U8:(ns.map λm=>c.1 == m)=bs) (hz:ns.length<=sizeLine) :
  xj X i [.Assign [.Name fl a1] (.List es a2) a3,.If (.BoolOp .And [e6,.Compare (.Name fl c1) [.Eq] [.List cst c5] c6] c8) [.Return (some (.Constant .none k d1)) d2] [] c9] c.1 .none:=by
 intro pn pins xe σ H s ea C hC I WC V4;let⟨⟨ob,vs,ho,Q5,hd⟩,hn,hf⟩:=V4;have hCq:C=c.2:=by
  have:=M.at_ c hc;rw[hC] at this;cases this;rfl
 subst hCq;have QS:ea≠X.env.locals:=λz=>by
  let⟨m,⟨o,es,ep,Rl,SH,_⟩,_⟩:=I.loc;have Rl:s.heap.get? X.env.locals=some o:=Rl;rw[<- z,ho] at Rl;cases Rl;rw[hd] at SH;cases SH
 have RP:ea∉dZ X.outer:=λz=>by
  have Sa:X.stack=X.outer\/(X.stack=X.env::X.outer/\X.env.frame=some X.env.locals):=I.ok.Sa;rcases Sa with q|⟨q,q2⟩
  ·rw[q] at hf;exact hf z
  ·rw[q] at hf;refine hf ?_;unfold dZ at z ⊢;rw[jB,q2];exact zC _ z
 have I1:=I.Rx (pins':=pins++[(ea,ob)]) λp hp=>by
  rcases List.mem_append.mp hp with hp|hp
  ·exact I.pin p (yB _ hp)
  ·cases List.mem_singleton.mp hp;exact⟨ho,hn,QS,RP,λv z=>by rw[hd] at z;cases z⟩
 let X2:Cx:=dO (gz (dO X pn xe) (X.A.mark (some (.ref ea)))) (pn++(pins++[(ea,ob)])) λ_ _=>False;have I2:Inv X2 [] σ H s:=xn I1 λp hp=>by rw[qC] at hp;exact hp
 have Ua:(ea,ob)∈X2.pn:=yB _ (yB _ (List.mem_singleton.mpr rfl));have Zm:Dz X2 sc:=SF _ _ _;have f1:=uP (X:=X2) M hc Ua Q5 Zm SK hi hl hs Ru QR r1 RT;let⟨f6,w6,_⟩:=yc (X:=X2) (v:=.type "ValueError") M hc Ua Q5 Zm SK hi hl hs Ru r6 (λ{p2 pins σ H s Q} hg I q=>gR I hg M.ve (by decide +kernel) q) (M.kv c hc);have p1:=oF (X:=X2) (pos':=a1) (pos:=a3) hN hj (.inl QV) (sd (pos:=a2) f1) rfl (.inr QV);have p2:=EJ (X:=X2) (pos:=c9) (PW.pt (C9 (pos:=c8) (Eh f6 (λwhole=>w6 _ whole)) (zj (pos:=c8) (yt (pos:=c6) (wy hu) (ji (pos:=c1) hj (.inl QV) Yk hfc) (sd (pos:=c5) (ya rb)) (ET _ (by decide) (by decide)))))) (ib (vg (pos:=d2) (DK (j:=k) (pos:=d1))) mR) mR;have key:=ib p1 (ib p2 mR) [] s σ H ⟨λ_ _=>False,λv H'=>v=.Qo/\aM H H',λ_ _=>False,λ_ _=>False⟩ I2 (by
  have hjl:j < σ.length:=by have:=I.len;rw[this];exact (List.getElem?_eq_some_iff.mp hj).1
  refine⟨WC,by rw[zD,zD];exact hz,λp hp=>?_⟩;have s1:(σ.set j (some (.ref p)))[j]?=some (some (.ref p)):=by simp[hjl]
  have s0:(σ.set j (some (.ref p)))[i]?=some (some (.ref ea)):=by
   rw[kA (jG QB)];exact WC
  refine⟨s0,true,rfl,k8 ?_⟩;refine⟨.ref p,s1,by rw[<- U8,zD,zD];exact hz,λp2 WG=>?_⟩;have hlp:bs.length<=sizeLine:=by rw[<- U8,zD];exact hz
  have np:p2≠p:=λz=>by rw[z] at WG;rw[aC] at WG;cases WG
  have r1:dM X.K (upd (upd H p (.lst ((ns.map λm=>c.1 == m).map V.bl))) p2 (.lst (bs.map V.bl))) p (bs.map V.bl):=.inl (.inl (by rw[ay (jG np),aC,U8]));have r2:dM X.K (upd (upd H p (.lst ((ns.map λm=>c.1 == m).map V.bl))) p2 (.lst (bs.map V.bl))) p2 (bs.map V.bl):=.inl (.inl aC);have eqv:PyData.eqv (.list (bs.map PyData.bool)) (.list (bs.map PyData.bool))=true:=by
   have hh:∀bs:List Bool,PyData.eqvAll (bs.map PyData.bool) (bs.map PyData.bool)=true:=λbs=>by
    induction bs with
    | nil=>simp[PyData.eqvAll]
    | cons b bs ih=>simp[PyData.eqvAll,PyData.eqv,ih]
   simp[PyData.eqv,hh]
  refine⟨_,.list (bs.map PyData.bool),.list (bs.map PyData.bool),true,.refl _,⟨p,_,rfl,r1,cY _⟩,⟨p2,_,rfl,r2,cY _⟩,by unfold GN;rw[yH ⟨j4 _,j4 _⟩,eqv],true,rfl,k8 ?_⟩;refine⟨rfl,λb o e=>?_⟩;have n1:b≠p:=λz=>by rw[z,hp] at e;cases e
  have e1:upd H p (.lst ((ns.map λm=>c.1 == m).map V.bl)) b=some o:=by rw[ay n1];exact e
  have n2:b≠p2:=λz=>by rw[z,WG] at e1;cases e1
  rw[ay n2];exact e1)
 refine yW key (λf s3 z=>?_) λ_ _ z=>z.elim;cases f with
 | next=>let⟨_,_,_,z⟩:=z;exact z.elim
 | brk=>let⟨_,_,_,z⟩:=z;exact z.elim
 | cont=>let⟨_,_,_,z⟩:=z;exact z.elim
 | ret u =>
  let⟨v,σ',H3,I3,r,rfl,sm⟩:=z;refine⟨u,.Qo,σ',H3,rfl,pA I.ok I3 λp hp=>?_,r,λHF s4=>⟨HF,⟨sm,.refl _,s4.trans sm,λb o e=>.inl e⟩,by simp[Rep]⟩⟩;rw[qC];rcases List.mem_append.mp hp with hp|hp
  ·exact qF _ hp
  ·exact yB _ (qF _ hp)
end
def FK(ns:List Str)(bs:List Bool)(c:Str):Option D:=if (ns.contains c&&((ns.map λm=>c == m) == bs))=true then some .none else none
def N0:Stmt->Option (Str×List Expr)
 | .Assign [.Name fl _] (.List es _) _=>some (fl,es)
 | _=>none
def Jk(h:N0 s=some q):∃a1 a2 a3,s=.Assign [.Name q.1 a1] (.List q.2 a2) a3:=by
 unfold N0 at h;split at h
 ·cases h;exact⟨_,_,_,rfl⟩
 ·cases h
def NX:Expr->Option (Str×List Expr)
 | .Compare (.Name fl _) [.Eq] [.List cst _] _=>some (fl,cst)
 | _=>none
def Ki(h:NX s=some q):∃a1 a2 a3,s=.Compare (.Name q.1 a1) [.Eq] [.List q.2 a2] a3:=by
 unfold NX at h;split at h
 ·cases h;exact⟨_,_,_,rfl⟩
 ·cases h
def Oc:List Stmt->Bool
 | [.Return (some (.Constant .none _ _)) _]=>true
 | _=>false
def Ji(h:Oc s=true):∃k d1 d2,s=[.Return (some (.Constant .none k d1)) d2]:=by
 unfold Oc at h;split at h
 ·exact⟨_,_,_,rfl⟩
 ·cases h
def NV:Stmt->Option (Expr×Expr)
 | .If (.BoolOp .And [a,b] _) r [] _=>if Oc r=true then some (a,b) else none
 | _=>none
def K5(h:NV s=some q):∃c8 c9 k d1 d2,s=.If (.BoolOp .And [q.1,q.2] c8) [.Return (some (.Constant .none k d1)) d2] [] c9:=by
 unfold NV at h;split at h
 ·split at h
  ·rename_i hr;cases h;let⟨k,d1,d2,rfl⟩:=Ji hr;exact⟨_,_,_,_,_,rfl⟩
  ·cases h
 ·cases h
def so(sc:Scope)(N:List Str)(n:Str):Bool:=!(n == ("__debug__":Str))&&decide (sc.names.lookup n=some .local)&&N.contains n
def OU(st:Stmt)(N:List Str)(S:Sg)(fx:XT)(cl:List Str):List Stmt->Option GS
 | .Try body [.ExceptHandler (some (.Name e _)) (some n) [s1,s2] _] [] [] _::rest =>
  (N0 s1).bind λq1=>(NV s2).bind λq2=>(NX q2.2).bind λq3=>(tT (aj st) n q1.2).bind λns=>(EL q3.2).bind λbs =>
  if ((e == ("FlowError":Str)&&q3.1 == q1.1&&o9 (aj st) "FlowError"&&Dy (aj st) n q2.1 == some ("ValueError":Str))&&(ns.all cl.contains&&decide (ns.length<=sizeLine)&&so (aj st) N n&&so (aj st) N q1.1)&&(!(n == q1.1)&&!(q1.1 == ("__classdict__":Str))&&(aj st).names.all λy=>!(y.2 == NameKind.cell)))=true then
   (mK (pO (aj st) N (tr S 40 none (aj st) N) 40) body).bind λgb=>(mK (pO (aj st) N (tr S 40 none (aj st) N) 40) rest).map λgr=>aA (sC gb ((oS (FH none [] fx (aj st) N (tr S 40 none (aj st) N) (pO (aj st) N (tr S 40 none (aj st) N) 40) 10) (pO (aj st) N (tr S 40 none (aj st) N) 40) body).getD rS) (FK ns bs)) gr
  else none
 | _=>none
def yg{N:List Str}{n:Str}(h:so sc N n=true):(n == ("__debug__":Str))=false/\sc.names.lookup n=some .local /\ ∃i:Nat,N[i]?=some n:=by
 unfold so at h;simp?[zF,yL,zJ] at h;let⟨⟨h1,h2⟩,h3⟩:=h;let⟨i,hi,e⟩:=qM (List.contains_iff_mem.mp h3);exact⟨h1,h2,i,by rw[zK hi,e]⟩
def Km{K:W.Frag}{cs:List (Str×Addr)}{st:Stmt}(D:AD K mg x st ps)(B:∀x∈cU,mg x=none)(M:qu K mg F cs)(hf:j8 P w K mg base j S.fn)(hi:dD mg S.int)(hx:lK P w K mg base j fx)(Q5:(cl.all λc=>(cs.map Prod.fst).contains c)=true)(QR:(cs.all λd=>!(d.1 == ("__debug__":Str)))=true)(t:OU st N S fx cl (bo st)=some g)(FS:cO N ps (aj st):=by exact Rf.O0):ES P w K mg base (j+1) x ps.length (bN g N.length):=by
 let⟨f,fd,hm,Fu,hb⟩:=D.ex;refine⟨f,fd,ps,?_,hm,Fu.kp,hb⟩;let⟨oc,od,kV,doc,pm,an,QU,ct,SR,rfl,lk,Q8⟩:=Fu.ex;refine BS lk Q8 FS (λvs H Q E ⟨HF,ds,d,h1,_,h2,h3,_⟩=>by rw[h2.length,h3]) λA outer s H vs Q E hr ⟨HF,ds,d,sm,tb,rr,hl,hd,q⟩=>?_;have key:∀X:Cx,X=(rH Ie P w K mg base N x (aj st) f QU A outer s H E).QF->Bk X N (aj st) j->∀Qr H1,xk X Qr H1 (bo st) g:=λX hX C Qr H1=>by
  generalize bo st=bd at t;unfold OU at t;split at t
  ·rename_i body e pe n s1 s2 ph pt rest;let⟨q1,RU,t1⟩:=bs t;let⟨q2,RV,t2⟩:=bs t1;let⟨q3,hq3,t3⟩:=bs t2;let⟨ns,RT,t4⟩:=bs t3;let⟨UR,U8,t5⟩:=bs t4;split at t5
   ·rename_i hh;simp?[zF,yL,zJ] at hh;obtain⟨⟨⟨⟨⟨h1,h2⟩,hgF⟩,h6⟩,⟨⟨h7,h8⟩,h9⟩,Yl⟩,⟨Zn,h12⟩,hnc⟩:=hh;obtain rfl:=eq_of_beq h1;let⟨gb,WB,t6⟩:=bs t5;let⟨gr,hgr,rfl⟩:=af t6;let⟨Ru,RQ,i,Ym⟩:=yg h9;let⟨Yk,QV,j',Yn⟩:=yg Yl;let⟨a1,a2,a3,rfl⟩:=Jk RU;let⟨c8,c9,k,d1,d2,rfl⟩:=K5 RV;let⟨c1,c5,c6,e3⟩:=Ki hq3;rw[eq_of_beq h2] at e3;rw[e3];have Yo:(A.deeper (envOfC x (aj st) s.heap.objs.size f QU)).units+64 < cLine:=by
     have:=hr.un;lia
    subst hX;refine uy (Le (i:=i) rfl rfl (C.gl hgF) M.fe (by decide) C.nd Ym RQ RQ ?_ ?_ ?_ ?_) (Rf.fj (λs g h=>nK C B (tH (G:=S) 40 C ⟨hf,hi,B⟩ (yI j) λq z=>by cases z) 40 h) hgr)
    ·show List.lookup n (cellsFrom _ _ [])=none;rw[p8 _ _ hnc];rfl
    ·exact Rf.fj (λs g h=>nK C B (tH (G:=S) 40 C ⟨hf,hi,B⟩ (yI j) λq z=>by cases z) 40 h) WB
    ·intro pn xe E' hp;have C':Bk (dO (rH Ie P w K mg base N x (aj st) f QU A outer s H E).QF pn xe).QF N (aj st) j:=⟨rfl,FS.nd,λy kd hy=>.inl hy,rfl,λ_ _=>rfl,hr,rfl,FS.kind⟩
     cases hq:oS (FH none [] fx (aj st) N (tr S 40 none (aj st) N) (pO (aj st) N (tr S 40 none (aj st) N) 40) 10) (pO (aj st) N (tr S 40 none (aj st) N) 40) body with
     | none=>exact HS
     | some xg=>exact IL C' B hf hi hx hp (λb z=>by cases z) (λc Q5=>by cases Q5) hq
    ·intro c d Ub;unfold FK at Ub;split at Ub
     ·rename_i hc;rw[zF] at hc;cases Ub;have TL:(ns.all λc=>(cs.map Prod.fst).contains c)=true:=by
       rw[xC] at h7 Q5 ⊢;exactλm hm=>Q5 m (List.contains_iff_mem.mp (h7 m hm))
      let⟨z,hz,rfl⟩:=List.mem_map.mp (List.contains_iff_mem.mp (List.all_eq_true.mp TL c (List.contains_iff_mem.mp hc.1)));refine⟨λC hC=>?_,⟨z.2,M.at_ z hz⟩,wX (sc:=aj st) (pn':=[]) M hz (λ_ _ _ y kd hy=>.inl hy) (B _ (by decide)) Yo C.nd Ym RQ RQ Ru Yn QV Yk h12 (λz=>?_) QR RT (eq_of_beq h6) U8 TL (eq_of_beq hc.2) h8⟩
      ·have:=M.at_ z hz;rw[show mg z.1=some (.ref C) from hC] at this;cases this;exact M.xm z hz
      ·subst z;rw[Ym] at Yn;cases Yn;rw[beq_self_eq_true] at Zn;cases Zn
     ·cases Ub
   ·cases t5
  ·cases t
 unfold bN at hd;let⟨o,ho,hd⟩:=af hd;refine⟨_,(key _ rfl ⟨rfl,FS.nd,λy kd hy=>.inl hy,rfl,λ_ _=>rfl,hr,rfl,FS.kind⟩ HF H).QF,HF,_,o,tN sm tb rr,ho,?_⟩;cases o with
 | rt d'=>cases hd;exactλv H' Qp G r=>q v H' Qp G r
 | nx ρ'=>cases hd;exactλσ' H' Qp S' _=>q .Qo H' Qp S'.gr (by simp[Rep])
end Ex
namespace Rg
open PySem L2 Dl Rf Ex PySem.Spec PyProof.Rows
def Qd{K:W.Frag}{l:FT}(st:Stmt)(D:gU K x st (Hn st n))(M:qu K mg Fa cs)(h:Ok P w K mg base is cl j l fx)(t:OU st (DP st) ⟨l,is⟩ fx (cs.map Prod.fst) (bo st)=some g:=by kernel_rfl)(QR:(cs.all λd=>!(d.1 == ("__debug__":Str)))=true:=by decide +kernel)(F:cO (DP st) (Hn st n) (aj st):=by exact fst)(e:(Hn st n).length=n:=by kernel_rfl)(e':(DP st).length=k:=by kernel_rfl):Ok P w K mg base is cl (j+1) ((x,n,bN g k)::l) fx:=by
 have:=MN (up h (Nat.le_succ j)) (Km (N5 h D) h.ob M h.of h.oi h.ox (by rw[xC];exactλc hc=>List.contains_iff_mem.mpr hc) QR t F);rw[e,e'] at this;exact this
end Rg
namespace Pg
open PySem L2 Dl PySem.Spec PyProof.Rows
def nS:au->Option Out:=(aA (iW (d5 (cq (fB (Iz "int" (ae 0)))) (fB (Iz "bool" (ae 0)))) (bh (fC (.bool false))) hV) (bh (iE ER ER (ae 1) (ae 0) (ae 2))))
def bJ:List D->Option D:=bN nS 3
def mD:au->Option Out:=(bh (ai 3 bJ (aa (ae 0) (aa (fC (.int 0)) (aa (f2 Dl.mO (ae 1) (fC (.int 1))) ah)))))
def cH:List D->Option D:=bN mD 2
def pL:au->Option Out:=(bh (oX (Iz "tuple" (ae 0)) (iE ER ER (ae 1) (aY cB (aa (ae 0) ah)) (ae 2))))
def cM:List D->Option D:=bN pL 3
def mh:au->Option Out:=(aA (iW (cq (fB (Iz "tuple" (ae 0)))) (bh (fC (.bool false))) hV) (aA (iW (cq (fB (aY tR (aa (bI (az 1 [1] (aH (ae 0)) (fG 0) (λ_=>some true) (ai 2 cH (aa (ae 0) (aa (ae 1) ah))))) ah)))) (bh (fC (.bool false))) hV) (bh (f2 cc (f1 iX (ae 0)) (aY cB (aa (ae 0) ah))))))
def fF:List D->Option D:=bN mh 2
def tP:au->Option Out:=(bh (oX (ai 3 cM (aa (ae 0) (aa (fC (.int 2)) (aa (fC (.int 2)) ah)))) (oX (ai 3 bJ (aa (f2 bz (ae 0) (fC (.int 0))) (aa (fC (.int 0)) (aa (fC (.int 9)) ah)))) (ai 2 fF (aa (f2 bz (ae 0) (fC (.int 1))) (aa (ae 1) ah))))))
def eF:List D->Option D:=bN tP 2
def uk:au->Option Out:=(aA (iW (cq (fB (ai 3 cM (aa (ae 0) (aa (fC (.int 3)) (aa (fC (.int 3)) ah)))))) (bh (fC (.bool false))) hV) (bh (oX (ai 2 cH (aa (f2 bz (ae 0) (fC (.int 0))) (aa (ae 1) ah))) (oX (ai 2 cH (aa (f2 bz (ae 0) (fC (.int 1))) (aa (ae 2) ah))) (ai 3 bJ (aa (f2 bz (ae 0) (fC (.int 2))) (aa (fC (.int 1)) (aa (fC (.int 9)) ah))))))))
def iJ:List D->Option D:=bN uk 3
def mz:au->Option Out:=(aA (iW (d5 (cq (fB (ai 3 cM (aa (ae 0) (aa (fC (.int 1)) (aa (fC (.int 4)) ah)))))) (cq (fB (ai 3 cM (aa (ae 1) (aa (fC (.int 1)) (aa (fC (.int 4)) ah))))))) (bh (fC (.bool false))) hV) (aA (iW (cq (fB (aY tR (aa (bI (az 1 [1] (aH (ae 0)) (fG 0) (λ_=>some true) (ai 2 eF (aa (ae 0) (aa (aY cB (aa (ae 1) ah)) ah))))) ah)))) (bh (fC (.bool false))) hV) (aA (iW (cq (fB (aY tR (aa (bI (az 1 [0] (aH (ae 1)) (fG 0) (λ_=>some true) (ai 2 eF (aa (ae 0) (aa (aY cB (aa (ae 1) ah)) ah))))) ah)))) (bh (fC (.bool false))) hV) (bh (oX (Iz "tuple" (ae 2)) (aY tR (aa (bI (az 1 [0,1] (aH (ae 2)) (fG 0) (λ_=>some true) (ai 3 iJ (aa (ae 0) (aa (aY cB (aa (ae 1) ah)) (aa (aY cB (aa (ae 2) ah)) ah)))))) ah)))))))
def fI:List D->Option D:=bN mz 3
def jc:au->Option Out:=(aA (bf 1 [] (cC ah)) (aA (mI [0] (sN (aa (ae 0) ah)) (AZ 2 3) (oV 1 [2,3] (az 1 [2] (aH (f2 bz (ae 3) (fC (.int 1)))) (fG 0) (λ_=>some true) (bT (aa (ae 1) (aa (ae 0) ah)))))) (bh (ae 1))))
def bG:List D->Option D:=bN jc 4
def gP:au->Option Out:=(aA (iW (d5 (cq (fB (ai 3 cM (aa (ae 0) (aa (fC (.int 3)) (aa (fC (.int 3)) ah)))))) (cq (fB (ai 3 fI (aa (f2 bz (ae 0) (fC (.int 0))) (aa (f2 bz (ae 0) (fC (.int 1))) (aa (f2 bz (ae 0) (fC (.int 2))) ah))))))) (bh (fC (.bool false))) hV) (aA (bf 1 [0] (az 1 [] (aH (f2 bz (ae 0) (fC (.int 2)))) (fG 0) (λ_=>some true) (bT (aa (f2 bz (ae 0) (fC (.int 0))) (aa (f2 bz (ae 0) (fC (.int 1))) ah))))) (aA (bf 2 [0] (f7 fv (aa (ai 1 bG (aa (f2 bz (ae 0) (fC (.int 0))) ah)) ah))) (aA (bf 3 [0] (f7 fv (aa (bI (az 2 [] (aH (ai 1 bG (aa (f2 bz (ae 0) (fC (.int 1))) ah))) (Fg 0 1) (λ_=>some true) (bT (aa (ae 1) (aa (ae 0) ah))))) ah))) (bh (oX (f2 cc (ae 1) (ae 2)) (f2 cc (ae 1) (ae 3))))))))
def aV:List D->Option D:=bN gP 4
def dG:au->Option Out:=(iW (cq (fB (ai 1 aV (aa (ae 0) ah)))) Jo hV)
def fP:List D->Option D:=bN dG 1
def cx:au->Option Out:=(iW (cq (fB (ai 3 bJ (aa (ae 0) (aa (ae 1) (aa (ae 2) ah)))))) Jo hV)
def fR:List D->Option D:=bN cx 3
def bZ:au->Option Out:=(u9 (ai 3 fR (aa (ae 0) (aa (fC (.int 0)) (aa (f2 Dl.mO (ae 1) (fC (.int 1))) ah)))))
def eI:List D->Option D:=bN bZ 2
def d6:au->Option Out:=(u9 (ai 2 eI (aa (ae 0) (aa (fC (.int 2)) ah))))
def kr:List D->Option D:=bN d6 1
def iw:au->Option Out:=(aA (iW (fB (f2 cc (ae 0) (bI (cC ah)))) (bh (f2 i8 (fC (.int 7)) (ae 1))) hV) (bh (f2 aK (f2 bz (ae 0) (f2 jm (ae 1) (aY cB (aa (ae 0) ah)))) (f2 i8 (fC (.int 6553)) (f2 lG (ae 1) (aY cB (aa (ae 0) ah)))))))
def dJ:List D->Option D:=bN iw 2
def j7:au->Option Out:=(aA (aS 3 [0,1] (f2 jm (f2 aK (f2 i8 (f2 jm (ai 2 dJ (aa (ae 0) (aa (ae 1) ah))) (fC (.int 2147483563))) (fC (.int 69069))) (f2 i8 (fC (.int 104723)) (f2 aK (ae 1) (fC (.int 1))))) (fC (.int 2147483563)))) (aA (aS 3 [3] (f2 jm (f2 aK (f2 i8 (ae 3) (ae 3)) (f2 lG (ae 3) (fC (.int 3)))) (fC (.int 2147483399)))) (bh (f2 jm (f2 lG (f2 jm (f2 aK (f2 i8 (ae 3) (ae 3)) (f2 lG (ae 3) (fC (.int 7)))) (fC (.int 2147483647))) (fC (.int 11))) (ae 2)))))
def ak:List D->Option D:=bN j7 4
end Pg
namespace Zp
open PySem PyProof.Rows
section
variable {z TI TO i j l m:Addr}
end
section
variable {z TI TO i j l m:Addr}
end
end Zp
namespace Dl
open PySem L2 PySem.Spec PyProof.Rows Zp
open PySem L2 PySem.Spec PyProof.Rows
end Dl
namespace HT
open PySem PyProof.Rows
section
open PySem.SeqAt
open PySem.AutoSeq1 (wpAny_loadPart')
open PySem.MeetsSeq PySem.MeetsSeq2 PySem.MeetsSeq3
end
end HT
namespace Dl
open PySem L2 PySem.Spec PyProof.Rows
structure Qj(h:Heap)(v:Value)(r:List Int):Prop where
 ex:∃ (a:Addr) (o:Obj) (n:Nat) (p:Value) (x y:Int) (t u:Tok) (ns:List Int),v=.ref a/\r=x::y::ns/\h.get? a=some o/\o.cls=.type "tuple"/\o.data=.seq #[.int x t,.int y u,p] n/\qx h p ns
inductive Os{α:Type}(X:Cx)(R:Addr->α->Prop):List Expr->List α->List V->Prop
 | nil:Os X R [] [] []
 | cons {x:Str}{p:Pos}{m:α}{f:Addr}{es:List Expr}{ms:List α}{vs:List V}(hg:Gl X x) (hm:X.mg x=some (.ref f)) (hd:(x == ("__debug__":Str))=false) (r:R f m) (t:Os X R es ms vs):Os X R (.Name x p::es) (m::ms) (.ref f::vs)
end Dl
namespace Pg
open PySem L2 Dl PySem.Spec PyProof.Rows
open PySem L2 Dl PySem.Spec PyProof.Rows Ex
def oJ:XS:=(Fc (cq (fB (ai 3 bJ (aa (ae 0) (aa (ae 1) (aa (ae 2) ah)))))) (LX "NoPlace") rS)
def ja:List D->Option Str:=mP oJ 3
def mL:XS:=(ou (m8 3 ja (aa (ae 0) (aa (fC (.int 0)) (aa (f2 Dl.mO (ae 1) (fC (.int 1))) ah)))))
def iD:List D->Option Str:=mP mL 2
def o5:XS:=(ou (m8 2 iD (aa (ae 0) (aa (fC (.int 2)) ah))))
def qh:List D->Option Str:=mP o5 1
open PySem L2 Dl Ex Rf PySem.Spec PyProof.Rows
def gY:au->Option Out:=(bh (f2 il (fC (.str "")) (bI (az 1 [] (aH (ae 0)) (fG 0) (λ_=>some true) (f2 d0 (ae 0) (fC (.str "\n")))))))
def cW:List D->Option D:=bN gY 1
def jq:au->Option Out:=(aA (aS 1 [0] (bI (dv aR (ae 0) (fC (.str "\n"))))) (aA (iW (fB (f2 cS (f2 bz (ae 1) (f1 gx (fC (.int 1)))) (fC (.str "")))) Jo hV) (bh (aP aI (ae 1) aJ (cm (f1 gx (fC (.int 1))))))))
def cD:List D->Option D:=bN jq 2
def dR:XS:=(rF (aS 1 [0] (bI (dv aR (ae 0) (fC (.str "\n"))))) (Fc (fB (f2 cS (f2 bz (ae 1) (f1 gx (fC (.int 1)))) (fC (.str "")))) (LX "NoText") rS))
def gM:List D->Option Str:=mP dR 2
def pP:au->Option Out:=(bh (f2 il (fC (.str " ")) (bI (az 1 [] (aH (ae 0)) (fG 0) (λ_=>some true) (aY lD (aa (ae 0) ah))))))
def dk:List D->Option D:=bN pP 1
def ig:au->Option Out:=(aA (iW (d5 (fB (f2 cS (aY ft (aa (ae 0) ah)) (fC (.int 1)))) (fB (f2 (λx y=>(rE x y).map PyData.bool) (ae 0) (fC (.str "0123456789"))))) Jo hV) (bh (f2 nV (fC (.str "0123456789")) (ae 0))))
def bM:List D->Option D:=bN ig 1
def qk:XS:=(Fc (d5 (fB (f2 cS (aY ft (aa (ae 0) ah)) (fC (.int 1)))) (fB (f2 (λx y=>(rE x y).map PyData.bool) (ae 0) (fC (.str "0123456789"))))) (LX "NoText") rS)
def dQ:List D->Option Str:=mP qk 1
def gL:au->Option Out:=(bh (aY aU (aa (bI (az 1 [] (aH (ae 0)) (fG 0) (λ_=>some true) (ai 1 bM (aa (ae 0) ah)))) ah)))
def bb:List D->Option D:=bN gL 1
def o4:XS:=(ou (fN 1 [] (aH (ae 0)) (fG 0) (λ_=>some true) (ai 1 bM (aa (ae 0) ah)) (m8 1 dQ (aa (ae 0) ah))))
def dm:List D->Option Str:=mP o4 1
def nW:au->Option Out:=(bh (ai 1 dk (aa (bI (dv b8 (bI (cC (aa (ae 0) (aa (f2 bz (ae 1) (fC (.int 0))) ah)))) (bI (f7 cf (aa (f2 bz (ae 1) (fC (.int 1))) ah))))) ah)))
def cg:List D->Option D:=bN nW 2
def dX:au->Option Out:=(aA (bf 1 [0] (az 1 [] (aH (f2 bz (ae 0) (fC (.int 0)))) (fG 0) (λ_=>some true) (ai 2 cg (aa (fC (.str "give")) (aa (ae 0) ah))))) (aA (oV 1 [0] (az 1 [] (aH (f2 bz (ae 0) (fC (.int 1)))) (fG 0) (λ_=>some true) (ai 2 cg (aa (fC (.str "take")) (aa (ae 0) ah))))) (aA (oV 1 [0] (az 1 [] (aH (f2 bz (ae 0) (fC (.int 2)))) (fG 0) (λ_=>some true) (ai 1 dk (aa (bI (dv b8 (bI (cC (aa (fC (.str "way")) ah))) (bI (f7 cf (aa (ae 0) ah))))) ah)))) (bh (ai 1 cW (aa (ae 1) ah))))))
def br:List D->Option D:=bN dX 2
def kn:au->Option Out:=(aA (u9 (ai 1 fP (aa (ae 0) ah))) (bh (ai 1 br (aa (ae 0) ah))))
def d8:List D->Option D:=bN kn 1
def gm:au->Option Out:=(aA (bf 2 [0] (az 1 [] (aH (ae 0)) (fG 0) (λ_=>some true) (bI (dv aR (ae 0) (fC (.str " ")))))) (bh (bI (az 1 [1] (aH (ae 2)) (fG 0) (fB (f2 cc (f2 bz (ae 0) (fC (.int 0))) (ae 1))) (ai 1 bb (aa (aP aI (ae 0) (cm (fC (.int 1))) aJ) ah))))))
def aQ:List D->Option D:=bN gm 3
def eM:XS:=(rF (bf 2 [0] (az 1 [] (aH (ae 0)) (fG 0) (λ_=>some true) (bI (dv aR (ae 0) (fC (.str " ")))))) (ou (fN 1 [1] (aH (ae 2)) (fG 0) (fB (f2 cc (f2 bz (ae 0) (fC (.int 0))) (ae 1))) (ai 1 bb (aa (aP aI (ae 0) (cm (fC (.int 1))) aJ) ah)) (m8 1 dm (aa (aP aI (ae 0) (cm (fC (.int 1))) aJ) ah)))))
def dy:List D->Option Str:=mP eM 3
def gc:au->Option Out:=(bh (aY aU (aa (bI (az 1 [] (aH (ai 2 aQ (aa (ae 0) (aa (ae 1) ah)))) (fG 0) (fB (f2 KJ (aY cB (aa (ae 0) ah)) (fC (.int 0)))) (bT (aa (f2 bz (ae 0) (fC (.int 0))) (aa (aP aI (ae 0) (cm (fC (.int 1))) aJ) ah))))) ah)))
def aG:List D->Option D:=bN gc 2
def vi:XS:=(ou (m8 2 dy (aa (ae 0) (aa (ae 1) ah))))
def cP:List D->Option Str:=mP vi 2
def cL:au->Option Out:=(aA (aS 1 [0] (ai 1 cD (aa (ae 0) ah))) (aA (aS 2 [1] (bT (aa (ai 2 aG (aa (ae 1) (aa (fC (.str "give")) ah))) (aa (ai 2 aG (aa (ae 1) (aa (fC (.str "take")) ah))) (aa (aY aU (aa (ai 2 aQ (aa (ae 1) (aa (fC (.str "way")) ah))) ah)) ah))))) (aA (iW (d5 (cq (fB (ai 1 aV (aa (ae 2) ah)))) (fB (f2 cS (ai 1 br (aa (ae 2) ah)) (ae 0)))) Jo hV) (bh (ae 2)))))
def bC:List D->Option D:=bN cL 3
def bQ:XS:=(kz (ou (m8 1 gM (aa (ae 0) ah))) (aS 1 [0] (ai 1 cD (aa (ae 0) ah))) (kz (ou (gT [((ai 2 aG (aa (ae 1) (aa (fC (.str "give")) ah))),some (m8 2 cP (aa (ae 1) (aa (fC (.str "give")) ah)))),((ai 2 aG (aa (ae 1) (aa (fC (.str "take")) ah))),some (m8 2 cP (aa (ae 1) (aa (fC (.str "take")) ah)))),((aY aU (aa (ai 2 aQ (aa (ae 1) (aa (fC (.str "way")) ah))) ah)),some (m8 2 dy (aa (ae 1) (aa (fC (.str "way")) ah))))])) (aS 2 [1] (bT (aa (ai 2 aG (aa (ae 1) (aa (fC (.str "give")) ah))) (aa (ai 2 aG (aa (ae 1) (aa (fC (.str "take")) ah))) (aa (aY aU (aa (ai 2 aQ (aa (ae 1) (aa (fC (.str "way")) ah))) ah)) ah))))) (Fc (d5 (cq (fB (ai 1 aV (aa (ae 2) ah)))) (fB (f2 cS (ai 1 br (aa (ae 2) ah)) (ae 0)))) (LX "NoText") rS)))
def d7:List D->Option Str:=mP bQ 3
def iB:au->Option Out:=(aA (aS 2 [0,1] (f2 aK (fC (.int 1)) (ai 3 ak (aa (ae 0) (aa (ae 1) (aa (fC (.int 4)) ah)))))) (aA (aS 3 [0,1] (f2 aK (fC (.int 1)) (ai 3 ak (aa (ae 0) (aa (f2 aK (ae 1) (fC (.int 1))) (aa (fC (.int 4)) ah)))))) (aA (bf 4 [] (cC ah)) (aA (mI [2,3] (fK (aa (f2 i8 (ae 2) (ae 3)) ah)) (uz 5) (iW (fB (f2 cc (ai 3 ak (aa (ae 0) (aa (f2 aK (f2 aK (ae 1) (fC (.int 2))) (ae 5)) (aa (fC (.int 2)) ah)))) (fC (.int 0)))) (j1 4 [0,1,3,5] (bT (aa (f2 lG (ae 5) (ae 3)) (aa (f2 jm (ae 5) (ae 3)) (aa (f2 aK (fC (.int 1)) (ai 3 ak (aa (ae 0) (aa (f2 aK (f2 aK (ae 1) (fC (.int 20))) (ae 5)) (aa (fC (.int 9)) ah))))) ah))))) hV)) (aA (bf 6 [] (cC ah)) (aA (mI [2] (fK (aa (ae 2) ah)) (uz 7) (aA (aS 8 [4,7] (aY aU (aa (bI (az 1 [7] (aH (ae 4)) (fG 0) (fB (f2 cc (f2 bz (ae 0) (fC (.int 0))) (ae 1))) (f2 bz (ae 0) (fC (.int 1))))) ah))) (aA (aS 9 [0,1,7,8] (ai 3 ak (aa (ae 0) (aa (f2 aK (f2 aK (ae 1) (fC (.int 40))) (ae 7)) (aa (f2 aK (aY cB (aa (ae 8) ah)) (fC (.int 1))) ah))))) (j1 6 [0,1,7,8,9] (bT (aa (ai 3 ak (aa (ae 0) (aa (f2 aK (f2 aK (ae 1) (fC (.int 44))) (ae 7)) (aa (fC (.int 10)) ah)))) (aa (f2 aK (aP aI (ae 8) (cm (ae 9)) aJ) (f1 uR (aP aI (ae 8) aJ (cm (ae 9))))) ah))))))) (aA (bf 10 [] (cC ah)) (aA (mI [3] (fK (aa (ae 3) ah)) (uz 11) (aA (aS 8 [4,11] (aY aU (aa (bI (az 1 [11] (aH (ae 4)) (fG 0) (fB (f2 cc (f2 bz (ae 0) (fC (.int 1))) (ae 1))) (f2 bz (ae 0) (fC (.int 0))))) ah))) (aA (aS 9 [0,1,8,11] (ai 3 ak (aa (ae 0) (aa (f2 aK (f2 aK (ae 1) (fC (.int 50))) (ae 11)) (aa (f2 aK (aY cB (aa (ae 8) ah)) (fC (.int 1))) ah))))) (j1 10 [0,1,8,9,11] (bT (aa (ai 3 ak (aa (ae 0) (aa (f2 aK (f2 aK (ae 1) (fC (.int 54))) (ae 11)) (aa (fC (.int 10)) ah)))) (aa (f2 aK (aP aI (ae 8) (cm (ae 9)) aJ) (f1 uR (aP aI (ae 8) aJ (cm (ae 9))))) ah))))))) (bh (bT (aa (aY aU (aa (ae 6) ah)) (aa (aY aU (aa (ae 10) ah)) (aa (aY aU (aa (ae 4) ah)) ah)))))))))))))
def fg:List D->Option D:=bN iB 12
def dS:au->Option Out:=(aA (sC (bh (ai 1 bC (aa (ae 0) ah))) (ou (m8 1 d7 (aa (ae 0) ah))) (FK ["NoText","NoWorld","NoPlan"] [true,false,false])) (bh (fC (.bool false))))
def aX:List D->Option D:=bN dS 3
def eO:au->Option Out:=(aA (qv 1 (cC ah) (cC ah) (cC ah)) (aA (aS 2 [] (fC (.int 0))) (aA (aS 3 [0] (bI (dv aR (ae 0) (fC (.str "\n"))))) (aA (mI [3] (aH (aP aI (ae 3) aJ (cm (f1 gx (fC (.int 1)))))) (uz 4) (aA (aS 5 [4] (bI (dv aR (ae 4) (fC (.str " "))))) (aA (iW (d5 (fB (f2 uv (f2 bz (ae 5) (fC (.int 0))) (bT (aa (fC (.str "give")) (aa (fC (.str "take")) (aa (fC (.str "way")) ah)))))) (fB (f2 tm (aY cB (aa (ae 5) ah)) (fC (.int 2))))) (bh (fC .none)) hV) (aA (aS 6 [5] (f2 tZ (bT (aa (fC (.str "give")) (aa (fC (.str "take")) (aa (fC (.str "way")) ah)))) (f2 bz (ae 5) (fC (.int 0))))) (aA (iW (fB (f2 tm (ae 6) (ae 2))) (bh (fC .none)) hV) (aA (iW (fB (f2 cS (bI (az 1 [] (aH (aP aI (ae 5) (cm (fC (.int 1))) aJ)) (fG 0) (d5 (fB (f2 cS (aY ft (aa (ae 0) ah)) (fC (.int 1)))) (fB (f2 (λx y=>(rE x y).map PyData.bool) (ae 0) (fC (.str "0123456789"))))) (ae 0))) (bI (cC ah)))) (bh (fC .none)) hV) (aA (aS 2 [6] (ae 6)) (aA (aS 7 [5] (aY aU (aa (bI (az 1 [] (aH (aP aI (ae 5) (cm (fC (.int 1))) aJ)) (fG 0) (λ_=>some true) (aY nr (aa (ae 0) ah)))) ah))) (aA (iW (fB (f2 tm (ae 6) (fC (.int 2)))) (aS 7 [7] (bT (aa (f2 bz (ae 7) (fC (.int 0))) (aa (aP aI (ae 7) (cm (fC (.int 1))) aJ) ah)))) hV) (pF 1 (ae 6) (ae 7))))))))))) (aA (aS 8 [1] (aY aU (aa (bI (az 1 [] (aH (ae 1)) (fG 0) (λ_=>some true) (aY aU (aa (ae 0) ah)))) ah))) (bh (Jl (oA (fB (f2 cc (f2 bz (ae 3) (f1 gx (fC (.int 1)))) (fC (.str "")))) (fB (ai 1 aV (aa (ae 8) ah)))) (ae 8) (fC .none))))))))
def bp:List D->Option D:=bN eO 9
abbrev pI:List Str:=["_law_script","_law_world","_law_text","_law_at","_law_sign","_law_texts","_law_lines","_law_to","_law_exchanged","_law_k","_law_line","_law_other"]
def iQ:au->Option Out:=(aA (aS 1 [0] (ai 2 fg (aa (ae 0) (aa (fC (.int 0)) ah)))) (aA (aS 2 [1] (ai 1 d8 (aa (ae 1) ah))) (aA (aS 3 [0,2] (ai 3 ak (aa (ae 0) (aa (fC (.int 70)) (aa (f2 aK (aY ft (aa (ae 2) ah)) (fC (.int 1))) ah))))) (aA (aS 4 [0] (f2 Bu (fC (.str "0123 \nag-")) (ai 3 ak (aa (ae 0) (aa (fC (.int 71)) (aa (fC (.int 9)) ah)))))) (aA (bf 5 [2,3,4] (cC (aa (ae 2) (aa (f2 d0 (aP d4 (ae 2) aJ (cm (ae 3))) (aP d4 (ae 2) (cm (f2 aK (ae 3) (fC (.int 1)))) aJ)) (aa (f2 d0 (aP d4 (ae 2) aJ (cm (f2 aK (ae 3) (fC (.int 1))))) (aP d4 (ae 2) (cm (ae 3)) aJ)) (aa (f2 d0 (f2 d0 (aP d4 (ae 2) aJ (cm (ae 3))) (ae 4)) (aP d4 (ae 2) (cm (f2 aK (ae 3) (fC (.int 1)))) aJ)) ah)))))) (aA (bf 5 [2,3,4,5] (dv b8 (ae 5) (bI (cC (aa (f2 d0 (f2 d0 (aP d4 (ae 2) aJ (cm (ae 3))) (ae 4)) (aP d4 (ae 2) (cm (ae 3)) aJ)) (aa (fC (.str "")) (aa (fC (.str "give 0\ntake 0\n")) ah))))))) (aA (bf 5 [5] (dv b8 (ae 5) (bI (cC (aa (fC (.str "give\ntake 0\n")) (aa (fC (.str "give 0\ntake 0\nway 0 0\n")) ah)))))) (aA (aS 6 [2] (bI (dv aR (ae 2) (fC (.str "\n"))))) (aA (aS 7 [0,6] (ai 3 ak (aa (ae 0) (aa (fC (.int 72)) (aa (aY cB (aa (ae 6) ah)) ah))))) (aA (bf 5 [5,6,7] (dv b8 (ae 5) (bI (cC (aa (f2 il (fC (.str "\n")) (bI (dv b8 (aP aI (ae 6) aJ (cm (ae 7))) (aP aI (ae 6) (cm (f2 aK (ae 7) (fC (.int 1)))) aJ)))) (aa (f2 il (fC (.str "\n")) (bI (dv b8 (aP aI (ae 6) aJ (cm (f2 aK (ae 7) (fC (.int 1))))) (aP aI (ae 6) (cm (ae 7)) aJ)))) ah)))))) (aA (bf 8 [6,7] (dv b8 (bI (dv b8 (aP aI (ae 6) aJ (cm (ae 7))) (f1 zl (aP aI (ae 6) (cm (ae 7)) (cm (f2 aK (ae 7) (fC (.int 2)))))))) (aP aI (ae 6) (cm (f2 aK (ae 7) (fC (.int 2)))) aJ))) (aA (bf 5 [2,5,8] (dv b8 (ae 5) (bI (cC (aa (f2 il (fC (.str "\n")) (ae 8)) (aa (f2 d0 (ae 2) (fC (.str "way 0 0 1\n"))) (aa (aP d4 (ae 2) aJ (cm (f1 gx (fC (.int 1))))) ah))))))) (aA (mI [6] (fK (aa (f2 Dl.mO (aY cB (aa (ae 6) ah)) (fC (.int 1))) ah)) (uz 9) (aA (aS 10 [0,6,9] (f2 d0 (aP d4 (f2 bz (ae 6) (ae 9)) aJ (cm (f1 gx (fC (.int 1))))) (aY lD (aa (ai 3 ak (aa (ae 0) (aa (f2 aK (fC (.int 80)) (ae 9)) (aa (fC (.int 10)) ah)))) ah)))) (j1 5 [6,9,10] (f2 il (fC (.str "\n")) (bI (dv b8 (bI (dv b8 (aP aI (ae 6) aJ (cm (ae 9))) (bI (cC (aa (ae 10) ah))))) (aP aI (ae 6) (cm (f2 aK (ae 9) (fC (.int 1)))) aJ))))))) (aA (mI [5] (aH (ae 5)) (uz 11) (iW (fB (f2 cS (ai 1 aX (aa (ae 11) ah)) (ai 1 bp (aa (ae 11) ah)))) (bh (fC (.bool false))) hV)) (bh (f2 cc (ai 1 bp (aa (ae 2) ah)) (ae 1)))))))))))))))))
def eB:List D->Option D:=bN iQ 12
end Pg
namespace K81
open PySem L2 Dl PySem.Spec PyProof.Rows
open Pg Ex Rg
abbrev PJ:List Str:=["NoText"]
abbrev gi:List (Str×D):=[("MOST_PLACES",.int 4),("MOST",.int 9),("DIGITS",.str "0123456789")]
abbrev Ls:FT:=("_law_due",1,bp)::("_law_told",1,aX)::("_law_wide",2,fg)::("_law_drawn",3,ak)::("_law_cell",2,dJ)::("read_world",1,bC)::("ends_of",2,aG)::("rows_of",2,aQ)::("world_text",1,d8)::("written_world",1,br)::("end_line",2,cg)::("numbers_of",1,bb)::("number_of",1,bM)::("line_of",1,dk)::("lines_of",1,cD)::("text_of_lines",1,cW)::("check_world",1,fP)::("is_world",1,aV)::("liked_pairs",1,bG)::("are_parts",3,fI)::("is_way",3,iJ)::("is_end",2,eF)::("are_likes",2,fF)::("is_long",3,cM)::("is_number",2,cH)::("is_whole",3,bJ)::[]
abbrev Xs:XT:=("read_world",1,d7)::("ends_of",2,cP)::("rows_of",2,dy)::("numbers_of",1,dm)::("number_of",1,dQ)::("lines_of",1,gM)::[]
def Ma:Rf.tW (top 37) pI ⟨Ls,gi⟩ none=some iQ:=by kernel_rfl
structure KI(K:W.Frag)(mg:Str->Option Value):Prop where
 o:∀P w base,Ok P w K mg base gi PJ 26 Ls Xs
 c:AD K mg "law" (top 37) ["_law_script"]
def Ly{P:Program}{w:World}{K:W.Frag}{mg:Str->Option Value}{fa:Addr}(D:KI K mg)(X5:mg "law"=some (.ref fa)):∃fd:FuncData,(∀ (s:Shared) (v:Value),BindsTo s fd ⟨[v],[]⟩ [("_law_script",v)])/\∀base:Heap,K.In base->base.Ns mainGlobals mg->mH P w K mg base Ie 27 fa fd ["_law_script"] (Nm K 1 eB):=by
 let⟨f,fd,hm,F,hb⟩:=D.c.ex;rw[X5] at hm;cases hm;refine⟨fd,λs v=>?_,λbase _ _=>HV F (Rf.O0 (N:=pI)) λX hP hw hK RE RN C _ _ HF H=>by subst hP;subst hw;subst hK;subst RE;subst RN;have o:=D.o X.prog X.w X.base;exact Rf.HX C o.ob o.of o.oi Ma⟩;let⟨oc,od,kV,doc,pm,an,QU,ct,SR,rfl,lk,Q8⟩:=F.ex;exact .of_eq rfl
def walk{l:W.OpenLaw}{q:Program}{loose:List Str}{XP:(Str->Option Value)->Heap->Prop}{YP:World->Heap->Prop}{d:DefRec}{K:Params->W.Frag}{ts:List Addr}(hn:l.most=some 63)(VB:d.params.defaults=[])(Wc:d.name="law")
  (hY:∀ (w:World) (h:Heap),YP w h->(K w.params).In h/\∀P∈ts,h.get? P=some (W.tabObj #[])) (ht:∀w:World,lu (K w.params) ts=true) (hI:∀ (w:World) {h:Heap}{mg:Str->Option Value},(K w.params).In h->h.Ns mainGlobals mg->KI (K w.params) mg) (main:∀ns:List Int,ns.length<=63->eB [.list (ns.map PyData.int)]=some (.bool true)) :
  W.WalkO q loose XP YP l.row.toRowW d [] (λf vs=>PySem.call f vs) :=
 DY (n:=63) (k:=27) (x:="_law_script") (CX:=λ_=>Ie) (sp:=λw=>Nm (K w.params) 1 eB) hn (by decide) VB ⟨rfl,by decide,by decide⟩ hY ht (λw mg fa h KX G VC=>Ly (hI w KX G) (by rw[<- Wc];exact VC)) (λ_ _ a ns hl hT hS=>vt hS hT (main ns hl)) λ_ _ _ _ _ z=>z
end K81
namespace Dl
open PySem L2 PySem.Spec PyProof.Rows
def sP:D->Prop|.none=>True|.bool _=>True|.int _=>True|.str x=>PyData.canLay0 (.str x)=true|_=>False
def fS(b:Nat):Nat->D->Prop
 | 0,d=>sP d
 | k+1,d=>sP d\/(∃xs,(d=.list xs\/d=.tuple xs)/\xs.length<=b/\∀x∈xs,fS b k x)
def fS.leaf(h:sP d):fS b k d:=by
 cases k with
 | zero=>exact h
 | succ k=>exact .inl h
def fS.tup(hb:xs.length<=b)(h:∀x∈xs,fS b k x):fS b (k+1) (.tuple xs):=.inr ⟨xs,.inr rfl,hb,h⟩
def fS.lst(hb:xs.length<=b)(h:∀x∈xs,fS b k x):fS b (k+1) (.list xs):=.inr ⟨xs,.inl rfl,hb,h⟩
def fS.QQ(h:fS b k (.tuple xs)):∃j,k=j+1/\xs.length<=b/\∀x∈xs,fS b j x:=by
 cases k with
 | zero=>cases h
 | succ k =>
  rcases h with h|⟨ys,h|h,h1,h2⟩
  ·cases h
  ·cases h
  ·cases h;exact⟨k,rfl,h1,h2⟩
def fS.mono(hb:b<=b'):∀ {k k':Nat}{d:D},k<=k'->fS b k d->fS b' k' d
 | 0,k',d,_,h=>.leaf h
 | k+1,0,d,hk,h=>by lia
 | k+1,k'+1,d,hk,h=>by
  rcases h with h|⟨xs,h,h1,h2⟩
  ·exact .inl h
  ·exact .inr ⟨xs,h,yA h1 hb,λx hx=>(h2 x hx).mono hb (by lia)⟩
def z8{b:Nat}:∀ {xs:List D},(∀x∈xs,PyData.canLay0 x=true/\x.depth<=k)->PyData.canLayAll0 xs=true/\PyData.depthAll xs<=k
 | [],_=>⟨by simp[PyData.canLayAll0],by simp[PyData.depthAll]⟩
 | x::xs,h=>by
  let⟨a,c⟩:=z8 (b:=b) (xs:=xs) λy hy=>h y (zC _ hy);let⟨a',c'⟩:=h x zE;exact⟨by simp[PyData.canLayAll0,a,a'],by simp[PyData.depthAll];lia⟩
def fS.lay:∀ {k:Nat}{d:D},fS b k d->PyData.canLay0 d=true/\d.depth<=k:=by
 have lf:∀ {k:Nat}{d:D},sP d->PyData.canLay0 d=true/\d.depth<=k:=λ{k d} h=>by
  cases d<;>simp?[sP] at h<;>first|exact⟨h,by simp[PyData.depth]⟩|exact⟨by simp[PyData.canLay0],by simp[PyData.depth]⟩
 intro k
 induction k with
 | zero=>exactλh=>lf h
 | succ k ih =>
  intro d h;rcases h with h|⟨xs,h,h1,h2⟩
  ·exact lf h
  ·let⟨a,c⟩:=z8 (b:=b) (xs:=xs) λy hy=>ih (h2 y hy);rcases h with rfl|rfl
   ·exact⟨by simp[PyData.canLay0,a],by simp[PyData.depth];lia⟩
   ·exact⟨by simp[PyData.canLay0,a],by simp[PyData.depth];lia⟩
def fS.shaped(h:fS b k d)(hk:k<=64):SeqAt.shaped d=true:=by
 let⟨a,c⟩:=h.lay;simp[SeqAt.shaped,a];lia
def fS.noDict(h:fS b k d):∀kv,d≠.dict kv:=by
 rintro kv rfl;have:=h.lay.1;simp[PyData.canLay0] at this
def k9:D->Bool|.dict _=>false|_=>true
def fS.nd(h:fS b k d):k9 d=true:=by
 cases d<;>first|rfl|exact absurd rfl (h.noDict _)
def Pr:D->Bool|.int _=>true|.bool _=>true|_=>false
def O9:D->Bool|.bool _=>true|_=>false
def IU:D->Bool|.tuple _=>true|_=>false
def kI(h:k9 d=true):qy (fO d) "int"=some (Pr d):=by cases d<;>first|cases h;done|exact Hx _ (by simp[fO])
def kB(h:k9 d=true):qy (fO d) "bool"=some (O9 d):=by cases d<;>first|cases h;done|exact EW _ (by simp[fO])
def kT(h:k9 d=true):qy (fO d) "tuple"=some (IU d):=by cases d<;>first|cases h;done|exact kit_tuple _ (by simp[fO])
def whole(a b:Int):D->Bool|.int i=>decide (a<=i)&&decide (i<=b)|_=>false
def p9:∀ {ds:List D},(∀d∈ds,∃ρ',tgt ρ d=some ρ'/\te ρ'=some (h d))->cw tgt (λ_=>some true) te ρ ds=some (ds.map h)
 | [],_=>rfl
 | d::ds,hh=>by
  let⟨ρ',h1,h2⟩:=hh d zE;have ih:=p9 (ds:=ds) λy hy=>hh y (zC _ hy);unfold cw;rw[h1];simp[h2,ih]
def jx:∀ {ds:List D},(∀d∈ds,∃ρ',tgt ρ d=some ρ'/\tt ρ'=some (p d)/\(p d=true->te ρ'=some (h d)))->cw tgt tt te ρ ds=some ((ds.filter p).map h)
 | [],_=>rfl
 | d::ds,hh=>by
  let⟨ρ',h1,h2,h3⟩:=hh d zE;have ih:=jx (ds:=ds) λy hy=>hh y (zC _ hy);unfold cw;rw[h1];simp?[zA,h2];cases hp:p d with
  | true=>rw[yH rfl,h3 hp];simp[ih,jP,hp]
  | false=>simp[ih,jP,hp]
def ma:∀ds:List D,boolsOf (ds.map λd=>.bool (p d))=some (ds.map p)
 | []=>rfl
 | d::ds=>by simp[boolsOf,ma ds]
def ke(ds:List D):tR [.list (ds.map λd=>.bool (p d))]=some (.bool (ds.all p)):=by
 simp?[tR,oneOf,zA,ma,zB,List.all_map];rfl
def bA(h:ds.length<=4000):small ds=some ds:=yH (yA h (by decide))
def kb{ds:List D}{i:Nat}(h:i < ds.length):jh ds (i:Nat)=some (ds.getD i .none):=by
 have:=rV (xs:=ds) (j:=i) (v:=ds[i]) (List.getElem?_eq_some_iff.mpr ⟨h,rfl⟩);rw[this];simp[List.getD,h]
def yz{ds:List D}(h:0 < ds.length):jh ds 0=some (ds.getD 0 .none):=kb (i:=0) h
def tK{ds:List D}(h:1 < ds.length):jh ds 1=some (ds.getD 1 .none):=kb (i:=1) h
def HW{ds:List D}(h:2 < ds.length):jh ds 2=some (ds.getD 2 .none):=kb (i:=2) h
end Dl
namespace Wm
open PySem L2 Dl PySem.Spec PyProof.Rows Pg
variable {x8 x9:Slot}{xh:au->Option Str}{A B C:List (List Nat)}
def uo(ha:fa ρ=some (.int a))(hb:fb ρ=some (.int i))(hc:fc ρ=some (.int b)):iE ER ER fa fb fc ρ=some (.bool (decide (a<=i)&&decide (i<=b))):=by
 simp?[iE,ha,hb,hc,zA,ER,sx,xD];by_cases h:a<=i<;>simp[h]
def nq(i j:Int):Dl.mO (.int i) (.int j)=some (.int (i - j)):=rfl
def aN(i j:Int):Dl.aK (.int i) (.int j)=some (.int (i+j)):=rfl
def yj(d:D):Slot.all (.val d)=some d:=rfl
def Ap(ds:List D):Slot.all (.own ds)=some (.list ds):=rfl
def z6:Slot.all .Qo=none:=rfl
def xl(d:D):Slot.QY (.val d)=some d:=rfl
def yp(ds:List D):Slot.QY (.own ds)=none:=rfl
def Ad:Slot.QY .Qo=none:=rfl
local macro_rules|`(tactic| simp! [$ts,*])=>`(tactic| simp only[bN,aA,iW,bh,hV,d5,oA,cq,fB,gB,Iz,ae,fC,oX,OA,Ov,MP,f1,f2,nq,aN,aa,ah,ai,aY,f7,cB,cf,oneOf,gV,aL,yj,Ap,z6,xl,yp,Ad,aH,bI,aU,bT,cC,bz,  zI,yQ,xB,xJ,zL,xG,List.replicate,xM,yU,qD,jX,zA,Option.bind_none,zB,Option.map_none,Nat.reduceAdd,Nat.reduceSub,qY,Nat.sub_self,xD,reduceIte,$ts,*])
def eV(h:k9 d=true)(a b:Int):bJ [d,.int a,.int b]=some (.bool (whole a b d)):=by
 simp! [bJ,nS,kI h,kB h];cases d<;>simp[Pr,O9,whole];rw[uo rfl rfl rfl]
def ir(h:k9 d=true)(n:Int):cH [d,.int n]=some (.bool (whole 0 (n - 1) d)):=by
 simp! [cH,mD,eV h]
def long(a b:Int):D->Bool|.tuple ds=>decide (a<=(ds.length:Int))&&decide ((ds.length:Int)<=b)|_=>false
def eA(h:k9 d=true)(a b:Int):cM [d,.int a,.int b]=some (.bool (long a b d)):=by
 simp! [cM,pL,kT h];cases d<;>simp[IU,long];rw[uo rfl (i:=_) rfl rfl]
def fT:D->Int|.int i=>i|_=>0
def eD(h:whole a b d=true):d=.int (fT d)/\a<=fT d/\fT d<=b:=by
 cases d<;>simp[whole] at h;exact⟨rfl,h⟩
def jl:∀ {ls:List D},ls.all (whole a b)=true->ls=(ls.map fT).map PyData.int
 | [],_=>rfl
 | d::ls,h=>by
  rw[xP,zF] at h;rw[zI,zI,<- (eD h.1).1,<- jl h.2]
def gy(n:Int):D->Bool|.tuple ls=>ls.all (whole 0 (n - 1))&&decide ((ls.map fT).Nodup)|_=>false
def gw(i j:Int):cc (.int i) (.int j)=some (.bool (decide (i=j))):=by
 simp[cc,GN,SeqAt.shaped,PyData.canLay0,PyData.depth,PyData.eqv];rfl
def BF(h:ls.all (whole a b)=true)(hl:ls.length<=1000):f2 cc (f1 iX (λ_=>some (.tuple ls))) (aY cB (aa (λ_=>some (.tuple ls)) ah)) []=some (.bool (decide ((ls.map fT).Nodup))):=by
 have e:=jl h;have e1:iX (.tuple ls)=some (.int (many (ls.map fT))):=by
  simp?[iX,r8]
  conv=>lhs;rw[e]
  rw[jr,zA,yH];rw[zD];exact Nat.lt_of_le_of_lt (Nat.add_le_add_right hl 1) (by decide)
 simp! [e1,gw];have:=w8 (ls.map fT);rw[zD] at this;simp?[<- this,Int.ofNat_inj,Option.some.injEq,PyData.bool.injEq]
def Fp(r:Dl.Env)(d:D):fG 0 (none::r) d=some (some d::r):=by simp[fG,isFree]
def ej{cs:List Nat}(Rt:fi ρ=some ds)(hl:ds.length<=4000)(hh:∀d∈ds,te (some d::cs.map λj=>(ρ[j]?).getD none)=some (h d)):az 1 cs fi (fG 0) (λ_=>some true) te ρ=some (ds.map h):=by
 simp?[az,Rt,zA,eW,List.replicate,xB,xJ];rw[p9 (h:=h) λd hd=>⟨_,Fp _ d,hh d hd⟩,zA,bA (by rw[zD];exact hl)]
def jv{cs:List Nat}(Rt:fi ρ=some ds)(hl:ds.length<=4000)
  (hp:∀d∈ds,tt (some d::cs.map λj=>(ρ[j]?).getD none)=some (p d)) (hh:∀d∈ds,p d=true->te (some d::cs.map λj=>(ρ[j]?).getD none)=some (h d)):az 1 cs fi (fG 0) tt te ρ=some ((ds.filter p).map h):=by
 simp?[az,Rt,zA,eW,List.replicate,xB,xJ];rw[jx (p:=p) (h:=h) λd hd=>⟨_,Fp _ d,hp d hd,hh d hd⟩,zA,bA (by rw[zD];exact yA (xK _ _) hl)]
def uG(h:fS b k d)(hb:b<=1000)(n:Int):fF [d,.int n]=some (.bool (gy n d)):=by
 simp! [fF,mh,kT h.nd];cases d<;>try (simp[IU,gy];done)
 rename_i ls;let⟨j,rfl,hl,hf⟩:=h.QQ;have c:=ej (cs:=[1]) (fi:=aH (ae 0)) (te:=(ai 2 cH (aa (ae 0) (aa (ae 1) ah)))) (h:=λx=>.bool (whole 0 (n - 1) x)) (ρ:=[some (.tuple ls),some (.int n)]) rfl (by lia) λx hx=>by simp! [ir (hf x hx).nd]
 simp! [IU,xV,yK,c,ke];cases e:ls.all (whole 0 (n - 1)) with
 | false=>simp[gy,e]
 | true =>
  have:=BF e (yA hl hb);simp?[f2,f1,aY,aa,ah,zA,zB] at this;simp! [gy,e,xV,yK,jF];simp?[cB,cf,oneOf,zA,gV,zB] at this;simp! [this]
def placeOk(n:Int):D->Bool|.tuple ds=>decide (ds.length=2)&&(whole 0 9 (ds.getD 0 .none)&&gy n (ds.getD 1 .none))|_=>false
def fV(g t:Int):D->Bool|.tuple ds=>decide (ds.length=3)&&(whole 0 (g - 1) (ds.getD 0 .none)&&(whole 0 (t - 1) (ds.getD 1 .none)&&whole 1 9 (ds.getD 2 .none)))|_=>false
def nB(n:Nat)(ds:List D):long (n:Int) (n:Int) (.tuple ds)=decide (ds.length=n):=by
 simp?[long];by_cases h:ds.length=n
 ·simp[h]
 ·rw[zW h,Bool.and_eq_false_iff,yX,yX];lia
def getD_mem{ds:List D}{i:Nat}(h:i < ds.length):ds.getD i .none∈ds:=by simp[List.getD,h]
def tj{b:Nat}(h:fS b k d)(hb:b<=1000)(n:Int):eF [d,.int n]=some (.bool (placeOk n d)):=by
 simp! [eF,tP,eA h.nd];cases d<;>try (simp[long,placeOk];done)
 rename_i ds;let⟨j,rfl,hl,hf⟩:=h.QQ;rw[show long 2 2 (.tuple ds)=decide (ds.length=2) from nB 2 ds];by_cases e:ds.length=2
 ·have f0:=hf _ (getD_mem (i:=0) (by lia));have f1:=hf _ (getD_mem (i:=1) (by lia));simp! [e,jI,yz (show 0 < ds.length by lia),tK (show 1 < ds.length by lia),eV f0.nd,uG f1 hb,placeOk];cases whole 0 9 (ds.getD 0 .none)<;>simp
 ·simp[e,placeOk]
def Ck{b:Nat}(h:fS b k d)(hb:b<=1000)(g t:Int):iJ [d,.int g,.int t]=some (.bool (fV g t d)):=by
 simp! [iJ,uk,eA h.nd];cases d<;>try (simp[long,fV];done)
 rename_i ds;let⟨j,rfl,hl,hf⟩:=h.QQ;rw[show long 3 3 (.tuple ds)=decide (ds.length=3) from nB 3 ds];by_cases e:ds.length=3
 ·have f0:=hf _ (getD_mem (i:=0) (by lia));have f1:=hf _ (getD_mem (i:=1) (by lia));have S9:=hf _ (getD_mem (i:=2) (by lia));simp! [e,jI,xV,yK,yz (show 0 < ds.length by lia),tK (show 1 < ds.length by lia),HW (show 2 < ds.length by lia),eV S9.nd,ir f0.nd,ir f1.nd,fV];cases whole 0 (g - 1) (ds.getD 0 .none)<;>cases whole 0 (t - 1) (ds.getD 1 .none)<;>simp
 ·simp[e,fV]
def bE:D->List D|.tuple ds=>ds|_=>[]
def lL(d:D):Bool:=long 1 4 d
def fE(g t w:D):Bool:=lL g&&(lL t&&((bE g).all (placeOk (bE t).length)&&((bE t).all (placeOk (bE g).length)&&(IU w&&(bE w).all (fV (bE g).length (bE t).length)))))
def gk(h:long a b d=true):d=.tuple (bE d):=by cases d<;>first|rfl|cases h
def my(hg:fS b k g)(ht:fS b k t)(hw:fS b k w)(hb:b<=1000):fI [g,t,w]=some (.bool (fE g t w)):=by
 simp! [fI,mz,eA hg.nd,eA ht.nd,kT hw.nd];unfold fE lL;cases e1:long 1 4 g with
 | false=>simp
 | true =>
  cases e2:long 1 4 t with
  | false=>simp
  | true =>
   obtain⟨gs,rfl⟩:∃gs,g=.tuple gs:=⟨_,gk e1⟩
   obtain⟨ts,rfl⟩:∃ts,t=.tuple ts:=⟨_,gk e2⟩
   let⟨j,rfl,hgl,hgf⟩:=hg.QQ;let⟨j',hj,htl,htf⟩:=ht.QQ;have c1:=ej (cs:=[1]) (fi:=aH (ae 0)) (te:=(ai 2 eF (aa (ae 0) (aa (aY cB (aa (ae 1) ah)) ah)))) (h:=λx=>.bool (placeOk ts.length x)) (ρ:=[some (.tuple gs),some (.tuple ts),some w]) rfl (by lia) λx hx=>by simp! [tj (hgf x hx) hb]
   have c2:=ej (cs:=[0]) (fi:=aH (ae 1)) (te:=(ai 2 eF (aa (ae 0) (aa (aY cB (aa (ae 1) ah)) ah)))) (h:=λx=>.bool (placeOk gs.length x)) (ρ:=[some (.tuple gs),some (.tuple ts),some w]) rfl (by lia) λx hx=>by simp! [tj (htf x hx) hb]
   simp! [xV,yK,c1,ke,bE,jF];cases e3:gs.all (placeOk ts.length) with
   | false=>simp
   | true =>
    simp! [xV,yK,c2,ke,jF];cases e4:ts.all (placeOk gs.length) with
    | false=>simp
    | true =>
     cases hT:IU w with
     | false=>simp! [xV,yK,kT hw.nd,hT,vD,kE]
     | true =>
     obtain⟨ws,rfl⟩:∃ws,w=.tuple ws:=by cases w<;>first|exact⟨_,rfl⟩|cases hT
     let⟨j2,Zb,VA,hwf⟩:=hw.QQ;have c3:=ej (cs:=[0,1]) (fi:=aH (ae 2)) (te:=(ai 3 iJ (aa (ae 0) (aa (aY cB (aa (ae 1) ah)) (aa (aY cB (aa (ae 2) ah)) ah))))) (h:=λx=>.bool (fV gs.length ts.length x)) (ρ:=[some (.tuple gs),some (.tuple ts),some (.tuple ws)]) rfl (by lia) λx hx=>by simp! [Ck (hwf x hx) hb]
     simp! [xV,yK,c3,ke,jF,kT hw.nd,IU]
def oI:∀ (a b:List Int),PyData.eqvAll (a.map PyData.int) (b.map PyData.int)=decide (a=b)
 | [],[]=>by simp[PyData.eqvAll]
 | [],_::_=>by simp[PyData.eqvAll]
 | _::_,[]=>by simp[PyData.eqvAll]
 | i::a,j::b=>by
  rw[zI,zI,PyData.eqvAll,oI a b];by_cases h:i=j
  ·subst h;simp[PyData.eqv]
  ·simp[PyData.eqv,h]
def uU:∀ (a b:List (List Int)),PyData.eqvAll (a.map aE) (b.map aE)=decide (a=b)
 | [],[]=>by simp[PyData.eqvAll]
 | [],_::_=>by simp[PyData.eqvAll]
 | _::_,[]=>by simp[PyData.eqvAll]
 | x::a,y::b=>by
  rw[zI,zI,PyData.eqvAll,uU a b,aE,aE,PyData.eqv,oI];by_cases h:x=y
  ·subst h;simp
  ·simp[h]
def mX(i:Int):fS b k (.int i):=.leaf trivial
def yd(h:r.length<=b):fS b (k+1) (aE r):=.tup (by rw[zD];exact h) λx hx=>by
 let⟨i,_,rfl⟩:=List.mem_map.mp hx;exact mX i
def Eg{b k:Nat}{a:List (List Int)}(h:a.length<=b)(hr:∀r∈a,r.length<=b):fS b (k+2) (.list (a.map aE)):=.lst (by rw[zD];exact h) λx hx=>by
 let⟨r,Rq,rfl⟩:=List.mem_map.mp hx;exact yd (hr r Rq)
def AQ(a:List (List Int)):∃b,a.length<=b/\∀r∈a,r.length<=b:=by
 induction a with
 | nil=>exact⟨0,yI _,λr h=>by cases h⟩
 | cons x a ih =>
  let⟨b,h1,h2⟩:=ih;refine⟨b+1+x.length,by rw[zL];lia,λr hr=>?_⟩;rcases List.mem_cons.mp hr with rfl|hr
  ·lia
  ·have:=h2 r hr;lia
def sT(a:List (List Int)):SeqAt.shaped (.list (a.map aE))=true:=by
 let⟨b,h1,h2⟩:=AQ a;exact (Eg (b:=b) (k:=0) h1 h2).shaped (by decide)
def Bf(a b:List (List Int)):cc (.list (a.map aE)) (.list (b.map aE))=some (.bool (decide (a=b))):=by
 simp?[cc,GN,sT,and_self,xD,PyData.eqv,uU,zB]
def cJ(d:D):List Int:=(bE ((bE d).getD 1 .none)).map fT
def bc(h:placeOk n d=true):∃a ds,d=.tuple ds/\ds.length=2/\ds.getD 0 .none=.int a/\0<=a/\a<=9/\ds.getD 1 .none=.tuple ((cJ d).map PyData.int)/\(cJ d).Nodup/\∀j∈cJ d,0<=j/\j<=n - 1:=by
 cases d<;>simp?[placeOk] at h<;>try cases h
 rename_i ds;simp?[zF,zJ] at h;let⟨h1,h2,h3⟩:=h;have e:cJ (.tuple ds)=(bE (ds.getD 1 .none)).map fT:=rfl;rw[e];generalize hl:ds.getD 1 .none=l at h3;cases l<;>simp?[gy] at h3<;>try cases h3
 rename_i ls;simp?[zF,zJ] at h3;let⟨w1,w2,w3⟩:=eD h2;refine⟨_,ds,rfl,h1,w1,w2,w3,?_,h3.2,λj hj=>?_⟩
 ·rw[show bE (.tuple ls)=ls from rfl,<- jl h3.1];exact hl
 ·let⟨x,hx,rfl⟩:=List.mem_map.mp hj;exact (eD (List.all_eq_true.mp h3.1 x hx)).2
def eU(k:Nat):List D->List (List Int)|[]=>[]|p::ps=>(cJ p).map (λj=>[((k:Nat):Int),j])++eU (k+1) ps
def ix:∀ (n:Nat) {l:List Int},l.Nodup->(∀j∈l,0<=j/\j<=(n:Int) - 1)->l.length<=n:=by
 intro n l hn h;have hs:l.map Int.toNat ⊆ List.range n:=λx hx=>by
  let⟨j,hj,rfl⟩:=List.mem_map.mp hx;have:=h j hj;exact List.mem_range.mpr (by lia)
 have Ru:(l.map Int.toNat).Nodup:=by
  refine List.pairwise_map.mpr (hn.imp_of_mem λ{x y} hx hy QS e=>QS ?_);have:=h x hx;have:=h y hy;lia
 have:=List.Nodup.length_le_of_subset Ru hs;simpa using this
def mY{n:Nat}:∀ {ps:List D}{k:Nat},(∀p∈ps,placeOk n p=true)->(eU k ps).length<=ps.length * n
 | [],k,_=>xR _
 | p::ps,k,h=>by
  let⟨_,_,_,_,_,_,_,_,hn,hr⟩:=bc (h p zE);have h1:=ix n hn hr;have h2:=mY (ps:=ps) (k:=k+1) λq hq=>h q (zC _ hq);rw[eU,zN,zD,zL,Nat.succ_mul];lia
def pB:au->Option Out:=oV 1 [2,3] (az 1 [2] (aH (f2 bz (ae 3) (fC (.int 1)))) (fG 0) (λ_=>some true) (bT (aa (ae 1) (aa (ae 0) ah))))
def Kw{n:Nat}{p:D}{acc:List D}(hp:placeOk n p=true)(hn:n<=100)(ha:acc.length<=1000):pB [.val x,.own acc,.val (.int (k:Nat)),.val p]=some (.nx [.val x,.own (acc++((cJ p).map λj=>aE [((k:Nat):Int),j])),.val (.int (k:Nat)),.val p]):=by
 let⟨a,ds,rfl,hl,_,_,_,h1,Ru,hr⟩:=bc hp;have hb:=ix n Ru hr;generalize cJ (.tuple ds)=ls at *;have c:=ej (cs:=[2]) (fi:=aH (f2 bz (ae 3) (fC (.int 1)))) (te:=bT (aa (ae 1) (aa (ae 0) ah))) (h:=λy=>.tuple [.int (k:Nat),y]) (ρ:=[some x,none,some (.int (k:Nat)),some (.tuple ds)]) (ds:=ls.map PyData.int)
  (by simp! [tK (show 1 < ds.length by lia),h1]) (by rw[zD];lia) λy hy=>by
   simp! [bA (show [PyData.int (k:Nat),y].length<=4000 by simp)]
 have hh:hand [2,3] 0 [Slot.val x,.own acc,.val (.int (k:Nat)),.val (.tuple ds)]=[Slot.val x,.own acc,.val (.int (k:Nat)),.val (.tuple ds)]:=rfl;simp?[pB,oV,hh,bR,zI,yQ,Slot.QY,c,zA,o8,yU,xM];rw[yH]
 ·simp?[zB,yS,yR,zM];rfl
 ·simp?[zD];exact yA (show acc.length+ls.length<=1100 by lia) (by decide)
def qg{n:Nat}(hn:n<=100):∀ {ps:List D}{k:Nat}{acc:List D}{s2 s3:Slot},(∀p∈ps,placeOk n p=true)->acc.length+ps.length * n<=1000 ->
  ∃t2 t3,g9 (AZ 2 3) pB (eE k ps) [.val x,.own acc,s2,s3]=some (.nx [.val x,.own (acc++(eU k ps).map aE),t2,t3])
 | [],k,acc,s2,s3,_,_=>⟨s2,s3,by simp[eE,g9,eU]⟩
 | p::ps,k,acc,s2,s3,h,hl=>by
  have hp:=h p zE;let⟨_,_,_,_,_,_,_,_,Ru,hr⟩:=bc hp;have hb:=ix n Ru hr;rw[zL,Nat.succ_mul] at hl;let⟨t2,t3,e⟩:=qg hn (x:=x) (ps:=ps) (k:=k+1) (acc:=acc++((cJ p).map λj=>aE [((k:Nat):Int),j])) (s2:=.val (.int (k:Nat))) (s3:=.val p) (λq hq=>h q (zC _ hq)) (by rw[zN,zD];lia);refine⟨t2,t3,?_⟩;have hs:AZ 2 3 [.val x,.own acc,s2,s3] (.tuple [.int (k:Nat),p])=some [.val x,.own acc,.val (.int (k:Nat)),.val p]:=rfl;simp?[eE,g9,hs,zA,Kw hp hn (show acc.length<=1000 by lia)];rw[e];simp[eU,zM,vQ]
def xq{n:Nat}{ps:List D}(h:∀p∈ps,placeOk n p=true)(hn:n<=100)(hl:ps.length * n<=1000):bG [.tuple ps]=some (.list ((eU 0 ps).map aE)):=by
 let⟨t2,t3,e⟩:=qg hn (x:=.tuple ps) (k:=0) (acc:=[]) (s2:=.Qo) (s3:=.Qo) h (by simpa using hl);have hs:bf 1 [] (cC ah) [Slot.val (.tuple ps),.Qo,.Qo,.Qo]=some (.nx [.val (.tuple ps),.own [],.Qo,.Qo]):=rfl;have hh:hand [0] 0 [Slot.val (.tuple ps),.own [],.Qo,.Qo]=[Slot.val (.tuple ps),.own [],.Qo,.Qo]:=rfl;have hf:sN (aa (ae 0) ah) (bR [Slot.val (.tuple ps),.own [],.Qo,.Qo])=some (eE 0 ps):=rfl;simp! [bG,jc,hs,mI,hh,hf];rw[show oV 1 [2,3] (az 1 [2] (aH (f2 bz (ae 3) (fC (.int 1)))) (fG 0) (λ_=>some true) (bT (aa (ae 1) (aa (ae 0) ah))))=pB from rfl,e];simp! []
def bX(d:D):List Int:=[fT ((bE d).getD 0 .none),fT ((bE d).getD 1 .none)]
def jj(h:fV g t d=true):∃ds c,d=.tuple ds/\ds.length=3/\ds.getD 0 .none=.int (fT (ds.getD 0 .none))/\ds.getD 1 .none=.int (fT (ds.getD 1 .none))/\ds.getD 2 .none=.int c/\1<=c/\c<=9 /\
  0<=fT (ds.getD 0 .none)/\fT (ds.getD 0 .none)<=g - 1/\0<=fT (ds.getD 1 .none)/\fT (ds.getD 1 .none)<=t - 1:=by
 cases d<;>simp?[fV] at h<;>try cases h
 rename_i ds;simp?[zF,zJ] at h;let⟨h1,h2,h3,h4⟩:=h;have a:=eD h2;have b:=eD h3;have c:=eD h4;exact⟨ds,_,rfl,h1,a.1,b.1,c.1,c.2.1,c.2.2,a.2.1,a.2.2,b.2.1,b.2.2⟩
def je(g t w:D):Bool:=decide ((bE w).map bX=Q7 (eU 0 (bE g)))&&decide ((bE w).map bX=Q7 ((eU 0 (bE t)).map List.reverse))
def BH(d:D):Bool:=long 3 3 d&&(fE ((bE d).getD 0 .none) ((bE d).getD 1 .none) ((bE d).getD 2 .none)&&je ((bE d).getD 0 .none) ((bE d).getD 1 .none) ((bE d).getD 2 .none))
def fD:∀ {ps:List D}{k:Nat},∀r∈eU k ps,∃i j,r=[i,j]
 | [],k,r,h=>by cases h
 | p::ps,k,r,h=>by
  rcases List.mem_append.mp h with h|h
  ·let⟨j,_,rfl⟩:=List.mem_map.mp h;exact⟨_,_,rfl⟩
  ·exact fD r h
def kh(h:∀r∈a,∃i j,r=[i,j])(hl:a.length < 64):fv [.list (a.map aE)]=some ((Q7 a).map aE):=by
 have:∀ns∈a,ns≠[]:=λns hn=>by let⟨i,j,rfl⟩:=h ns hn;exact List.cons_ne_nil _ _
 simp?[fv,oneOf,zA,nj this,yH hl]
def pH:∀ {a:List (List Int)},(∀r∈a,∃i j,r=[i,j])->cw (Fg 0 1) (λ_=>some true) (bT (aa (ae 1) (aa (ae 0) ah))) [none,none] (a.map aE)=some ((a.map List.reverse).map aE)
 | [],_=>rfl
 | r::a,h=>by
  let⟨i,j,rfl⟩:=h r zE;have ih:=pH (a:=a) λq hq=>h q (zC _ hq);have e:Fg 0 1 [none,none] (aE [i,j])=some [some (.int i),some (.int j)]:=rfl;rw[zI,cw,e,zA,zA,yH rfl,ih];simp! [bA (show [PyData.int j,.int i].length<=4000 by simp)];rfl
def BA{a:List (List Int)}(Rt:fi ρ=some (a.map aE))(hl:a.length<=4000)(h:∀r∈a,∃i j,r=[i,j]):az 2 [] fi (Fg 0 1) (λ_=>some true) (bT (aa (ae 1) (aa (ae 0) ah))) ρ=some ((a.map List.reverse).map aE):=by
 simp?[az,Rt,zA,eW,List.replicate,xB,xJ,yQ];rw[pH h,zA,bA (by rw[zD,zD];exact hl)]
def iI(h:fE g t w=true):∃gs ts ws,g=.tuple gs/\t=.tuple ts/\w=.tuple ws/\1<=gs.length/\gs.length<=4/\1<=ts.length/\ts.length<=4/\(∀p∈gs,placeOk ts.length p=true)/\(∀p∈ts,placeOk gs.length p=true)/\∀x∈ws,fV gs.length ts.length x=true:=by
 simp?[fE,lL,zF] at h;let⟨h1,h2,h3,h4,h5,h6⟩:=h;cases w<;>try cases h5
 rename_i ws;have e1:=gk h1;have e2:=gk h2;generalize bE g=gs at *;generalize bE t=ts at *;subst e1 e2;simp?[long,zF,zJ] at h1 h2;exact⟨gs,ts,ws,rfl,rfl,rfl,by lia,by lia,by lia,by lia,List.all_eq_true.mp h3,List.all_eq_true.mp h4,List.all_eq_true.mp h6⟩
def gJ{b:Nat}(h:fS b k d)(hb:b<=1000):aV [d]=some (.bool (BH d)):=by
 unfold BH;cases e1:long 3 3 d with
 | false=>simp! [aV,gP,eA h.nd,e1,Bool.not_false,vD]
 | true =>
  obtain⟨ds,rfl⟩:∃ds,d=.tuple ds:=⟨_,gk e1⟩
  let⟨j,rfl,hl,hf⟩:=h.QQ;rw[show long 3 3 (.tuple ds)=decide (ds.length=3) from nB 3 ds,zJ] at e1;have f0:=hf _ (getD_mem (i:=0) (by lia));have f1:=hf _ (getD_mem (i:=1) (by lia));have S9:=hf _ (getD_mem (i:=2) (by lia));have i0:=yz (show 0 < ds.length by lia);have i1:=tK (show 1 < ds.length by lia);have i2:=HW (show 2 < ds.length by lia);have el:cM [.tuple ds,.int 3,.int 3]=some (.bool true):=by rw[eA rfl,show long 3 3 (.tuple ds)=decide (ds.length=3) from nB 3 ds,zX e1]
  rw[show bE (.tuple ds)=ds from rfl,jF];generalize hg:ds.getD 0 .none=g at *;generalize ht:ds.getD 1 .none=t at *;generalize hw:ds.getD 2 .none=w at *;cases e2:fE g t w with
  | false=>simp! [aV,gP,el,i0,i1,i2,my f0 f1 S9 hb,e2,Bool.not_false,xV,vD]
  | true =>
   let⟨gs,ts,ws,rfl,rfl,rfl,g1,g4,t1,t4,hG,hT,hW⟩:=iI e2;have hfw:=S9.QQ;let⟨j2,_,VA,_⟩:=hfw;have q1:=mY (k:=0) hG;have q2:=mY (k:=0) hT;have m1:gs.length * ts.length<=16:=vC g4 t4;have m2:ts.length * gs.length<=16:=vC t4 g4;have l1:=xq hG (by lia) (by lia);have l2:=xq hT (by lia) (by lia);have s1:=kh (a:=eU 0 gs) fD (by lia);have s2:=kh (a:=(eU 0 ts).map List.reverse) (λr hr=>by
    let⟨q,hq,rfl⟩:=List.mem_map.mp hr;let⟨i,j,rfl⟩:=fD q hq;exact⟨j,i,rfl⟩) (by rw[zD];lia)
   have c1:az 1 [] (aH (f2 bz (ae 0) (fC (.int 2)))) (fG 0) (λ_=>some true) (bT (aa (f2 bz (ae 0) (fC (.int 0))) (aa (f2 bz (ae 0) (fC (.int 1))) ah))) [some (.tuple ds),none,none,none]=some ((ws.map bX).map aE):=by
    rw[ej (ds:=ws) (h:=λx=>aE (bX x)) (by simp! [i2]) (by lia) λx hx=>?_,zM]
    ·rfl
    ·let⟨vs,c,rfl,v3,v0,v1,_⟩:=jj (hW x hx);simp! [yz (show 0 < vs.length by lia),tK (show 1 < vs.length by lia),bA (show [vs.getD 0 PyData.none,vs.getD 1 .none].length<=4000 by simp),aE,bX,bE];rw[<- v0,<- v1]
   have c2:∀x y z,az 2 [] (aH (ai 1 bG (aa (f2 bz (ae 0) (fC (.int 1))) ah))) (Fg 0 1) (λ_=>some true) (bT (aa (ae 1) (aa (ae 0) ah))) [some (.tuple ds),x,y,z]=some (((eU 0 ts).map List.reverse).map aE):=λx y z =>
    BA (by simp! [i1,l2]) (by lia) fD
   have SM:bf 1 [0] (az 1 [] (aH (f2 bz (ae 0) (fC (.int 2)))) (fG 0) (λ_=>some true) (bT (aa (f2 bz (ae 0) (fC (.int 0))) (aa (f2 bz (ae 0) (fC (.int 1))) ah)))) [Slot.val (.tuple ds),.Qo,.Qo,.Qo]=some (.nx [.val (.tuple ds),.own ((ws.map bX).map aE),.Qo,.Qo]):=by
    have hh:hand [0] 0 [Slot.val (.tuple ds),.Qo,.Qo,.Qo]=[Slot.val (.tuple ds),.Qo,.Qo,.Qo]:=rfl;simp?[bf,hh,bR,zI,yQ,Slot.QY,c1,zB,yS,yR]
   have SI:bf 2 [0] (f7 fv (aa (ai 1 bG (aa (f2 bz (ae 0) (fC (.int 0))) ah)) ah)) [Slot.val (.tuple ds),.own ((ws.map bX).map aE),.Qo,.Qo]=some (.nx [.val (.tuple ds),.own ((ws.map bX).map aE),.own ((Q7 (eU 0 gs)).map aE),.Qo]):=by
    have hh:hand [0] 0 [Slot.val (.tuple ds),.own ((ws.map bX).map aE),.Qo,.Qo]=[Slot.val (.tuple ds),.own ((ws.map bX).map aE),.Qo,.Qo]:=rfl;simp?[bf,hh,bR,zI,yQ,Slot.QY];simp! [i0,l1,s1,yS,yR]
   have SJ:bf 3 [0] (f7 fv (aa (bI (az 2 [] (aH (ai 1 bG (aa (f2 bz (ae 0) (fC (.int 1))) ah))) (Fg 0 1) (λ_=>some true) (bT (aa (ae 1) (aa (ae 0) ah))))) ah)) [Slot.val (.tuple ds),.own ((ws.map bX).map aE),.own ((Q7 (eU 0 gs)).map aE),.Qo]
      =some (.nx [.val (.tuple ds),.own ((ws.map bX).map aE),.own ((Q7 (eU 0 gs)).map aE),.own ((Q7 ((eU 0 ts).map List.reverse)).map aE)]):=by
    have hh:hand [0] 0 [Slot.val (.tuple ds),.own ((ws.map bX).map aE),.own ((Q7 (eU 0 gs)).map aE),.Qo]=[Slot.val (.tuple ds),.own ((ws.map bX).map aE),.own ((Q7 (eU 0 gs)).map aE),.Qo]:=rfl;simp?[bf,hh,bR,zI,yQ,Slot.QY];simp! [c2,s2,yS,yR]
   simp! [aV,gP,el,i0,i1,i2,my f0 f1 S9 hb,e2,xV,yK,SM,SI,SJ,Bf,je,bE,jF];by_cases hq:List.map bX ws=Q7 (eU 0 gs)<;>simp[hq]
def wZ(xs:List D):PyData.eqvAll xs []=xs.isEmpty:=by cases xs<;>simp[PyData.eqvAll]
def wK:SeqAt.shaped (.list [])=true:=by simp[SeqAt.shaped,PyData.canLay0,PyData.canLayAll0,PyData.depth,PyData.depthAll]
def Du(h:∀x∈xs,fS b k x)(hk:k<=60):cc (.list xs) (.list [])=some (.bool xs.isEmpty):=by
 have hs:SeqAt.shaped (.list xs)=true:=(fS.lst (b:=max b xs.length) (k:=k) (Nat.le_max_right _ _) λx hx=>(h x hx).mono (Nat.le_max_left _ _) (yI _)).shaped (by lia);simp?[cc,GN,hs,wK,and_self,xD,PyData.eqv,wZ,zB]
def p7:small []=some []:=rfl
def BJ(xs:List α)(k:Nat):cut xs none (some (k:Int))=xs.take k:=by
 simp?[cut,HT.tI,HT.m4,List.drop_zero,Nat.sub_zero];rw[List.take_eq_take_iff];lia
def uC(xs:List α)(k:Nat):cut xs (some (k:Int)) none=xs.drop k:=by
 simp?[cut,HT.tI,HT.m4];rw[jW (by rw[qE];lia)];by_cases h:k<=xs.length
 ·rw[Nat.min_eq_left h]
 ·rw[Nat.min_eq_right (by lia),List.drop_of_length_le (yI _),List.drop_of_length_le (by lia)]
def KG:List (List Int)->Bool|a::b::r=>lexLt a b&&KG (b::r)|_=>true
def Ak(b:Bool):gB (.bool b)=some b:=rfl
def MJ(P:List (List Int))(i j:Int)(lp lq:List Int):Bool:=decide ([i,j]∈P) == decide (j∈lp)&&decide ([i,j]∈P) == decide (i∈lq)
def L5(P:List (List Int))(i:Int)(lp:List Int):Nat->List D->Bool|_,[]=>true|k,q::qs=>MJ P i k lp (cJ q)&&L5 P i lp (k+1) qs
def MD(P:List (List Int))(ts:List D):Nat->List D->Bool|_,[]=>true|k,p::ps=>L5 P k (cJ p) 0 ts&&MD P ts (k+1) ps
def fJ:∀ {ps:List D}{k:Nat}{i j:Int},[i,j]∈eU k ps↔∃m p,ps[m]?=some p/\i=((k+m:Nat):Int)/\j∈cJ p
 | [],k,i,j=>by simp[eU]
 | p::ps,k,i,j=>by
  rw[eU,List.mem_append,fJ (ps:=ps)];constructor
  ·rintro (h|⟨m,q,h1,h2,h3⟩)
   ·let⟨y,hy,e⟩:=List.mem_map.mp h;injection e with e1 e2
    injection e2 with e2 _
    exact⟨0,p,rfl,by simpa using e1.symm,e2 ▸ hy⟩
   ·exact⟨m+1,q,by simpa using h1,by rw[h2];congr 1;lia,h3⟩
  ·rintro⟨m,q,h1,h2,h3⟩;cases m with
   | zero =>
    simp at h1;subst h1;exact .inl (List.mem_map.mpr ⟨j,h3,by rw[h2];rfl⟩)
   | succ m=>exact .inr ⟨m,q,by simpa using h1,by rw[h2];congr 1;lia,h3⟩
def iN:∀ {ps:List D}{k:Nat},(∀p∈ps,(cJ p).Nodup)->(eU k ps).Nodup
 | [],k,_=>List.nodup_nil
 | p::ps,k,h=>by
  rw[eU,List.nodup_append];refine⟨List.pairwise_map.mpr ((h p zE).imp λQS e=>QS ?_),iN λq hq=>h q (zC _ hq),?_⟩;rotate_left
  ·injection e with _ e2
   injection e2
  ·rintro a ha b hb rfl;let⟨y,hy,rfl⟩:=List.mem_map.mp ha;let⟨m,q,h1,h2,h3⟩:=fJ.mp hb;lia
def nI:∀ {P:List (List Int)},KG P=true->P.Pairwise λa b=>Dl.lexLt a b=true
 | [],_=>List.Pairwise.nil
 | [a],_=>kN _ _
 | a::b::r,h=>by
  rw[KG,zF] at h;have ih:=nI h.2;refine List.Pairwise.cons (λc hc=>?_) ih;rcases List.mem_cons.mp hc with rfl|hc
  ·exact h.1
  ·exact dh h.1 ((List.pairwise_cons.mp ih).1 c hc)
def ua:∀ {P:List (List Int)},(P.Pairwise λa b=>Dl.lexLt a b=true)->KG P=true
 | [],_=>rfl
 | [a],_=>rfl
 | a::b::r,h=>by
  rw[List.pairwise_cons] at h;rw[KG,zF];exact⟨h.1 b zE,ua h.2⟩
def xv{lp:List Int}:∀ {qs:List D}{k:Nat},L5 P i lp k qs=true↔∀ (l:Nat) (q:D),qs[l]?=some q->MJ P i ((k+l:Nat):Int) lp (cJ q)=true
 | [],k=>by simp[L5]
 | q::qs,k=>by
  rw[L5,zF,xv (qs:=qs)];constructor
  ·rintro⟨h1,h2⟩ l q' hl;cases l with
   | zero=>simp at hl;subst hl;exact h1
   | succ l=>have:=h2 l q' (by simpa using hl);rw[show k+(l+1)=k+1+l by lia];exact this
  ·intro h;refine⟨by have:=h 0 q rfl;exact this,λl q' hl=>?_⟩;have:=h (l+1) q' (by simpa using hl);rw[show k+1+l=k+(l+1) by lia];exact this
def rq:∀ {ps:List D}{k:Nat},MD P ts k ps=true↔∀ (m:Nat) (p:D),ps[m]?=some p->∀ (l:Nat) (q:D),ts[l]?=some q->MJ P ((k+m:Nat):Int) (l:Int) (cJ p) (cJ q)=true
 | [],k=>by simp[MD]
 | p::ps,k=>by
  rw[MD,zF,rq (ps:=ps),xv];constructor
  ·rintro⟨h1,h2⟩ m p' hm l q hl;cases m with
   | zero=>simp at hm;subst hm;have:=h1 l q hl;rw[qY] at this;exact this
   | succ m=>have:=h2 m p' (by simpa using hm) l q hl;rw[show k+(m+1)=k+1+m by lia];exact this
  ·intro h;refine⟨λl q hl=>by have:=h 0 p rfl l q hl;rw[qY];exact this,λm p' hm l q hl=>?_⟩;have:=h (m+1) p' (by simpa using hm) l q hl;rw[show k+1+m=k+(m+1) by lia];exact this
def iY{lp:List Int}:MJ P i j lp lq=true↔([i,j]∈P↔j∈lp)/\([i,j]∈P↔i∈lq):=by
 simp?[MJ,zF,kP,decide_eq_decide]
def Ip(h:Dl.lexLt a b=true):lexLe a b=true:=by
 unfold lexLe;cases e:Dl.lexLt b a with
 | false=>rfl
 | true=>have:=dh h e;rw[dA] at this;cases this
def l8{ts:List D}{n:Nat}{j:Int}(h:ts.length=n)(h0:0<=j)(h1:j<=(n:Int) - 1):∃ (l:Nat) (q:D),ts[l]?=some q/\j=(l:Int):=by
 have hl:j.toNat < ts.length:=by lia
 exact⟨j.toNat,ts[j.toNat],List.getElem?_eq_some_iff.mpr ⟨hl,rfl⟩,by lia⟩
def Bh{w:D}(h:fE g t w=true):je g t w=(KG ((bE w).map bX)&&MD ((bE w).map bX) (bE t) 0 (bE g)):=by
 let⟨gs,ts,ws,rfl,rfl,rfl,g1,g4,t1,t4,hG,hT,hW⟩:=iI h;have e0:(je (.tuple gs) (.tuple ts) (.tuple ws)=true)↔(ws.map bX=Q7 (eU 0 gs)/\ws.map bX=Q7 ((eU 0 ts).map List.reverse)):=by
  unfold je;rw[zF,zJ,zJ];exact Iff.rfl
 rw[Bool.eq_iff_iff,e0,zF,rq];simp?[bE];generalize hP:ws.map bX=P;have pin:∀r∈P,∃i j,r=[i,j]/\0<=i/\i<=(gs.length:Int) - 1/\0<=j/\j<=(ts.length:Int) - 1:=λr hr=>by
  rw[<- hP] at hr;let⟨x,hx,rfl⟩:=List.mem_map.mp hr;let⟨vs,c,rfl,v3,v0,v1,v2,_,_,a1,a2,a3,a4⟩:=jj (hW x hx);exact⟨_,_,rfl,a1,a2,a3,a4⟩
 have nG:(eU 0 gs).Nodup:=iN λp hp=>by
  let⟨_,_,_,_,_,_,_,_,Ru,_⟩:=bc (hG p hp);exact Ru
 have nT0:(eU 0 ts).Nodup:=iN λp hp=>by
  let⟨_,_,_,_,_,_,_,_,Ru,_⟩:=bc (hT p hp);exact Ru
 have nT:((eU 0 ts).map List.reverse).Nodup:=List.pairwise_map.mpr (nT0.imp λQS e=>QS (List.reverse_inj.mp e));have mG:∀r∈eU 0 gs,∃i j,r=[i,j]/\0<=i/\i<=(gs.length:Int) - 1/\0<=j/\j<=(ts.length:Int) - 1:=λr hr=>by
  let⟨i,j,rfl⟩:=fD r hr;let⟨m,p,h1,h2,h3⟩:=fJ.mp hr;let⟨_,_,_,_,_,_,_,_,_,Rq⟩:=bc (hG p (xY h1));have:=Rq j h3;have hm:=(List.getElem?_eq_some_iff.mp h1).1;exact⟨i,j,rfl,by lia,by lia,this.1,this.2⟩
 have mT:∀r∈(eU 0 ts).map List.reverse,∃i j,r=[i,j]/\[j,i]∈eU 0 ts/\0<=i/\i<=(gs.length:Int) - 1/\0<=j/\j<=(ts.length:Int) - 1:=λr hr=>by
  let⟨s,hs,rfl⟩:=List.mem_map.mp hr;let⟨j,i,rfl⟩:=fD s hs;let⟨m,p,h1,h2,h3⟩:=fJ.mp hs;let⟨_,_,_,_,_,_,_,_,_,Rq⟩:=bc (hT p (xY h1));have:=Rq i h3;have hm:=(List.getElem?_eq_some_iff.mp h1).1;exact⟨i,j,rfl,hs,this.1,this.2,by lia,by lia⟩
 have LK:∀ {m:Nat}{p:D}{j:Int},gs[m]?=some p->([(m:Int),j]∈eU 0 gs↔j∈cJ p):=λ{m p j} hm=>by
  rw[fJ];constructor
  ·rintro⟨m',p',h1,h2,h3⟩;have:m=m':=by lia
   subst this;rw[hm] at h1;cases h1;exact h3
  ·exactλhj=>⟨m,p,hm,by lia,hj⟩
 have OG:∀ {l:Nat}{q:D}{i:Int},ts[l]?=some q->([i,(l:Int)]∈(eU 0 ts).map List.reverse↔i∈cJ q):=λ{l q i} hl=>by
  have:[i,(l:Int)]∈(eU 0 ts).map List.reverse↔[(l:Int),i]∈eU 0 ts:=by
   constructor
   ·intro hh;let⟨s,hs,e⟩:=List.mem_map.mp hh;have:s=[(l:Int),i]:=by rw[<- List.reverse_reverse s,e];rfl
    exact this ▸ hs
   ·exactλhh=>List.mem_map.mpr ⟨_,hh,rfl⟩
  rw[this,fJ];constructor
  ·rintro⟨m',p',h1,h2,h3⟩;have:l=m':=by lia
   subst this;rw[hl] at h1;cases h1;exact h3
  ·exactλhj=>⟨l,q,hl,by lia,hj⟩
 constructor
 ·rintro⟨e1,e2⟩;have p1:P.Perm (eU 0 gs):=e1 ▸ km _;have p2:P.Perm ((eU 0 ts).map List.reverse):=e2 ▸ km _;refine⟨ua ?_,λm p hm l q hl=>iY.mpr ⟨?_,?_⟩⟩
  ·have up:P.Pairwise λa b=>lexLe a b=true:=e1 ▸ B6 _;have nd:P.Nodup:=p1.symm.nodup nG;refine (up.and nd).imp λ{a b} Q9=>?_;cases e:Dl.lexLt a b with
   | true=>rfl
   | false =>
    have h2:Dl.lexLt b a=false:=by have:=Q9.1;unfold lexLe at this;simpa using this
    exact absurd (eh e h2) Q9.2
  ·rw[qY,p1.mem_iff];exact LK hm
  ·rw[qY,p2.mem_iff];exact OG hl
 ·rintro⟨ha,hk⟩;have lt:=nI ha;have up:P.Pairwise λa b=>lexLe a b=true:=lt.imp λh=>Ip h;have nd:P.Nodup:=lt.imp λ{a b} h e=>by subst e;rw[dA] at h;cases h
  have key:∀ {i j:Int},0<=i->i<=(gs.length:Int) - 1->0<=j->j<=(ts.length:Int) - 1->([i,j]∈P↔[i,j]∈eU 0 gs)/\([i,j]∈P↔[i,j]∈(eU 0 ts).map List.reverse):=λ{i j} a1 a2 a3 a4=>by
   let⟨m,p,hm,rfl⟩:=l8 rfl a1 a2;let⟨l,q,hl,rfl⟩:=l8 rfl a3 a4;have:=iY.mp (hk m p hm l q hl);rw[qY] at this;exact⟨this.1.trans (LK hm).symm,this.2.trans (OG hl).symm⟩
  refine⟨rM ((List.perm_ext_iff_of_nodup nd nG).mpr λr=>⟨λhr=>?_,λhr=>?_⟩) up,rM ((List.perm_ext_iff_of_nodup nd nT).mpr λr=>⟨λhr=>?_,λhr=>?_⟩) up⟩
  ·let⟨i,j,rfl,a1,a2,a3,a4⟩:=pin r hr;exact (key a1 a2 a3 a4).1.mp hr
  ·let⟨i,j,rfl,a1,a2,a3,a4⟩:=mG r hr;exact (key a1 a2 a3 a4).1.mpr hr
  ·let⟨i,j,rfl,a1,a2,a3,a4⟩:=pin r hr;exact (key a1 a2 a3 a4).2.mp hr
  ·let⟨i,j,rfl,_,a1,a2,a3,a4⟩:=mT r hr;exact (key a1 a2 a3 a4).2.mpr hr
def eR(h:rQ i j):Dl.i8 (.int i) (.int j)=some (.int (i * j)):=by
 simp?[Dl.i8,sx,yH h,Option.some_or]
def fZ(h:0 < j):Dl.jm (.int i) (.int j)=some (.int (i % j)):=yH h
def iu(h:0 < j/\j < 1073741824):Dl.lG (.int i) (.int j)=some (.int (i / j)):=yH h
def Ao(i j:Int):Dl.KJ (.int i) (.int j)=some (.bool (decide (j < i))):=rfl
def lJ(h:-(2 ^ 64) < i/\i < 2 ^ 64):rQ i j:=.inl h
def Kn(h:-(2 ^ 64) < j/\j < 2 ^ 64):rQ i j:=.inr h
def Et(i:Int):Dl.mM (.int i)=true:=rfl
def pM(ns:List Int):D:=.list (ns.map PyData.int)
def Lb(k:Int)(hl:ns.length<=63):∃c,dJ [pM ns,.int k]=some (.int c):=by
 have heq:cc (.list (ns.map PyData.int)) (.list [])=some (.bool ns.isEmpty):=by
  have:=Du (b:=0) (k:=0) (xs:=ns.map PyData.int) (λx hx=>by let⟨i,_,rfl⟩:=List.mem_map.mp hx;exact mX i) (by decide);rw[this];cases ns<;>rfl
 by_cases hn:ns=[]
 ·subst hn;refine⟨7 * k,?_⟩;rw[yQ,List.isEmpty_nil] at heq;simp! [dJ,iw,pM,p7,heq,List.isEmpty_nil,eR (lJ (i:=7) (j:=k) (by decide))]
 ·have T9:(0:Int) < (ns.length:Int):=by have:=List.length_pos_iff.mpr hn;lia
  have he:ns.isEmpty=false:=by cases ns<;>first|rfl|exact absurd rfl hn
  let⟨j,hj⟩:=kO (kY k (show (ns.length:Int)≠0 by lia));have QW:=kG k T9;have hx:jh (ns.map PyData.int) (k % (ns.length:Int))=some (.int (ns.getD j 0)):=by
   rw[hj];have:j < (ns.map PyData.int).length:=by rw[zD];lia
   rw[kb this,zG,zO,zG];rw[zK (by lia)];rfl
  refine⟨ns.getD j 0+6553 * (k / (ns.length:Int)),?_⟩;simp! [dJ,iw,pM,p7,heq,he,yK,zD,fZ T9,hx,iu (i:=k) (j:=(ns.length:Int)) ⟨T9,by lia⟩,eR (lJ (i:=6553) (j:=k / (ns.length:Int)) (by decide))]
def FM(k many:Int)(hl:ns.length<=63)(hm:0 < many):∃r,ak [pM ns,.int k,.int many]=some (.int r)/\0<=r/\r < many:=by
 let⟨c,hc⟩:=Lb k hl;have m1:∀i:Int,Dl.jm (.int i) (.int 2147483563)=some (.int (i % 2147483563)):=λi=>fZ (by decide);have m2:∀i:Int,Dl.jm (.int i) (.int 2147483399)=some (.int (i % 2147483399)):=λi=>fZ (by decide);have m3:∀i:Int,Dl.jm (.int i) (.int 2147483647)=some (.int (i % 2147483647)):=λi=>fZ (by decide);have d1:∀i:Int,Dl.lG (.int i) (.int 3)=some (.int (i / 3)):=λi=>iu (by decide);have d2:∀i:Int,Dl.lG (.int i) (.int 7)=some (.int (i / 7)):=λi=>iu (by decide);have d3:∀i:Int,Dl.lG (.int i) (.int 11)=some (.int (i / 11)):=λi=>iu (by decide);have u1:∀i:Int,Dl.i8 (.int i) (.int 69069)=some (.int (i * 69069)):=λi=>eR (Kn (by decide));have u2:∀i:Int,Dl.i8 (.int 104723) (.int i)=some (.int (104723 * i)):=λi=>eR (lJ (by decide));have b1:∀x:Int,Dl.i8 (.int (x % 2147483563)) (.int (x % 2147483563))=some (.int (x % 2147483563 * (x % 2147483563))):=λx=>eR (lJ (by
  have:=kY x (show (2147483563:Int)≠0 by decide);have:=kG x (show (0:Int) < 2147483563 by decide);lia))
 have b2:∀x:Int,Dl.i8 (.int (x % 2147483399)) (.int (x % 2147483399))=some (.int (x % 2147483399 * (x % 2147483399))):=λx=>eR (lJ (by
  have:=kY x (show (2147483399:Int)≠0 by decide);have:=kG x (show (0:Int) < 2147483399 by decide);lia))
 suffices h:∃x,ak [pM ns,.int k,.int many]=some (.int (x % many)) by
  let⟨x,hx⟩:=h;exact⟨_,hx,kY x (show many≠0 by lia),kG x hm⟩
 ·refine⟨(((((c % 2147483563 * 69069+104723 * (k+1)) % 2147483563) * ((c % 2147483563 * 69069+104723 * (k+1)) % 2147483563)+((c % 2147483563 * 69069+104723 * (k+1)) % 2147483563) / 3) % 2147483399) * ((((c % 2147483563 * 69069+104723 * (k+1)) % 2147483563) * ((c % 2147483563 * 69069+104723 * (k+1)) % 2147483563)+((c % 2147483563 * 69069+104723 * (k+1)) % 2147483563) / 3) % 2147483399)+((((c % 2147483563 * 69069+104723 * (k+1)) % 2147483563) * ((c % 2147483563 * 69069+104723 * (k+1)) % 2147483563)+((c % 2147483563 * 69069+104723 * (k+1)) % 2147483563) / 3) % 2147483399) / 7) % 2147483647 / 11,?_⟩;simp! [ak,j7,hc,m1,u1,u2,Dl.aS,Et,yS,yR,b1,d1,m2,b2,d2,m3,d3,fZ (j:=many) hm]
def dr(ns:List Int)(k many:Int):Int:=fT ((ak [pM ns,.int k,.int many]).getD .none)
def dB(k many:Int)(hl:ns.length<=63)(hm:0 < many):ak [pM ns,.int k,.int many]=some (.int (dr ns k many))/\0<=dr ns k many/\dr ns k many < many:=by
 let⟨r,h1,h2⟩:=FM k many hl hm;have:dr ns k many=r:=by simp?[dr,h1,qD,fT]
 rw[this];exact⟨h1,h2⟩
def IK(k many:Int)(hl:ns.length<=63)(hm:0 < many):ak [pM ns,.int k,.int many]=some (.int (dr ns k many)):=(dB k many hl hm).1
def Nc(k many:Int)(hl:ns.length<=63)(hm:0 < many):0<=dr ns k many:=(dB k many hl hm).2.1
def Ni(k many:Int)(hl:ns.length<=63)(hm:0 < many):dr ns k many < many:=(dB k many hl hm).2.2
abbrev Pl:=Int×List Int
abbrev Wy:=Int×Int×Int
def ba(p:Pl):D:=.tuple [.int p.1,aE p.2]
def bL(w:Wy):D:=.tuple [.int w.1,.int w.2.1,.int w.2.2]
def gq(G T:List Pl)(W:List Wy):D:=.tuple [.tuple (G.map ba),.tuple (T.map ba),.tuple (W.map bL)]
def mn(W:List Wy)(i:Int):List Int:=(W.filter λw=>decide (w.1=i)).map λw=>w.2.1
def ofT(W:List Wy)(j:Int):List Int:=(W.filter λw=>decide (w.2.1=j)).map λw=>w.1
abbrev Fv(W:List Wy):Prop:=W.Pairwise λa b=>a.1 < b.1\/(a.1=b.1/\a.2.1 < b.2.1)
structure Wd(G T:List Pl)(W:List Wy):Prop where
 g1:1<=G.length
 g4:G.length<=4
 t1:1<=T.length
 t4:T.length<=4
 ga:∀p∈G,0<=p.1/\p.1<=9
 ta:∀p∈T,0<=p.1/\p.1<=9
 gl:∀ (i:Nat) (p:Pl),G[i]?=some p->p.2.Perm (mn W i)
 tl:∀ (j:Nat) (p:Pl),T[j]?=some p->p.2.Perm (ofT W j)
 wr:∀w∈W,(0<=w.1/\w.1 < G.length)/\(0<=w.2.1/\w.2.1 < T.length)/\1<=w.2.2/\w.2.2<=9
 wp:Fv W
 wl:W.length<=16
def mZ:j∈mn W i↔[i,j]∈W.map λw=>[w.1,w.2.1]:=by
 simp?[mn,List.mem_map,List.mem_filter,zJ,kC,and_true];constructor
 ·rintro⟨w,⟨h1,h2⟩,h3⟩;exact⟨w,h1,h2,h3⟩
 ·rintro⟨w,h1,h2,h3⟩;exact⟨w,⟨h1,h2⟩,h3⟩
def m7:i∈ofT W j↔[i,j]∈W.map λw=>[w.1,w.2.1]:=by
 simp?[ofT,List.mem_map,List.mem_filter,zJ,kC,and_true];constructor
 ·rintro⟨w,⟨h1,h2⟩,h3⟩;exact⟨w,h1,h3,h2⟩
 ·rintro⟨w,h1,h2,h3⟩;exact⟨w,⟨h1,h3⟩,h2⟩
def iL(h:Fv W)(i:Int):(mn W i).Nodup:=by
 unfold mn List.Nodup;rw[qZ,List.pairwise_filter];refine h.imp λQ9 ha hb=>?_;rw[zJ] at ha hb;lia
def i6(h:Fv W)(i:Int):(ofT W i).Nodup:=by
 unfold ofT List.Nodup;rw[qZ,List.pairwise_filter];refine h.imp λQ9 ha hb=>?_;rw[zJ] at ha hb;lia
def eC(p:Pl):cJ (ba p)=p.2:=by
 show ((p.2.map PyData.int).map fT)=p.2;rw[zM];exact List.map_id _
def me(ha:0<=p.1/\p.1<=9)(hn:p.2.Nodup)(hr:∀j∈p.2,0<=j/\j < n):placeOk n (ba p)=true:=by
 have e:(p.2.map PyData.int).map fT=p.2:=eC p;have e2:(p.2.map PyData.int).all (whole 0 (n - 1))=true:=by
  rw[xC];intro x hx;let⟨j,hj,rfl⟩:=List.mem_map.mp hx;have:=hr j hj;simp?[whole,zF,zJ];lia
 simp?[placeOk,ba,aE,zL,xG,vF,vG,gy,whole,e,e2,ha.1,ha.2,hn,jI,Bool.and_self]
def AG(h:(0<=w.1/\w.1 < g)/\(0<=w.2.1/\w.2.1 < t)/\1<=w.2.2/\w.2.2<=9):fV g t (bL w)=true:=by
 let⟨⟨a,b⟩,⟨c,d⟩,e,f⟩:=h;have b':w.1<=g - 1:=by lia
 have d':w.2.1<=t - 1:=by lia
 simp?[fV,bL,zL,xG,vF,vG,whole,a,b',c,d',e,f,jI,Bool.and_self]
def OY(h:a < c\/(a=c/\b < d)):Dl.lexLt [a,b] [c,d]=true:=by
 show HT.lexLt [a,b] [c,d]=true;rw[HT.cG];by_cases e:a=c
 ·rw[yH e,HT.cG,yJ (by lia)];simp?[zJ];lia
 ·rw[yJ e];simp?[zJ];lia
def Wd.Ut(h:Wd G T W)(hp:p∈G):∃i:Nat,i < G.length/\p.2.Perm (mn W i):=by
 let⟨i,hi,e⟩:=qM hp;exact⟨i,hi,h.gl i p (by rw[zK hi,e])⟩
def Wd.Uu(h:Wd G T W)(hp:p∈T):∃i:Nat,i < T.length/\p.2.Perm (ofT W i):=by
 let⟨i,hi,e⟩:=qM hp;exact⟨i,hi,h.tl i p (by rw[zK hi,e])⟩
def Wd.gok(h:Wd G T W):(G.map ba).all (placeOk T.length)=true:=by
 rw[xC];intro x hx;let⟨p,hp,rfl⟩:=List.mem_map.mp hx;let⟨i,hi,q⟩:=h.Ut hp;refine me (h.ga p hp) (q.nodup_iff.mpr (iL h.wp _)) λj hj=>?_;let⟨w,hw,e⟩:=List.mem_map.mp (mZ.mp (q.mem_iff.mp hj));injection e with e1 e2
 injection e2 with e2 _
 have:=(h.wr w hw).2.1;rw[e2] at this;exact this
def Wd.tok(h:Wd G T W):(T.map ba).all (placeOk G.length)=true:=by
 rw[xC];intro x hx;let⟨p,hp,rfl⟩:=List.mem_map.mp hx;let⟨i,hi,q⟩:=h.Uu hp;refine me (h.ta p hp) (q.nodup_iff.mpr (i6 h.wp _)) λj hj=>?_;let⟨w,hw,e⟩:=List.mem_map.mp (m7.mp (q.mem_iff.mp hj));injection e with e1 e2
 have:=(h.wr w hw).1;rw[e1] at this;exact this
def nF{W:List Wy}{p:Wy->Bool}(h:W.length<=16):(W.filter p).length<=16:=yA (xK _ _) h
def xy(h:p.2.length<=16):fS 16 2 (ba p):=.tup (by simp?[zL,xG];lia) λx hx=>by
 rcases List.mem_cons.mp hx with rfl|hx
 ·exact mX _
 ·rw[yG] at hx;subst hx;exact yd h
def GM(w:Wy):fS 16 1 (bL w):=.tup (by simp?[zL,xG];lia) λx hx=>by
 simp?[zQ,yC,xQ] at hx;rcases hx with rfl|rfl|rfl<;>exact mX _
def Wd.fit(h:Wd G T W):fS 16 4 (gq G T W):=by
 refine .tup (by simp?[zL,xG];lia) λx hx=>?_;simp?[zQ,yC,xQ] at hx;have h4:=h.g4;have h5:=h.t4;have h6:=h.wl;rcases hx with rfl|rfl|rfl
 ·refine .tup (by rw[zD];lia) λx hx=>?_;let⟨p,hp,rfl⟩:=List.mem_map.mp hx;let⟨i,hi,q⟩:=h.Ut hp;exact xy (by rw[q.length_eq,mn,zD];exact nF h.wl)
 ·refine .tup (by rw[zD];lia) λx hx=>?_;let⟨p,hp,rfl⟩:=List.mem_map.mp hx;let⟨i,hi,q⟩:=h.Uu hp;exact xy (by rw[q.length_eq,ofT,zD];exact nF h.wl)
 ·refine .tup (by rw[zD];lia) λx hx=>?_;let⟨p,hp,rfl⟩:=List.mem_map.mp hx;exact (GM p).mono (yI _) (by decide)
def bH{i:Nat}{fz:List Nat}{f:Dl.Env->Option D}{ρ:au}{d:D}(hf:f (aL ρ)=some d)(hs:Dl.mM d=true):Dl.aS i fz f ρ=some (.nx (ρ.set i (.val d))):=by
 simp?[Dl.aS,hf,zA,hs,xD]
def zf(w:Wy):bz (bL w) (.int 0)=some (.int w.1):=rfl
def xp(w:Wy):bz (bL w) (.int 1)=some (.int w.2.1):=rfl
abbrev st(ns:List Int)(a mo m s:Int)(x4 x7 x8 x9 x10 x11:Slot):au:=[.val (pM ns),.val (.int a),.val (.int mo),.Qo,x4,.val (.int m),.val (.int s),x7,x8,x9,x10,x11]
structure Qa(mo s k:Int)(W:List Wy):Prop where
 mem:∀w∈W,∃j:Int,0<=j/\j < k/\w.1=j / s/\w.2.1=j % s/\1<=w.2.2/\w.2.2<=2
 Uv:Fv W
 len:(W.length:Int)<=k
 lem:(W.length:Int)<=mo
def LK(W:List Wy)(i:Int)(hw:W.length<=20):az 1 [0] (aH (ae 1)) (fG 0) (fB (f2 cc (f2 bz (ae 0) (fC (.int 0))) (ae 1))) (f2 bz (ae 0) (fC (.int 1))) [some (.int i),some (.list (W.map bL))]=some ((mn W i).map PyData.int):=by
 rw[jv (ds:=W.map bL) (p:=λd=>decide (fT ((bE d).getD 0 .none)=i)) (h:=λd=>(bE d).getD 1 .none) rfl (by rw[zD];lia) (λd hd=>?_) λd hd _=>?_]
 ·rw[List.filter_map,zM,mn,zM];rfl
 ·let⟨w,_,rfl⟩:=List.mem_map.mp hd;simp! [zf,gw,Ak];rfl
 ·let⟨w,_,rfl⟩:=List.mem_map.mp hd;simp! [xp];rfl
def OG(W:List Wy)(i:Int)(hw:W.length<=20):az 1 [0] (aH (ae 1)) (fG 0) (fB (f2 cc (f2 bz (ae 0) (fC (.int 1))) (ae 1))) (f2 bz (ae 0) (fC (.int 0))) [some (.int i),some (.list (W.map bL))]=some ((ofT W i).map PyData.int):=by
 rw[jv (ds:=W.map bL) (p:=λd=>decide (fT ((bE d).getD 1 .none)=i)) (h:=λd=>(bE d).getD 0 .none) rfl (by rw[zD];lia) (λd hd=>?_) λd hd _=>?_]
 ·rw[List.filter_map,zM,ofT,zM];rfl
 ·let⟨w,_,rfl⟩:=List.mem_map.mp hd;simp! [xp,gw,Ak];rfl
 ·let⟨w,_,rfl⟩:=List.mem_map.mp hd;simp! [zf];rfl
def Hb{m:Nat}(hm:m<=1000):Bi ((m:Nat):Int)=true:=by
 unfold Bi;rw[zF,zJ,zJ];have h1:(0:Int)<=(m:Int):=Int.natCast_nonneg m;have h2:(m:Int)<=1000:=by lia
 exact⟨jM (by decide) h1,Int.lt_of_le_of_lt h2 (by decide)⟩
def B8{j:Int}(h:Bi j=true):lF [.int j]=some ((List.range j.toNat).map λi=>PyData.int ((i:Nat):Int)):=by
 rw[lF,yH h]
def iO:∀ (ds:List D) (k:Nat),(eE k ds).length=ds.length
 | [],k=>rfl
 | d::ds,k=>by rw[eE,zL,zL,iO ds]
def ao{g1 g2:au->Option Out}{ρ ρ':au}(h:g1 ρ=some (.nx ρ')):aA g1 g2 ρ=g2 ρ':=by
 simp?[aA,h,zA]
def bF{g:au->Option Out}{n:Nat}{args:List D}{d:D}(h:g (args.map Slot.val++List.replicate (n - args.length) .Qo)=some (.rt d)):bN g n args=some d:=by
 simp?[bN,h,zB]
def MZ{g:D->D->Option D}{fa fb:Dl.Env->Option D}{ρ:Dl.Env}{a b:D}(ha:fa ρ=some a)(hb:fb ρ=some b):f2 g fa fb ρ=g a b:=by
 simp?[f2,ha,hb,zA]
structure Qk(mo:Int)(G T:List Pl)(W:List Wy):Prop where
 g3:G.length<=3
 t3:T.length<=3
 w2:∀w∈W,w.2.2<=2
 ga:∀p∈G,p.1<=3
 ta:∀p∈T,p.1<=3
 wm:(W.length:Int)<=mo
def IH(h:Fv W):(W.map λw=>[w.1,w.2.1]).Pairwise λa b=>Dl.lexLt a b=true:=List.pairwise_map.mpr (h.imp λQ9=>OY Q9)
def D4(h:Fv W):(W.map λw=>[w.1,w.2.1]).Nodup:=(IH h).imp λ{a b} Q9 e=>by
 rw[e,dA] at Q9;cases Q9
def D5(h:Fv W)(hn:m.Nodup)(hm:∀r,r∈W.map (λw=>[w.1,w.2.1])↔r∈m):W.map (λw=>[w.1,w.2.1])=Q7 m :=
 rM ((List.perm_ext_iff_of_nodup (D4 h) hn).mpr hm) ((IH h).imp λQ9=>Ip Q9)
def Wd.Yp(h:Wd G T W):BH (gq G T W)=true:=by
 have hP:(W.map bL).map bX=W.map λw=>[w.1,w.2.1]:=by rw[zM];rfl
 have Zo:∀i j:Int,[i,j]∈W.map (λw=>[w.1,w.2.1])↔[i,j]∈eU 0 (G.map ba):=λi j=>by
  rw[fJ];constructor
  ·intro hm;let⟨w,hw,e⟩:=List.mem_map.mp hm;simp?[kC,and_true] at e;have hr:=(h.wr w hw).1;obtain⟨p,hp⟩:∃p,G[i.toNat]?=some p:=⟨G[i.toNat]'(by lia),zK (by lia)⟩
   refine⟨i.toNat,ba p,by rw[zO,hp];rfl,by lia,?_⟩;rw[eC,(h.gl _ p hp).mem_iff,mZ,show ((i.toNat:Nat):Int)=i by lia];exact hm
  ·rintro⟨m,p,hp,rfl,hj⟩;rw[zO] at hp;let⟨p',TY,rfl⟩:=Option.map_eq_some_iff.mp hp;rw[eC,(h.gl m p' TY).mem_iff,mZ] at hj
   rwa [qY]
 have Zq:∀i j:Int,[i,j]∈W.map (λw=>[w.1,w.2.1])↔[j,i]∈eU 0 (T.map ba):=λi j=>by
  rw[fJ];constructor
  ·intro hm;let⟨w,hw,e⟩:=List.mem_map.mp hm;simp?[kC,and_true] at e;have hr:=(h.wr w hw).2.1;obtain⟨p,hp⟩:∃p,T[j.toNat]?=some p:=⟨T[j.toNat]'(by lia),zK (by lia)⟩
   refine⟨j.toNat,ba p,by rw[zO,hp];rfl,by lia,?_⟩;rw[eC,(h.tl _ p hp).mem_iff,m7,show ((j.toNat:Nat):Int)=j by lia];exact hm
  ·rintro⟨m,p,hp,rfl,hj⟩;rw[zO] at hp;let⟨p',TY,rfl⟩:=Option.map_eq_some_iff.mp hp;rw[eC,(h.tl m p' TY).mem_iff,m7] at hj
   rwa [qY]
 have two:∀ {r:List Int},r∈W.map (λw=>[w.1,w.2.1])->∃i j,r=[i,j]:=λhr=>by
  let⟨w,_,rfl⟩:=List.mem_map.mp hr;exact⟨_,_,rfl⟩
 have ng:∀ (L:List Pl),(∀p∈L,p.2.Nodup)->(eU 0 (L.map ba)).Nodup:=λL hL=>iN λp hp=>by
  let⟨p',TY,rfl⟩:=List.mem_map.mp hp;rw[eC];exact hL p' TY
 have e1:W.map (λw=>[w.1,w.2.1])=Q7 (eU 0 (G.map ba)):=D5 h.wp (ng G λp hp=>by
   let⟨i,hi,e⟩:=qM hp;exact (h.gl i p (by rw[zK hi,e])).nodup_iff.mpr (iL h.wp i)) λr=>⟨λhr=>by
   let⟨i,j,rfl⟩:=two hr;exact (Zo i j).mp hr,λhr=>by
   let⟨i,j,rfl⟩:=fD r hr;exact (Zo i j).mpr hr⟩
 have e2:W.map (λw=>[w.1,w.2.1])=Q7 ((eU 0 (T.map ba)).map List.reverse):=D5 h.wp (by
   exact List.pairwise_map.mpr (List.Pairwise.imp (λ{a b} QS e=>QS (List.reverse_inj.mp e)) (ng T λp hp=>by
    let⟨i,hi,e⟩:=qM hp;exact (h.tl i p (by rw[zK hi,e])).nodup_iff.mpr (i6 h.wp i)))) λr=>⟨λhr=>by
   let⟨i,j,rfl⟩:=two hr;exact List.mem_map.mpr ⟨[j,i],(Zq i j).mp hr,rfl⟩,λhr=>by
   let⟨r',Rq,rfl⟩:=List.mem_map.mp hr;let⟨i,j,rfl⟩:=fD r' Rq;exact (Zq j i).mpr Rq⟩
 have hw:(W.map bL).all (fV G.length T.length)=true:=by
  rw[xC];intro x hx;let⟨w,hw,rfl⟩:=List.mem_map.mp hx;exact AG (h.wr w hw)
 have hs:∀ {L:List Pl},1<=L.length->L.length<=4->lL (.tuple (L.map ba))=true:=λ{L} a b=>by
  simp?[lL,long,zD,zF,zJ];lia
 have h3:long 3 3 (gq G T W)=true:=rfl;have hg:=h.gok;have ht:=h.tok;unfold BH je;rw[h3,jF];simp?[gq,bE,vF,vG,hP,<- e1,<- e2,jI,Bool.and_true,fE,hs h.g1 h.g4,hs h.t1 h.t4,zD,hg,ht,hw,IU]
def sI(b:Bool):Int:=if b then 1 else 0
def JR(b:Bool)(w:Wy):Int:=if b then w.2.1 else w.1
def OT(b:Bool)(w:Wy):Int:=JR (!b) w
def Bb(b:Bool)(G T:List Pl):List Pl:=if b then T else G
def yf(b:Bool)(G T:List Pl)(W:List Wy):bz (gq G T W) (.int (sI b))=some (.tuple ((Bb b G T).map ba)):=by cases b<;>rfl
def Fi(G T:List Pl)(W:List Wy):bz (gq G T W) (.int 2)=some (.tuple (W.map bL)):=rfl
def v8(h:ds[i]?=some d):bz (.tuple ds) (.int ((i:Nat):Int))=some d:=by
 show jh ds (i:Nat)=_;exact rV h
def CK(h:ds[i]?=some d):bz (.list ds) (.int ((i:Nat):Int))=some d:=by
 show jh ds (i:Nat)=_;exact rV h
def Fh{l:List α}(h:l[i]?=some x):bz (.list (l.map f)) (.int ((i:Nat):Int))=some (f x):=CK (by rw[zO,h];rfl)
def GP(W:List Wy)(i:Nat):Wy:=W.getD i (0,0,0)
def own(b:Bool)(W:List Wy)(p:Int):List Nat:=(List.range W.length).filter λi=>decide (JR b (GP W i)=p)
def P7(b:Bool)(W:List Wy)(p o:Int):Nat:=W.findIdx λw=>decide (JR b w=p)&&decide (OT b w=o)
def Pc(b:Bool)(W:List Wy)(p:Int)(L:List Int):List Nat:=L.map (P7 b W p)
abbrev nD(n:Nat):D:=.int ((n:Nat):Int)
local macro_rules|`(tactic| dsimp! [$ts,*])=>`(tactic| simp only[ae,fC,f1,f2,aa,ah,ai,aY,f7,aH,gV,bI,fB,gB,cq,oA,d5,sN,aL,bR,yj,Ap,z6,xl,yp,Ad,zI,yQ,xM,yU,zA,zB,qD,zL,xG,Nat.reduceAdd,qY,reduceIte,yS,yR,$ts,*])
def gD(h:g9 tgt gb ds ρ1=o)(hi:fi (bR ρ1)=some ds)(hh:hand fz 0 ρ=ρ1):mI fz fi tgt gb ρ=o:=by
 simp?[mI,hh,hi,zA,h]
def k6(hh:hand fz 0 ρ=ρ')(hf:f (bR ρ')=some ds):bf i fz f ρ=some (.nx (ρ'.set i (.own ds))):=by
 simp?[bf,hh,hf,zB]
def cN(hf:f (bR ρ)=some ds)(hh:hand fz 0 ρ=ρ):bf i fz f ρ=some (.nx (ρ.set i (.own ds))):=k6 hh hf
def vT(hh:hand fz 0 ρ=ρ')(hA:f (aL ρ)=some d)(hF:f (bR ρ')=some d)(hs:Dl.mM d=false)(hr:gS d=false\/ρ'=ρ:=by first|exact .inr rfl|exact .inl rfl):Dl.aS i fz f ρ=some (.nx (ρ'.set i (.val d))):=by
 rcases hr with hr|hr
 ·simp?[Dl.aS,hA,zA,hs,yK,qL,hh,hF,zB,hr]
 ·subst hr;simp?[Dl.aS,hA,zA,hs,yK,qL,hh,hF,zB,ite_self]
def call_of(h:m ds=some d)(hf:fs ρ=some ds)(hn:ds.length=n):ai n m fs ρ=some d:=by
 unfold ai;rw[hf,zA,yH hn,h]
def cons_of(h:f ρ=some d)(hs:fs ρ=some ds):aa f fs ρ=some (d::ds):=by
 unfold aa;rw[h,hs];rfl
def bY(hf:f (aL ρ)=some d):bh f ρ=some (.rt d):=by
 simp?[bh,hf,zB]
def wG(hf:f (aL ρ)=some d):u9 f ρ=some (.nx ρ):=by
 simp?[u9,hf,zB]
def cZ(h:t (aL ρ)=some false):iW t g hV ρ=some (.nx ρ):=by
 simp[iW,h,hV]
def fA(h:t (aL ρ)=some true):iW t g g2 ρ=g ρ:=by
 simp[iW,h]
def l4(h:g1 ρ=some (.rt d)):aA g1 g2 ρ=some (.rt d):=by
 simp?[aA,h,zA]
def lp(cont:S->Bool)(st:S->S):Nat->S->S
 | 0,s=>s
 | n+1,s=>if cont s=true then lp cont st n (st s) else s
def eJ(l:List D):aU [.list l]=some (.tuple l):=rfl
def Hw(l:List D):cB [.tuple l]=some (nD l.length):=rfl
def A3(h:n<=1000):lF [nD n]=some ((List.range n).map nD):=by
 rw[B8 (Hb h),yD]
def rL(h:fs ρ=some [nD n])(hn:n<=1000):fK fs ρ=some ((List.range n).map nD):=by
 unfold fK;rw[h,zA,A3 hn]
def sub_int(i j:Int):Dl.mO (.int i) (.int j)=some (.int (i - j)):=nq i j
def cV(W:List Wy)(off:List Int)(left:Int)(i:Nat):Int:=min (min (off.getD i 0) (GP W i).2.2) left
def PQ(W:List Wy)(off:List Int)(s:Int×List Int)(i:Nat):Int×List Int:=(s.1 - cV W off s.1 i,s.2.set i (cV W off s.1 i))
def Qi(W:List Wy)(off:List Int)(LL:Int)(is:List Nat):List Int:=(is.foldl (PQ W off) (LL,List.replicate W.length 0)).2
def KA(b:Bool)(G T:List Pl)(i:Nat):Pl:=(Bb b G T).getD i (0,[])
def PV(b:Bool)(G T:List Pl)(W:List Wy)(off s:List Int)(i:Nat):List Int:=List.zipWith (·+·) s (Qi W off (KA b G T i).1 (Pc b W i (KA b G T i).2))
def Kz(b:Bool)(G T:List Pl)(W:List Wy)(off:List Int):List Int:=(List.range (Bb b G T).length).foldl (PV b G T W off) (List.replicate W.length 0)
def FZ(h:(xs++ys).length<=4000):Dl.aK (.tuple xs) (.tuple ys)=some (.tuple (xs++ys)):=by
 simp?[Dl.aK,sx,Hu,bA h,zB,Option.none_or,Option.some_or]
def ax(h:g a b=some c)(ha:fa ρ=some a)(hb:fb ρ=some b):f2 g fa fb ρ=some c:=by rw[MZ ha hb,h]
def J4(h:f ρ=some (.tuple ds))(h2:g ρ=some (nD k)):aP aI f aJ (cm g) ρ=some (.tuple (ds.take k)):=by
 simp?[aP,h,aJ,cm,h2,zA,gI,zB,aI,BJ]
def rY(h:f ρ=some (.tuple ds))(h2:g ρ=some (nD k)):aP aI f (cm g) aJ ρ=some (.tuple (ds.drop k)):=by
 simp?[aP,h,aJ,cm,h2,zA,gI,zB,aI,uC]
def N8(d:D)(ds:List D):bz (.list (d::ds)) (.int 0)=some d:=CK (i:=0) rfl
def LA(d:D)(ds:List D):bz (.tuple (d::ds)) (.int 0)=some d:=v8 (i:=0) rfl
def K9(W:List Wy):List Int:=W.map λw=>w.2.2
def Pm(G T:List Pl)(W:List Wy)(c:List Int):List Int:=Kz true G T W (Kz false G T W c)
def qR(G T:List Pl)(W:List Wy)(c:List Int)(k:Nat):Bool:=decide ((Pm G T W c).getD k 0 < (Kz false G T W c).getD k 0)
def Pj(G T:List Pl)(W:List Wy)(c:List Int):Option (Nat×Int):=((List.range W.length).find? (qR G T W c)).map λk=>(k,(Pm G T W c).getD k 0)
def Off(off:List Int):Prop:=∀i,0<=off.getD i 0
def Pi(c:List Int):Nat:=(c.map Int.toNat).sum
def D1(a b:List Int):PyData.eqv (aE a) (aE b)=decide (a=b):=by
 rw[aE,aE,PyData.eqv,oI]
def cn(h:f ρ=some (.bool b)):fB f ρ=some b:=by
 simp?[fB,h,zA,gB]
def iM(h:t ρ=some b):cq t ρ=some (!b):=by
 simp?[cq,h,zB]
def K1(h:t ρ=some false)(h2:u ρ=some false):d5 t u ρ=some false:=by
 simp?[d5,h,zA,h2]
def As:cS .none .none=some (.bool false):=by
 simp[cS,HU,SeqAt.shaped,PyData.canLay0,PyData.depth,PyData.eqv]
def cT(hA:f (aL ρ)=some d)(hF:f (bR ρ)=some d)(hh:hand fz 0 ρ=ρ):Dl.aS i fz f ρ=some (.nx (ρ.set i (.val d))):=by
 cases hs:Dl.mM d with
 | true=>exact bH hA hs
 | false=>exact vT hh hA hF hs (.inr rfl)
def vy(hA:f (aL ρ)=some d)(hF:f (bR ρ)=some d)(hh:hand fz 0 ρ=ρ)(ho:ρ[i]?=some (.own ds))(hl:ds.length < 4000):j1 i fz f ρ=some (.nx (ρ.set i (.own (ds++[d])))):=by
 have hz:ds.length < sizeLine:=zP hl (by decide);have hi:mj fz f ρ=some (d,ρ):=by
  unfold mj;rw[hA,zA,hh,hF];cases Dl.mM d<;>rfl
 simp?[j1,hi,zA,o8,ho,hz,xD,zB]
def o6(h:Wd G T W):fP [gq G T W]=some .none:=by
 have hw:aV [gq G T W]=some (.bool true):=by rw[gJ h.fit (by decide),h.Yp]
 have hc:(cq (fB (ai 1 aV (aa (ae 0) ah)))) (aL [.val (gq G T W)])=some false:=iM (cn (call_of hw rfl rfl));have:dG [.val (gq G T W)]=some (.nx [.val (gq G T W)]):=by
  unfold dG;rw[cZ hc]
 show (dG [.val (gq G T W)]).map _=_;rw[this];rfl
def oU(h1:a<=i)(h2:i<=b):fR [.int i,.int a,.int b]=some .none:=by
 have hw:bJ [.int i,.int a,.int b]=some (.bool true):=by rw[eV rfl];simp[whole,h1,h2]
 have hc:(cq (fB (ai 3 bJ (aa (ae 0) (aa (ae 1) (aa (ae 2) ah)))))) (aL [.val (.int i),.val (.int a),.val (.int b)])=some false:=iM (cn (call_of hw rfl rfl));have:cx [.val (.int i),.val (.int a),.val (.int b)]=some (.nx [.val (.int i),.val (.int a),.val (.int b)]):=by
  unfold cx;rw[cZ hc]
 show (cx [.val (.int i),.val (.int a),.val (.int b)]).map _=_;rw[this];rfl
def nL(h1:0<=i)(h2:i<=n - 1):eI [.int i,.int n]=some .none:=by
 have:bZ [.val (.int i),.val (.int n)]=some (.nx [.val (.int i),.val (.int n)]):=by
  unfold bZ;exact wG (call_of (oU h1 h2) (cons_of rfl (cons_of rfl (cons_of (ax (sub_int n 1) rfl rfl) rfl))) rfl)
 show (bZ [.val (.int i),.val (.int n)]).map _=_;rw[this];rfl
def rK(b:Bool):kr [.int (sI b)]=some .none:=by
 have:d6 [.val (.int (sI b))]=some (.nx [.val (.int (sI b))]):=by
  unfold d6;exact wG (call_of (nL (n:=2) (i:=sI b) (by cases b<;>decide) (by cases b<;>decide)) rfl rfl)
 show (d6 [.val (.int (sI b))]).map _=_;rw[this];rfl
abbrev Sp:=List (Nat×Int)×List Int
def P5(G T:List Pl)(W:List Wy)(s:Sp):Bool:=(Pj G T W s.2).isSome
def spS(G T:List Pl)(W:List Wy)(s:Sp):Sp:=match Pj G T W s.2 with|some p=>(s.1++[p],s.2.set p.1 p.2)|none=>s
def low(c:List Int)(p:Nat×Int):List Int:=c.set p.1 p.2
structure Ql(W:List Wy)(s:Sp):Prop where
 len:s.2.length=W.length
 off:Off s.2
 eq:s.2=s.1.foldl low (K9 W)
 bd:s.1.length+Pi s.2<=Pi (K9 W)
 mem:∀p∈s.1,p.1 < W.length
def fin(G T:List Pl)(W:List Wy):Sp:=lp (P5 G T W) (spS G T W) Rf.turns ([],K9 W)
structure Ord(W:List Wy)(π:List Nat):Prop where
 perm:π.Perm (List.range W.length)
 up:π.Pairwise λi j=>(GP W i).2.1 < (GP W j).2.1\/((GP W i).2.1=(GP W j).2.1/\(GP W i).1 < (GP W j).1)
def Pz(b:Bool)(W:List Wy)(P:List Int)(p:Int):Int:=((own b W p).map λi=>P.getD i 0).sum
structure Pn(G T:List Pl)(W:List Wy)(P:List Int):Prop where
 len:P.length=W.length
 bd:∀k,k < W.length->0<=P.getD k 0/\P.getD k 0<=(GP W k).2.2
 am:∀ (b:Bool) (i:Nat),i < (Bb b G T).length->Pz b W P i<=(KA b G T i).1
section
variable {off:List Int}
end
def zs(n:Nat):List Int:=List.replicate n 0
section
variable {W:List Wy}{G T:List Pl}{d:Nat->Int}
end
section
variable {P off:List Int}
end
def bS(h:f ρ=some d):aY g (aa f ah) ρ=g [d]:=by
 simp?[aY,aa,ah,h,zB,zA]
def qr{l:List α}(h:f ρ=some (.tuple (l.map k))):aY cB (aa f ah) ρ=some (nD l.length):=by
 rw[bS h,Hw,zD]
def tup_is(h:fs ρ=some ds)(hl:ds.length<=1000):bT fs ρ=some (.tuple ds):=by
 simp?[bT,h,zA,bA (show ds.length<=4000 by lia),zB]
def rg(h:f ρ=some (.list ds))(h2:g ρ=some (nD k)):aP aI f (cm g) aJ ρ=some (.list (ds.drop k)):=by
 have:=uC ds k;simp?[aP,h,cm,h2,aJ,gI,aI,zA,zB,this]
def j3(f:Nat->D)(R:Nat->au->Prop):∀ (n k:Nat) (ρ:au),
  (∀j ρ,k<=j->j < k+n->R j ρ->∃ρ1 RC,tgt ρ (f j)=some ρ1/\gb ρ1=some (.nx RC)/\R (j+1) RC)->R k ρ->∃ρ',g9 tgt gb ((List.range' k n).map f) ρ=some (.nx ρ')/\R (k+n) ρ'
 | 0,k,ρ,_,h=>⟨ρ,rfl,h⟩
 | n+1,k,ρ,hh,h=>by
  let⟨ρ1,RC,e1,e2,h2⟩:=hh k ρ (yI _) (by lia) h;let⟨ρ',e3,h3⟩:=j3 f R n (k+1) RC (λj ρ a b=>hh j ρ (by lia) (by lia)) h2;refine⟨ρ',?_,by rw[show k+(n+1)=k+1+n by lia];exact h3⟩;rw[List.range'_succ,zI,g9,e1,zA,e2];exact e3
def GT(h:tc ρ=some true)(ha:fa ρ=some d):Jl tc fa fb ρ=some d:=by
 simp?[Jl,h,zA,ha]
def Lv(h:tc ρ=some false)(ha:fb ρ=some d):Jl tc fa fb ρ=some d:=by
 simp?[Jl,h,zA,ha]
def mr:∀ {l:List D},(∀d∈l,PyData.eqv d d=true)->PyData.eqvAll l l=true
 | [],_=>by simp[PyData.eqvAll]
 | d::l,h=>by
  rw[PyData.eqvAll,h d zE,mr λx hx=>h x (zC _ hx)];rfl
def j9(h:∀d∈l,PyData.eqv d d=true):PyData.eqv (.tuple l) (.tuple l)=true:=by
 rw[PyData.eqv,mr h]
def wJ(a:List Int):PyData.eqv (aE a) (aE a)=true:=by rw[D1];simp
def Jx(a:Int):PyData.eqv (.int a) (.int a)=true:=by
 have:=wJ [a];rw[aE,PyData.eqv,zI,yQ,PyData.eqvAll] at this;simp?[zF] at this;exact this.1
def zh(p:Pl):PyData.eqv (ba p) (ba p)=true:=j9 λd hd=>by
 rcases List.mem_cons.mp hd with rfl|hd
 ·exact Jx _
 ·rw[yG] at hd;subst hd;exact wJ _
def Gm(w:Wy):PyData.eqv (bL w) (bL w)=true:=wJ [w.1,w.2.1,w.2.2]
def JU(G T:List Pl)(W:List Wy):PyData.eqv (gq G T W) (gq G T W)=true:=j9 λd hd=>by
 rcases List.mem_cons.mp hd with rfl|hd
 ·exact j9 λd hd=>by let⟨p,_,rfl⟩:=List.mem_map.mp hd;exact zh p
 rcases List.mem_cons.mp hd with rfl|hd
 ·exact j9 λd hd=>by let⟨p,_,rfl⟩:=List.mem_map.mp hd;exact zh p
 ·rw[yG] at hd;subst hd;exact j9 λd hd=>by let⟨p,_,rfl⟩:=List.mem_map.mp hd;exact Gm p
def zy(h:Wd G T W):cS (gq G T W) (gq G T W)=some (.bool false):=by
 have hs:SeqAt.shaped (gq G T W)=true:=h.fit.shaped (by decide);simp?[cS,HU,hs,and_self,xD,JU,zB,xV]
def oG(h:Wd G T W):aV [gq G T W]=some (.bool true):=by rw[gJ h.fit (by decide),h.Yp]
def sm(l:List Nat)(f:Nat->Int):Int:=(l.map f).sum
def ch(m:Nat->Int):Int->List Nat->Nat->Int
 | _,[],_=>0
 | a,q::r,k=>if k=q then min (m q) a else ch m (a - min (m q) a) r k
def up:List Nat->Nat->List Nat
 | [],_=>[]
 | q::r,k=>if k=q then [q] else q::up r k
def lst(b:Bool)(G T:List Pl)(W:List Wy)(i:Nat):List Nat:=Pc b W i (KA b G T i).2
def LL(b:Bool)(G T:List Pl)(i:Nat):Int:=(KA b G T i).1
def vl(P:List Int)(q:Nat):Int:=P.getD q 0
section
variable {G T:List Pl}{W:List Wy}{P X c off:List Int}{b:Bool}{i k q:Nat}
end
section
variable {P X c off:List Int}
end
section
variable {P X c off:List Int}
end
section
variable {P X c off:List Int}
end
def bq(h:f ρ=some ds):bI f ρ=some (.list ds):=by
 simp?[bI,h,zB]
def qt(h:f ρ=some (.tuple ds)):aH f ρ=some ds:=by
 simp?[aH,h,zA,gV]
def bK(h:f ρ=some (.list ds)):aH f ρ=some ds:=by
 simp?[aH,h,zA,gV]
def iC(h:fs ρ=some ds)(hl:ds.length<=1000):cC fs ρ=some ds:=by
 simp?[cC,h,zA,bA (show ds.length<=4000 by lia)]
structure Wk(G T G' T':List Pl):Prop where
 len:∀b,(Bb b G' T').length=(Bb b G T).length
 lik:∀b i,(KA b G' T' i).2=(KA b G T i).2
 gv:∀i,LL false G' T' i<=LL false G T i
 tk:∀i,LL true G T i<=LL true G' T' i
section
variable {P X off:List Int}
end
def ext(l:Int)(r:List Int):List (List Int):=(List.range (l+1).toNat).map λm=>r++[((m:Nat):Int)]
def n6:∀ (l:List α),(∀x∈l,tt (some (g x)::r)=some (q x)/\(q x=true->te (some (g x)::r)=some (f x)))->cw (fG 0) tt te (none::r) (l.map g)=some ((l.filter q).map f)
 | [],_=>rfl
 | x::l,h=>by
  have ih:=n6 (tt:=tt) (te:=te) (r:=r) (g:=g) (f:=f) (q:=q) l λy hy=>h y (zC _ hy);let⟨h1,h2⟩:=h x zE;have hg:fG 0 (none::r) (g x)=some (some (g x)::r):=rfl;rw[zI,cw,hg,zA,h1,zA,jP];cases e:q x with
  | true =>
   rw[yH rfl,yH rfl,h2 e,zA,ih];rfl
  | false =>
   rw[yJ (by simp),yJ (by simp),ih]
def Au{α:Type}{cs:List Nat}{fi:Dl.Env->Option (List D)}{tt:Dl.Env->Option Bool}{te:Dl.Env->Option D}{ρ:Dl.Env}{l:List α}{g f:α->D}{q:α->Bool}(Rt:fi ρ=some (l.map g))(hl:l.length<=3000)(hh:∀x∈l,tt (some (g x)::cs.map λj=>(ρ[j]?).getD none)=some (q x)/\(q x=true->te (some (g x)::cs.map λj=>(ρ[j]?).getD none)=some (f x))):az 1 cs fi (fG 0) tt te ρ=some ((l.filter q).map f):=by
 have:=n6 l hh;simp?[az,Rt,zA,eW,List.replicate,xB,xJ,this];refine bA ?_;rw[zD];refine yA (xK _ _) ?_;lia
def aZ{α:Type}{cs:List Nat}{fi:Dl.Env->Option (List D)}{tt:Dl.Env->Option Bool}{te:Dl.Env->Option D}{ρ:Dl.Env}{l:List α}{g f:α->D}{q:α->Bool}(Rt:fi ρ=some (l.map g))(hl:l.length<=1000)(hh:∀x∈l,tt (some (g x)::cs.map λj=>(ρ[j]?).getD none)=some (q x)/\(q x=true->te (some (g x)::cs.map λj=>(ρ[j]?).getD none)=some (f x))):az 1 cs fi (fG 0) tt te ρ=some ((l.filter q).map f):=Au Rt (by lia) hh
def sh(k q:Nat):Nat:=if q < k then q else q+1
section
variable {G T:List Pl}{W:List Wy}{P X:List Int}{b:Bool}{i k q:Nat}
end
def eh{a c:List Int}(h:lexLt a c=false)(h2:lexLt c a=false):a=c:=n9 (by unfold lexLe;rw[h2];rfl) (by unfold lexLe;rw[h];rfl)
section
open Ex
structure LY(m:List D->Option D)(x:List D->Option Str)(ds:List D)(c:Str):Prop where
 n:m ds=none
 x:x ds=some c
structure O5(m:List D->Option D)(x:List D->Option Str)(ds:List D):Prop where
 n:m ds=some .none
 x:x ds=none
section
variable {m:List D->Option D}{x:List D->Option Str}{ds:List D}{c:Str}{n:Nat}{fs:Dl.Env->Option (List D)}{ρ:au}
def mw(h:m ds=none){ρ:Dl.Env}(hf:fs ρ=some ds):ai n m fs ρ=none:=by
 unfold ai;rw[hf,zA,h];simp
def Im(h:x ds=some c){ρ:Dl.Env}(hf:fs ρ=some ds)(hn:ds.length=n):m8 n x fs ρ=some c:=by
 unfold m8;rw[hf,zA,yH hn,h]
def Iw(h:x ds=none){ρ:Dl.Env}(hf:fs ρ=some ds):m8 n x fs ρ=none:=by
 unfold m8;rw[hf,zA,h];simp
def runN(h:g (ds.map Slot.val++List.replicate (n - ds.length) .Qo)=none):bN g n ds=none:=by
 unfold bN;rw[h];rfl
def NM(h:t (aL ρ)=some true):Fc t xa xb ρ=xa ρ:=by
 unfold Fc;rw[h,zA,yH rfl]
def JZ(h:t (aL ρ)=some false):Fc t xa xb ρ=xb ρ:=by
 unfold Fc;rw[h,zA,yJ (by simp)]
end
section
variable {G T:List Pl}{W:List Wy}{P X:List Int}{b:Bool}{i:Nat}
def Nl{fin:Str->Option D}(h:gb ρ=some (.rt d)):sC gb xg fin ρ=some (.rt d):=by
 unfold sC;rw[h]
def KQ{fin:Str->Option D}(h:gb ρ=none)(h2:xg ρ=some c)(h3:fin c=some d):sC gb xg fin ρ=some (.rt d):=by
 unfold sC;rw[h,h2];simp?[zA,h3,zB]
end
end
def L6:∀ (l:List Int),jg (l.map PyData.int)=true
 | []=>by simp[jg]
 | x::l=>by rw[zI,jg,L6 l];simp[gS]
def Oj(l:List Int):gS (aE l)=true:=by rw[aE,gS,L6]
def HL{i:Nat}{fz:List Nat}{f:Dl.Env->Option D}{ρ:au}{l:List Int}(hA:f (aL ρ)=some (aE l))(hF:f (bR (hand fz 0 ρ))=some (aE l)):Dl.aS i fz f ρ=some (.nx (ρ.set i (.val (aE l)))):=by
 have hs:Dl.mM (aE l)=false:=rfl;simp?[Dl.aS,hA,hF,zA,hs,yK,qL,zB,Oj,xD]
structure WI(s k:Int)(W:List Wy):Prop where
 mem:∀w∈W,∃j:Int,0<=j/\j < k/\w.1=j / s/\w.2.1=j % s/\1<=w.2.2/\w.2.2<=9
 Uv:Fv W
 len:(W.length:Int)<=k
def P0{a b s:Int}(hs:1<=s/\s<=4)(h:a < b):a / s < b / s\/(a / s=b / s/\a % s < b % s):=by
 have:s=1\/s=2\/s=3\/s=4:=by lia
 rcases this with rfl|rfl|rfl|rfl<;>lia
def OP{k m s:Int}(hs:1<=s/\s<=4)(hm:1<=m/\m<=4)(h0:0<=k)(h:k < m * s):(0<=k / s/\k / s < m)/\0<=k % s/\k % s < s:=by
 have a:s=1\/s=2\/s=3\/s=4:=by lia
 have b:m=1\/m=2\/m=3\/m=4:=by lia
 rcases a with rfl|rfl|rfl|rfl<;>rcases b with rfl|rfl|rfl|rfl<;>lia
def WI.next{ns:List Int}{a s k:Int}{W:List Wy}(hl:ns.length<=63)(hs:1<=s/\s<=4)(hk:0<=k)(h:WI s k W):WI s (k+1) (W++[(k / s,k % s,1+dr ns a 9)]):=by
 have g1:=Nc (ns:=ns) a 9 hl (by decide);have g2:=Ni (ns:=ns) a 9 hl (by decide);refine⟨λw hw=>?_,?_,?_⟩
 ·rcases List.mem_append.mp hw with hw|hw
  ·let⟨j,a,b,c⟩:=h.mem w hw;exact⟨j,a,by lia,c⟩
  ·rw[yG] at hw;subst hw;exact⟨k,hk,by lia,rfl,rfl,by simp only;lia,by simp only;lia⟩
 ·refine List.pairwise_append.mpr ⟨h.Uv,kN _ _,λa ha b hb=>?_⟩;rw[yG] at hb;subst hb;let⟨j,_,b,c1,c2,_⟩:=h.mem a ha;rw[c1,c2];exact P0 hs b
 ·have:=h.len;rw[zN,yY];lia
def WI.skip{s k:Int}{W:List Wy}(h:WI s k W):WI s (k+1) W:=⟨λw hw=>by
 let⟨j,a,b,c⟩:=h.mem w hw;exact⟨j,a,by lia,c⟩,h.Uv,by have:=h.len;lia⟩
def NU:au->Option Out:=(iW (fB (f2 cc (ai 3 ak (aa (ae 0) (aa (f2 aK (f2 aK (ae 1) (fC (.int 2))) (ae 5)) (aa (fC (.int 2)) ah)))) (fC (.int 0)))) (j1 4 [0,1,3,5] (bT (aa (f2 lG (ae 5) (ae 3)) (aa (f2 jm (ae 5) (ae 3)) (aa (f2 aK (fC (.int 1)) (ai 3 ak (aa (ae 0) (aa (f2 aK (f2 aK (ae 1) (fC (.int 20))) (ae 5)) (aa (fC (.int 9)) ah))))) ah))))) hV)
abbrev sw(ns:List Int)(a:Int)(m s:Nat)(x4 x5 x6 x7 x8 x9 x10 x11:Slot):au:=[.val (pM ns),.val (.int a),.val (nD m),.val (nD s),x4,x5,x6,x7,x8,x9,x10,x11]
def NP:au->Option Out:=(aA (aS 8 [4,7] (aY aU (aa (bI (az 1 [7] (aH (ae 4)) (fG 0) (fB (f2 cc (f2 bz (ae 0) (fC (.int 0))) (ae 1))) (f2 bz (ae 0) (fC (.int 1))))) ah))) (aA (aS 9 [0,1,7,8] (ai 3 ak (aa (ae 0) (aa (f2 aK (f2 aK (ae 1) (fC (.int 40))) (ae 7)) (aa (f2 aK (aY cB (aa (ae 8) ah)) (fC (.int 1))) ah))))) (j1 6 [0,1,7,8,9] (bT (aa (ai 3 ak (aa (ae 0) (aa (f2 aK (f2 aK (ae 1) (fC (.int 44))) (ae 7)) (aa (fC (.int 10)) ah)))) (aa (f2 aK (aP aI (ae 8) (cm (ae 9)) aJ) (f1 uR (aP aI (ae 8) aJ (cm (ae 9))))) ah))))))
def O6:au->Option Out:=(aA (aS 8 [4,11] (aY aU (aa (bI (az 1 [11] (aH (ae 4)) (fG 0) (fB (f2 cc (f2 bz (ae 0) (fC (.int 1))) (ae 1))) (f2 bz (ae 0) (fC (.int 0))))) ah))) (aA (aS 9 [0,1,8,11] (ai 3 ak (aa (ae 0) (aa (f2 aK (f2 aK (ae 1) (fC (.int 50))) (ae 11)) (aa (f2 aK (aY cB (aa (ae 8) ah)) (fC (.int 1))) ah))))) (j1 10 [0,1,8,9,11] (bT (aa (ai 3 ak (aa (ae 0) (aa (f2 aK (f2 aK (ae 1) (fC (.int 54))) (ae 11)) (aa (fC (.int 10)) ah)))) (aa (f2 aK (aP aI (ae 8) (cm (ae 9)) aJ) (f1 uR (aP aI (ae 8) aJ (cm (ae 9))))) ah))))))
section
variable {ns:List Int}{a:Int}{m s:Nat}
def FO(hl:ns.length<=63)(hs:1<=s/\s<=4){k:Nat}{W:List Wy}(hk:k < 16)(h:WI s k W):∃W',NU (sw ns a m s (.own (W.map bL)) (.val (nD k)) .Qo .Qo .Qo .Qo .Qo .Qo)=some (.nx (sw ns a m s (.own (W'.map bL)) (.val (nD k)) .Qo .Qo .Qo .Qo .Qo .Qo))/\WI s ((k+1:Nat):Int) W':=by
 have e2:=IK (ns:=ns) (a+2+((k:Nat):Int)) 2 hl (by decide);have e9:=IK (ns:=ns) (a+20+((k:Nat):Int)) 9 hl (by decide);have c:∀ρ:Dl.Env,ae 0 ρ=some (pM ns)->ae 1 ρ=some (.int a)->ae 5 ρ=some (nD k)->(fB (f2 cc (ai 3 ak (aa (ae 0) (aa (f2 aK (f2 aK (ae 1) (fC (.int 2))) (ae 5)) (aa (fC (.int 2)) ah)))) (fC (.int 0)))) ρ=some (decide (dr ns (a+2+((k:Nat):Int)) 2=0)):=λρ h0 h1 h5=>cn (ax (gw _ _) (call_of e2 (cons_of h0 (cons_of (ax (aN _ _) (ax (aN _ _) h1 rfl) h5) (cons_of rfl rfl))) rfl) rfl);unfold NU;cases hc:decide (dr ns (a+2+((k:Nat):Int)) 2=0) with
 | false=>exact⟨W,cZ ((c _ rfl rfl rfl).trans (by rw[hc])),by have:=h.skip;rwa [show ((k:Int)+1)=((k+1:Nat):Int) by lia] at this⟩
 | true =>
  refine⟨W++[(((k:Nat):Int) / s,((k:Nat):Int) % s,1+dr ns (a+20+((k:Nat):Int)) 9)],?_,by have:=h.next (a:=a+20+((k:Nat):Int)) hl (by lia) (by lia);rwa [show ((k:Int)+1)=((k+1:Nat):Int) by lia] at this⟩;refine (fA ((c _ rfl rfl rfl).trans (by rw[hc]))).trans ?_;have hw:W.length<=16:=by have:=h.len;lia
  have ev:∀ρ:Dl.Env,ae 0 ρ=some (pM ns)->ae 1 ρ=some (.int a)->ae 3 ρ=some (nD s)->ae 5 ρ=some (nD k)->(bT (aa (f2 lG (ae 5) (ae 3)) (aa (f2 jm (ae 5) (ae 3)) (aa (f2 aK (fC (.int 1)) (ai 3 ak (aa (ae 0) (aa (f2 aK (f2 aK (ae 1) (fC (.int 20))) (ae 5)) (aa (fC (.int 9)) ah))))) ah)))) ρ=some (bL (((k:Nat):Int) / s,((k:Nat):Int) % s,1+dr ns (a+20+((k:Nat):Int)) 9)):=λρ h0 h1 h3 h5=>tup_is (ds:=[.int (((k:Nat):Int) / s),.int (((k:Nat):Int) % s),.int (1+dr ns (a+20+((k:Nat):Int)) 9)]) (cons_of (ax (iu ⟨by lia,by lia⟩) h5 h3) (cons_of (ax (fZ (by lia)) h5 h3) (cons_of (ax (aN _ _) rfl (call_of e9 (cons_of h0 (cons_of (ax (aN _ _) (ax (aN _ _) h1 rfl) h5) (cons_of rfl rfl))) rfl)) rfl))) (by simp);refine (vy (ds:=W.map bL) (ev _ rfl rfl rfl rfl) (ev _ rfl rfl rfl rfl) rfl rfl (by rw[zD];lia)).trans ?_;rw[qU];rfl
structure PI(F:Nat->List Int)(k:Nat)(G:List Pl):Prop where
 len:G.length=k
 am:∀p∈G,0<=p.1/\p.1<=9
 lk:∀ (i:Nat) (p:Pl),G[i]?=some p->p.2.Perm (F i)
def By(r:List Int)(t:Nat):(r.drop t++(r.take t).reverse).Perm r:=by
 refine (List.perm_append_comm).trans ?_;refine ((List.reverse_perm _).append_right _).trans ?_;rw[List.take_append_drop]
def PI.next{F:Nat->List Int}{k:Nat}{G:List Pl}(h:PI F k G){c:Int}(hc:0<=c/\c<=9)(t:Nat):PI F (k+1) (G++[(c,(F k).drop t++((F k).take t).reverse)]):=by
 refine⟨by rw[zN,h.len];rfl,λp hp=>?_,λi p hp=>?_⟩
 ·rcases List.mem_append.mp hp with hp|hp
  ·exact h.am p hp
  ·rw[List.mem_singleton.mp hp];exact hc
 ·rw[List.getElem?_append] at hp;split at hp
  ·exact h.lk i p hp
  ·rename_i hi;have hi:i=G.length:=by
    have:=(List.getElem?_eq_some_iff.mp hp).1;simp at this;lia
   subst hi;rw[Nat.sub_self] at hp;cases hp;rw[h.len];exact By _ _
def Ig{r:List Int}{t:Nat}{c:Int}{fa f8 f9:Dl.Env->Option D}{ρ:Dl.Env}(hr:r.length<=100)(ha:fa ρ=some (.int c))(h8:f8 ρ=some (aE r))(h9:f9 ρ=some (nD t)):(bT (aa fa (aa (f2 aK (aP aI f8 (cm f9) aJ) (f1 uR (aP aI f8 aJ (cm f9)))) ah))) ρ=some (ba (c,r.drop t++(r.take t).reverse)):=by
 refine tup_is (ds:=[.int c,aE (r.drop t++(r.take t).reverse)]) (cons_of ha (cons_of ?_ rfl)) (by simp);have e1:=rY (k:=t) h8 h9;have e2:f1 uR (aP aI f8 aJ (cm f9)) ρ=some (.tuple ((r.map PyData.int).take t).reverse):=by
  unfold f1;rw[J4 (k:=t) h8 h9];rfl
 refine ax ((FZ ?_).trans ?_) e1 e2
 ·rw[zN,qE,List.length_reverse,jO,zD];lia
 ·unfold aE;rw[qU,List.map_drop,List.map_reverse,List.map_take]
def Aa(W:List Wy)(i:Int):(mn W i).length<=W.length:=by
 rw[mn,zD];exact xK _ _
def Al(W:List Wy)(i:Int):(ofT W i).length<=W.length:=by
 rw[ofT,zD];exact xK _ _
def F7(hl:ns.length<=63){W:List Wy}(hw:W.length<=16){k:Nat}{G:List Pl}(hk:k < 4)(h:PI (λi=>mn W i) k G){x5:Slot}:∃G' y8 y9,NP (sw ns a m s (.own (W.map bL)) x5 (.own (G.map ba)) (.val (nD k)) x8 x9 .Qo .Qo)=some (.nx (sw ns a m s (.own (W.map bL)) x5 (.own (G'.map ba)) (.val (nD k)) y8 y9 .Qo .Qo))/\PI (λi=>mn W i) (k+1) G':=by
 have hr:=Aa W k;let⟨d1,p1,q1⟩:=dB (ns:=ns) (a+40+((k:Nat):Int)) (((mn W k).length:Int)+1) hl (by lia);let⟨d2,p2,q2⟩:=dB (ns:=ns) (a+44+((k:Nat):Int)) 10 hl (by decide);obtain⟨t,ht⟩:∃t:Nat,dr ns (a+40+((k:Nat):Int)) (((mn W k).length:Int)+1)=((t:Nat):Int):=⟨_,(Int.toNat_of_nonneg p1).symm⟩
 rw[ht] at d1;refine⟨G++[(dr ns (a+44+((k:Nat):Int)) 10,(mn W k).drop t++((mn W k).take t).reverse)],.val (aE (mn W k)),.val (nD t),?_,h.next (by lia) t⟩;have er:∀ρ:Dl.Env,ae 4 ρ=some (.list (W.map bL))->(ρ[7]?).getD none=some (nD k)->(aY aU (aa (bI (az 1 [7] (aH (ae 4)) (fG 0) (fB (f2 cc (f2 bz (ae 0) (fC (.int 0))) (ae 1))) (f2 bz (ae 0) (fC (.int 1))))) ah)) ρ=some (aE (mn W k)):=λρ h4 h7=>by
  have c:=aZ (cs:=[7]) (tt:=fB (f2 cc (f2 bz (ae 0) (fC (.int 0))) (ae 1))) (te:=f2 bz (ae 0) (fC (.int 1))) (g:=bL) (f:=λw=>.int w.2.1) (q:=λw=>decide (w.1=((k:Nat):Int))) (l:=W) (bK h4) (by lia) λw _=>⟨by
   simp?[zI,yQ,h7];exact cn (ax (gw w.1 k) (ax (zf w) rfl rfl) rfl),λ_=>ax (xp w) rfl rfl⟩
  rw[bS (bq c),eJ];unfold aE mn;rw[zM];rfl
 unfold NP;refine (ao (HL (er _ rfl rfl) (er _ rfl rfl))).trans ?_;refine (ao (bH (d:=nD t) (call_of d1 (cons_of rfl (cons_of (ax (aN _ _) (ax (aN _ _) rfl rfl) rfl) (cons_of (ax (aN _ _) (qr (l:=mn W k) (k:=PyData.int) rfl) rfl) rfl))) rfl) rfl)).trans ?_;have ep:∀ρ:Dl.Env,ae 0 ρ=some (pM ns)->ae 1 ρ=some (.int a)->ae 7 ρ=some (nD k)->ae 8 ρ=some (aE (mn W k))->ae 9 ρ=some (nD t)->_:=λρ h0 h1 h7 h8 h9=>Ig (r:=mn W k) (t:=t) (c:=dr ns (a+44+((k:Nat):Int)) 10) (fa:=ai 3 ak (aa (ae 0) (aa (f2 aK (f2 aK (ae 1) (fC (.int 44))) (ae 7)) (aa (fC (.int 10)) ah)))) (f8:=ae 8) (f9:=ae 9) (ρ:=ρ) (by lia) (call_of d2 (cons_of h0 (cons_of (ax (aN _ _) (ax (aN _ _) h1 rfl) h7) (cons_of rfl rfl))) rfl) h8 h9;refine (vy (ds:=G.map ba) (ep _ rfl rfl rfl rfl rfl) (ep _ rfl rfl rfl rfl rfl) rfl rfl (by rw[zD,h.len];lia)).trans ?_;rw[qU];rfl
def Hq(hl:ns.length<=63){W:List Wy}(hw:W.length<=16){k:Nat}{G:List Pl}(hk:k < 4)(h:PI (λi=>ofT W i) k G){x6 x7 x8 x9:Slot}{x5:Slot}:∃G' y8 y9,O6 (sw ns a m s (.own (W.map bL)) x5 x6 x7 x8 x9 (.own (G.map ba)) (.val (nD k)))=some (.nx (sw ns a m s (.own (W.map bL)) x5 x6 x7 y8 y9 (.own (G'.map ba)) (.val (nD k))))/\PI (λi=>ofT W i) (k+1) G':=by
 have hr:=Al W k;let⟨d1,p1,q1⟩:=dB (ns:=ns) (a+50+((k:Nat):Int)) (((ofT W k).length:Int)+1) hl (by lia);let⟨d2,p2,q2⟩:=dB (ns:=ns) (a+54+((k:Nat):Int)) 10 hl (by decide);obtain⟨t,ht⟩:∃t:Nat,dr ns (a+50+((k:Nat):Int)) (((ofT W k).length:Int)+1)=((t:Nat):Int):=⟨_,(Int.toNat_of_nonneg p1).symm⟩
 rw[ht] at d1;refine⟨G++[(dr ns (a+54+((k:Nat):Int)) 10,(ofT W k).drop t++((ofT W k).take t).reverse)],.val (aE (ofT W k)),.val (nD t),?_,h.next (by lia) t⟩;have er:∀ρ:Dl.Env,ae 4 ρ=some (.list (W.map bL))->(ρ[11]?).getD none=some (nD k)->(aY aU (aa (bI (az 1 [11] (aH (ae 4)) (fG 0) (fB (f2 cc (f2 bz (ae 0) (fC (.int 1))) (ae 1))) (f2 bz (ae 0) (fC (.int 0))))) ah)) ρ=some (aE (ofT W k)):=λρ h4 h7=>by
  have c:=aZ (cs:=[11]) (tt:=fB (f2 cc (f2 bz (ae 0) (fC (.int 1))) (ae 1))) (te:=f2 bz (ae 0) (fC (.int 0))) (g:=bL) (f:=λw=>.int w.1) (q:=λw=>decide (w.2.1=((k:Nat):Int))) (l:=W) (bK h4) (by lia) λw _=>⟨by
   simp?[zI,yQ,h7];exact cn (ax (gw w.2.1 k) (ax (xp w) rfl rfl) rfl),λ_=>ax (zf w) rfl rfl⟩
  rw[bS (bq c),eJ];unfold aE ofT;rw[zM];rfl
 unfold O6;refine (ao (HL (er _ rfl rfl) (er _ rfl rfl))).trans ?_;refine (ao (bH (d:=nD t) (call_of d1 (cons_of rfl (cons_of (ax (aN _ _) (ax (aN _ _) rfl rfl) rfl) (cons_of (ax (aN _ _) (qr (l:=ofT W k) (k:=PyData.int) rfl) rfl) rfl))) rfl) rfl)).trans ?_;have ep:∀ρ:Dl.Env,ae 0 ρ=some (pM ns)->ae 1 ρ=some (.int a)->ae 11 ρ=some (nD k)->ae 8 ρ=some (aE (ofT W k))->ae 9 ρ=some (nD t)->_:=λρ h0 h1 h7 h8 h9=>Ig (r:=ofT W k) (t:=t) (c:=dr ns (a+54+((k:Nat):Int)) 10) (fa:=ai 3 ak (aa (ae 0) (aa (f2 aK (f2 aK (ae 1) (fC (.int 54))) (ae 11)) (aa (fC (.int 10)) ah)))) (f8:=ae 8) (f9:=ae 9) (ρ:=ρ) (by lia) (call_of d2 (cons_of h0 (cons_of (ax (aN _ _) (ax (aN _ _) h1 rfl) h7) (cons_of rfl rfl))) rfl) h8 h9;refine (vy (ds:=G.map ba) (ep _ rfl rfl rfl rfl rfl) (ep _ rfl rfl rfl rfl rfl) rfl rfl (by rw[zD,h.len];lia)).trans ?_;rw[qU];rfl
def Jt(hl:ns.length<=63)(a:Int):∃G T W,fg [pM ns,.int a]=some (gq G T W)/\Wd G T W:=by
 have em:=dB (ns:=ns) a 4 hl (by decide);have es:=dB (ns:=ns) (a+1) 4 hl (by decide);let⟨m,hm⟩:=kO (show 0<=1+dr ns a 4 by lia);let⟨s,hs⟩:=kO (show 0<=1+dr ns (a+1) 4 by lia);have m1:1<=m/\m<=4:=by lia
 have s1:1<=s/\s<=4:=by lia
 have hms:m * s<=16:=vC m1.2 s1.2;let⟨ρ',f1,W,x5,rfl,I⟩:=j3 (tgt:=uz 5) (gb:=NU) nD (λk ρ=>∃W x5,ρ=sw ns a m s (.own (W.map bL)) x5 .Qo .Qo .Qo .Qo .Qo .Qo/\WI s ((k:Nat):Int) W) (m * s) 0 (sw ns a m s (.own []) .Qo .Qo .Qo .Qo .Qo .Qo .Qo)
  (λk ρ _ hk U9=>by
   let⟨W,x5,rfl,h⟩:=U9;let⟨W',e,h'⟩:=FO (a:=a) (m:=m) hl s1 (by lia) h;exact⟨_,_,rfl,e,W',_,rfl,h'⟩) ⟨[],_,rfl,λw hw=>(by cases hw),List.Pairwise.nil,by decide⟩
 rw[qY] at I;rw[<- yE] at f1;have hw:W.length<=16:=by have:=I.len;lia
 let⟨ρ',S9,G,x7,x8,x9,rfl,IG⟩:=j3 (tgt:=uz 7) (gb:=NP) nD (λk ρ=>∃G x7 x8 x9,ρ=sw ns a m s (.own (W.map bL)) x5 (.own (G.map ba)) x7 x8 x9 .Qo .Qo/\PI (λi=>mn W i) k G) m 0 (sw ns a m s (.own (W.map bL)) x5 (.own []) .Qo .Qo .Qo .Qo .Qo)
  (λk ρ _ hk U9=>by
   let⟨G,x7,x8,x9,rfl,h⟩:=U9;let⟨G',y8,y9,e,h'⟩:=F7 (a:=a) (m:=m) (s:=s) hl hw (by lia) h (x8:=x8) (x9:=x9) (x5:=x5);exact⟨_,_,rfl,e,G',_,_,_,rfl,h'⟩) ⟨[],_,_,_,rfl,rfl,λp hp=>(by cases hp),λi p hp=>(by cases hp)⟩
 rw[qY] at IG;rw[<- yE] at S9;let⟨ρ',f3,T,x11,y8,y9,rfl,IT⟩:=j3 (tgt:=uz 11) (gb:=O6) nD (λk ρ=>∃T x11 x8 x9,ρ=sw ns a m s (.own (W.map bL)) x5 (.own (G.map ba)) x7 x8 x9 (.own (T.map ba)) x11/\PI (λi=>ofT W i) k T) s 0 (sw ns a m s (.own (W.map bL)) x5 (.own (G.map ba)) x7 x8 x9 (.own []) .Qo)
  (λk ρ _ hk U9=>by
   let⟨T,x11,x8,x9,rfl,h⟩:=U9;let⟨T',y8,y9,e,h'⟩:=Hq (a:=a) (m:=m) (s:=s) hl hw (by lia) h (x6:=.own (G.map ba)) (x7:=x7) (x8:=x8) (x9:=x9) (x5:=x5);exact⟨_,_,rfl,e,T',_,_,_,rfl,h'⟩) ⟨[],_,_,_,rfl,rfl,λp hp=>(by cases hp),λi p hp=>(by cases hp)⟩
 rw[qY] at IT;rw[<- yE] at f3;refine⟨G,T,W,?_,?_⟩
 ·unfold fg;refine bF ?_;show iB [.val (pM ns),.val (.int a),.Qo,.Qo,.Qo,.Qo,.Qo,.Qo,.Qo,.Qo,.Qo,.Qo]=_;unfold iB;have h2:∀ρ:Dl.Env,ae 0 ρ=some (pM ns)->ae 1 ρ=some (.int a)->f2 aK (fC (.int 1)) (ai 3 ak (aa (ae 0) (aa (ae 1) (aa (fC (.int 4)) ah)))) ρ=some (nD m):=λρ h0 h1=>ax ((aN _ _).trans (by rw[hm])) rfl (call_of em.1 (cons_of h0 (cons_of h1 (cons_of rfl rfl))) rfl);have h3:∀ρ:Dl.Env,ae 0 ρ=some (pM ns)->ae 1 ρ=some (.int a)->f2 aK (fC (.int 1)) (ai 3 ak (aa (ae 0) (aa (f2 aK (ae 1) (fC (.int 1))) (aa (fC (.int 4)) ah)))) ρ=some (nD s):=λρ h0 h1=>ax ((aN _ _).trans (by rw[hs])) rfl (call_of es.1 (cons_of h0 (cons_of (ax (aN _ _) h1 rfl) (cons_of rfl rfl))) rfl);refine (ao (bH (d:=nD m) (h2 _ rfl rfl) rfl)).trans ?_;refine (ao (bH (d:=nD s) (h3 _ rfl rfl) rfl)).trans ?_;refine (ao (cN (ds:=[]) (iC rfl (by simp)) rfl)).trans ?_;have hr:∀ρ:Dl.Env,ae 2 ρ=some (nD m)->ae 3 ρ=some (nD s)->fK (aa (f2 i8 (ae 2) (ae 3)) ah) ρ=some ((List.range (m * s)).map nD):=λρ h2 h3=>rL (cons_of (ax ((eR (lJ (by lia))).trans (by rw[<- Int.natCast_mul])) h2 h3) rfl) (by lia);refine (ao (gD f1 (hr _ rfl rfl) rfl)).trans ?_;refine (ao (cN (ds:=[]) (iC rfl (by simp)) rfl)).trans ?_;refine (ao (gD S9 (rL (cons_of rfl rfl) (by lia)) rfl)).trans ?_;refine (ao (cN (ds:=[]) (iC rfl (by simp)) rfl)).trans ?_;refine (ao (gD f3 (rL (cons_of rfl rfl) (by lia)) rfl)).trans ?_;exact bY (tup_is (ds:=[.tuple (G.map ba),.tuple (T.map ba),.tuple (W.map bL)]) (cons_of ((bS rfl).trans (eJ _)) (cons_of ((bS rfl).trans (eJ _)) (cons_of ((bS rfl).trans (eJ _)) rfl))) (by simp))
 ·refine⟨by rw[IG.len];exact m1.1,by rw[IG.len];exact m1.2,by rw[IT.len];exact s1.1,by rw[IT.len];exact s1.2,IG.am,IT.am,IG.lk,IT.lk,λw hw=>?_,I.Uv,hw⟩;let⟨j,j0,jk,ea,b,c1,c2⟩:=I.mem w hw;have:=OP (s:=s) (m:=m) (by lia) (by lia) j0 (by rw[<- Int.natCast_mul];exact jk);rw[ea,b,IG.len,IT.len];exact⟨this.1,this.2,c1,c2⟩
end
abbrev tl(x:Str):List Nat:=x.cps.toList
def tS(l:List Nat):Str:=⟨l.toArray⟩
def bj(l:List Nat):tl (tS l)=l:=by simp[tl,tS]
def ye(x:Str):tS (tl x)=x:=by cases x;simp[tl,tS]
def CH{x y:Str}(h:tl x=tl y):x=y:=by rw[<- ye x,<- ye y,h]
def cR(x:Str):(tl x).length=x.length:=by simp[tl,Str.length]
def vb(x y:Str):tl (x++y)=tl x++tl y:=by
 show (Str.append x y).cps.toList=_;simp[Str.append,tl]
def bU(c:Nat):List Nat->List (List Nat)
 | []=>[[]]
 | x::r=>if x=c then []::bU c r else match bU c r with
  | p::ps=>(x::p)::ps
  | []=>[[x]]
def jn(c:List Nat):List (List Nat)->List Nat
 | []=>[]
 | [p]=>p
 | p::q::r=>p++(c++jn c (q::r))
def ui:∀ {l:List Nat},c∉l->bU c l=[l]
 | [],_=>rfl
 | x::r,h=>by
  have h1:x≠c:=λz=>h (by rw[z];exact zE);rw[bU,yJ h1,ui λz=>h (zC _ z)]
def mQ:∀ {p r:List Nat},c∉p->bU c (p++c::r)=p::bU c r
 | [],r,_=>by rw[xJ,bU,yH rfl]
 | x::p,r,h=>by
  have h1:x≠c:=λz=>h (by rw[z];exact zE);rw[xB,bU,yJ h1,mQ λz=>h (zC _ z)]
def wA:∀ {ps:List (List Nat)},ps≠[]->(∀p∈ps,c∉p)->bU c (jn [c] ps)=ps
 | [],h,_=>absurd rfl h
 | [p],_,h=>by rw[jn];exact ui (h p zE)
 | p::q::r,_,h=>by
  rw[jn];show bU c (p++c::jn [c] (q::r))=_;rw[mQ (h p zE),wA (by simp) λz hz=>h z (zC _ hz)]
def nX:∀l:List Nat,bU c l≠[]
 | []=>by simp[bU]
 | x::r=>by
  unfold bU;split
  ·simp
  ·split<;>simp
def rO(sep:Str):∀ps:List Str,tl (sep.join ps)=jn (tl sep) (ps.map tl)
 | []=>rfl
 | [p]=>rfl
 | p::q::r=>by
  have e:sep.join (p::q::r)=p++sep++sep.join (q::r):=rfl;rw[e,vb,vb,rO sep (q::r),List.append_assoc];rfl
def Co(sep:Str)(ps:List Str):tl (Txt.join sep ps)=jn (tl sep) (ps.map tl):=by
 unfold Txt.join;rw[StrLaws.glued_eq_join,rO]
def B1(x y:Str):Txt.split x y≠[]:=by
 unfold Txt.split;split
 ·simp
 ·split
  ·simp
  ·rw[StrLaws.partsBetween_eq];let⟨p,r,e⟩:=StrLaws.partsFrom_ne x y.length 0 (Builtin.Str.occurrences x y 0 x.length (x.length+1));rw[e];simp
def EM(x:Str)(c:Nat):(Txt.split x ⟨#[c]⟩).map tl=bU c (tl x):=by
 have h:=rO ⟨#[c]⟩ (Txt.split x ⟨#[c]⟩);rw[StrLaws.join_split] at h;rw[h];refine (wA ?_ λp hp=>?_).symm
 ·intro z;exact B1 x ⟨#[c]⟩ (List.map_eq_nil_iff.mp z)
 ·let⟨q,hq,rfl⟩:=List.mem_map.mp hp;exact StrLaws.split_free x c q hq
def eN(x:Str)(c:Nat):Txt.split x ⟨#[c]⟩=(bU c (tl x)).map tS:=by
 rw[<- EM,zM]
 conv=>lhs;rw[<- List.map_id (Txt.split x ⟨#[c]⟩)]
 exact yF λy _=>(ye y).symm
def GU(sep:Str)(ps:List (List Nat)):Txt.join sep (ps.map tS)=tS (jn (tl sep) ps):=by
 refine CH ?_;rw[Co,bj,zM]
 congr 1
 conv=>rhs;rw[<- List.map_id ps]
 exact yF λy _=>bj y
def sQ:("\n":Str)=⟨#[10]⟩:=by decide +kernel
def tM:(" ":Str)=⟨#[32]⟩:=by decide +kernel
def My:("0123456789":Str)=⟨#[48,49,50,51,52,53,54,55,56,57]⟩:=by decide +kernel
def zq:("":Str)=⟨#[]⟩:=by decide +kernel
def Hv{n:Nat}(h:n < 10):((toString (n:Int):String):Str)=⟨#[48+n]⟩:=by
 match n,h with
 | 0,_|1,_|2,_|3,_|4,_|5,_|6,_|7,_|8,_|9,_=>decide +kernel
def j5:∀l:List Nat,(bU c l).length<=l.length+1
 | []=>by simp[bU]
 | x::r=>by
  have ih:=j5 (c:=c) r;unfold bU;split
  ·simp;lia
  ·split
   ·rename_i p ps e;rw[e] at ih;simp at ih ⊢;lia
   ·simp
def oP:List Nat->Option Nat
 | [c]=>if 48<=c/\c < 58 then some (c - 48) else none
 | _=>none
def uD(h:oP l=some n):n < 10/\l=[48+n]:=by
 unfold oP at h;split at h
 ·split at h
  ·rename_i c hc;cases h;exact⟨by lia,by congr 1;lia⟩
  ·cases h
 ·cases h
def lg{x:Str}(hz:x.length<=sizeLine):(d5 (fB (f2 cS (aY ft (aa (ae 0) ah)) (fC (.int 1)))) (fB (f2 (λx y=>(rE x y).map PyData.bool) (ae 0) (fC (.str "0123456789"))))) [some (.str x)]=some (oP (tl x)).isNone:=by
 have e1:(fB (f2 cS (aY ft (aa (ae 0) ah)) (fC (.int 1)))) [some (.str x)]=some (!decide (((x.length:Nat):Int)=1)):=by
  have:aY ft (aa (ae 0) ah) [some (.str x)]=some (.int ((x.length:Nat):Int)):=by
   show ft [.str x]=_;show (if x.length<=sizeLine then some (PyData.int ((x.length:Nat):Int)) else none)=_;rw[yH hz]
  unfold fB f2;rw[this];rfl
 have e2:(fB (f2 (λx y=>(rE x y).map PyData.bool) (ae 0) (fC (.str "0123456789")))) [some (.str x)]=some (!(!(Builtin.Str.occurrences ("0123456789":Str) x 0 ("0123456789":Str).length 1).isEmpty)):=rfl;unfold d5;rw[e1,zA,e2];by_cases h1:x.length=1
 ·obtain⟨c,rfl⟩:∃c,x=⟨#[c]⟩:=by
   have:(tl x).length=1:=by rw[cR];exact h1
   let⟨c,hc⟩:=List.length_eq_one_iff.mp this;exact⟨c,by rw[<- ye x,hc];rfl⟩
  rw[StrLaws.found_one];have:tl ⟨#[c]⟩=[c]:=rfl;rw[this];have hd:("0123456789":Str).cps.toList=[48,49,50,51,52,53,54,55,56,57]:=by rw[My]
  rw[hd];unfold oP;by_cases hc:48<=c/\c < 58
  ·have:c∈[48,49,50,51,52,53,54,55,56,57]:=by
    let⟨a,b⟩:=hc;simp?[zQ,yC,xQ];lia
   simp[hc,this];simp[Str.length]
  ·have:c∉[48,49,50,51,52,53,54,55,56,57]:=by
    simp?[zQ,yC,xQ];lia
   simp[hc,this]
   try simp[Str.length]
 ·have:oP (tl x)=none:=by
   unfold oP;split
   ·rename_i c hc;exact absurd (by rw[<- cR,hc];rfl) h1
   ·rfl
  rw[this];have h2:¬ (((x.length:Nat):Int)=1):=by lia
  simp[h2]
def GA{n:Nat}(h:n < 10):Builtin.Str.occurrences ("0123456789":Str) (tS [48+n]) 0 ("0123456789":Str).length 1=[n]:=by
 match n,h with
 | 0,_|1,_|2,_|3,_|4,_|5,_|6,_|7,_|8,_|9,_=>decide +kernel
def dw{a:Str}(h:PyData.strOk a=true):SeqAt.shaped (.str a)=true:=by simp[SeqAt.shaped,PyData.canLay0,PyData.depth,h]
def fy(a b:Str):PyData.eqv (.str a) (.str b)=(a == b):=by simp[PyData.eqv]
def eq_str{a b:Str}(ha:PyData.strOk a=true)(hb:PyData.strOk b=true):cc (.str a) (.str b)=some (.bool (a == b)):=by
 unfold cc GN;rw[yH ⟨dw ha,dw hb⟩,fy];rfl
def ne_str{a b:Str}(ha:PyData.strOk a=true)(hb:PyData.strOk b=true):cS (.str a) (.str b)=some (.bool (!(a == b))):=by
 unfold cS HU;rw[yH ⟨dw ha,dw hb⟩,fy];rfl
def gn{x:Str}{c:Nat}(hz:x.length+1<=sizeLine):aR (.str x) (.str ⟨#[c]⟩)=some ((Txt.split x ⟨#[c]⟩).map PyData.str):=by
 show (if ((⟨#[c]⟩:Str).length == 0)=false/\x.length<=sizeLine/\(Txt.split x ⟨#[c]⟩).length<=sizeLine then some ((Txt.split x ⟨#[c]⟩).map PyData.str) else none)=_;refine yH ⟨rfl,by lia,?_⟩;rw[eN,zD];have:=j5 (c:=c) (tl x);rw[cR] at this;lia
def ik:∀ {l p:List Nat},p∈bU c l->p.length<=l.length
 | [],p,h=>by
  rw[bU,yG] at h;rw[h];exact yI _
 | x::r,p,h=>by
  unfold bU at h;split at h
  ·rcases List.mem_cons.mp h with rfl|h
   ·exact xR _
   ·have:=ik h;rw[zL];lia
  ·split at h
   ·rename_i q ps e;rcases List.mem_cons.mp h with rfl|h
    ·have:=ik (c:=c) (l:=r) (p:=q) (by rw[e];exact zE);rw[zL,zL];lia
    ·have:=ik (c:=c) (l:=r) (p:=p) (by rw[e];exact zC _ h);rw[zL];lia
   ·rename_i e;exact absurd e (nX r)
def uj{α:Type}(xs:List α):cut xs none (some (-1))=xs.dropLast:=by
 unfold cut;have e1:HT.bB xs.length 0 none=0:=rfl;have e2:HT.bB xs.length xs.length (some (-1))=xs.length - 1:=by
  show (if (-1:Int) < 0 then ((-1:Int)+(xs.length:Int)).toNat else min (-1:Int).toNat xs.length)=_;rw[yH (by decide)];lia
 rw[e1,e2,List.drop_zero,Nat.sub_zero,List.dropLast_eq_take]
def m9{α:Type}{xs:List α}{a:α}:jh (xs++[a]) (-1)=some a:=by
 unfold jh AS;rw[yJ (by decide),yH (by rw[zN];simp;lia)];show (xs++[a])[_]?=_;rw[show ((-1:Int)+((xs++[a]).length:Int)).toNat=xs.length by rw[zN];simp;lia];simp
abbrev sD(l:List Nat):D:=.str (tS l)
abbrev lv(x:Str)(ps:List D):au:=[Slot.val (.str x),Slot.val (.list ps)]
def lX{x:Str}(hz:x.length+1<=sizeLine):aS 1 [0] (bI (dv aR (ae 0) (fC (.str "\n")))) [Slot.val (.str x),.Qo]=some (.nx (lv x ((bU 10 (tl x)).map sD))):=by
 have e:∀r,bI (dv aR (ae 0) (fC (.str "\n"))) (some (.str x)::r)=some (.list ((bU 10 (tl x)).map sD)):=λr=>by
  have:dv aR (ae 0) (fC (.str "\n")) (some (.str x)::r)=some ((bU 10 (tl x)).map sD):=by
   show aR (.str x) (.str "\n")=_;rw[sQ,gn hz,eN,zM];rfl
  unfold bI;rw[this];rfl
 unfold aS;rw[show aL [Slot.val (.str x),.Qo]=[some (.str x),none] from rfl,e,zA,yJ (by simp[Dl.mM])];rw[show bR (hand [0] 0 [Slot.val (.str x),.Qo])=[some (.str x),none] from rfl,e];rfl
def ue{te:Dl.Env->Option D}{r:Dl.Env}{f:D->D}:∀ {ds:List D},(∀d∈ds,te (some d::r)=some (f d))->cw (fG 0) (λ_=>some true) te (none::r) ds=some (ds.map f)
 | [],_=>rfl
 | d::ds,h=>by
  unfold cw;rw[show fG 0 (none::r) d=some (some d::r) from rfl,zA,zA,yH rfl,h d zE,zA,ue λe he=>h e (zC _ he)];rfl
def rC{sep:Str}{ps:List (List Nat)}(h:ps.length * 100+ps.length * sep.length<=16777216)(hp:∀p∈ps,p.length<=100):il (.str sep) (.list (ps.map sD))=some (sD (jn (tl sep) ps)):=by
 have e:strsOf (ps.map sD)=some (ps.map tS):=by
  have:=oN (ps.map tS);rw[zM] at this;exact this
 show ((strsOf (ps.map sD)).bind λxs=>if JoinOk sep xs=true then some (PyData.str (Txt.join sep xs)) else none)=_;rw[e,zA,yH ?_,GU];unfold JoinOk;rw[StrLaws.joinFits (B:=100) (λy hy=>?_) (by rw[zD];exact h)]
 ·rfl
 ·let⟨p,TY,rfl⟩:=List.mem_map.mp hy;rw[<- cR,bj];exact hp p TY
def xu(ls:List (List Nat)):List Nat:=jn [] (ls.map λl=>l++[10])
def m6:∀ {ls:List (List Nat)},(∀l∈ls,10∉l)->bU 10 (xu ls)=ls++[[]]
 | [],_=>rfl
 | [l],h=>by
  show bU 10 (l++10::[])=_;rw[mQ (h l zE)];rfl
 | l::q::r,h=>by
  have e:xu (l::q::r)=l++10::xu (q::r):=by
   show (l++[10])++([]++jn [] ((q::r).map λl=>l++[10]))=_;rw[xJ,List.append_assoc];rfl
  rw[e,mQ (h l zE),m6 λz hz=>h z (zC _ hz)];rfl
structure Gd(l:List Nat):Prop where
 s:∀c∈l,c < 1114112
 n:l.length<=10000
def ku:∀ {l p:List Nat},p∈bU c l->∀y∈p,y∈l
 | [],p,h,y,hy=>by
  rw[List.mem_singleton.mp (show p∈[[]] from h)] at hy;exact hy
 | x::r,p,h,y,hy=>by
  unfold bU at h;split at h
  ·rcases List.mem_cons.mp h with rfl|h
   ·cases hy
   ·exact zC _ (ku h y hy)
  ·split at h
   ·rename_i q qs e;rcases List.mem_cons.mp h with rfl|h
    ·rcases List.mem_cons.mp hy with rfl|hy
     ·exact zE
     ·exact zC _ (ku (c:=c) (l:=r) (p:=q) (by rw[e];exact zE) y hy)
    ·exact zC _ (ku (c:=c) (l:=r) (p:=p) (by rw[e];exact zC _ h) y hy)
   ·rw[List.mem_singleton.mp h] at hy;rw[List.mem_singleton.mp hy];exact zE
def Gd.sk{l:List Nat}(g:Gd l):PyData.strOk (tS l)=true:=by
 show Array.all (List.toArray l) _=true;rw[List.all_toArray,xC];intro c hc;exact zX (g.s c hc)
def Gd.part{l p:List Nat}(g:Gd l)(h:p∈bU c l):Gd p:=⟨λy hy=>g.s y (ku h y hy),yA (ik h) g.n⟩
def HN:20000<=sizeLine:=by decide
def Gd.z{l:List Nat}(g:Gd l):l.length+1<=sizeLine:=by
 have:=g.n;have:=HN;lia
def Gd.zt{l:List Nat}(g:Gd l):(tS l).length+1<=sizeLine:=by
 rw[<- cR,bj];exact g.z
def DJ:∀ls:List (List Nat),jn [] ls=ls.flatten
 | []=>rfl
 | [l]=>by simp[jn]
 | l::q::r=>by
  show l++([]++jn [] (q::r))=_;rw[xJ,DJ (q::r)];rfl
def lh(ls:List (List Nat)):xu ls=(ls.map λl=>l++[10]).flatten:=DJ _
def Fk{ls:List (List Nat)}(h:∀l∈ls,l.length<=99):(xu ls).length<=100 * ls.length:=by
 rw[lh]
 induction ls with
 | nil=>exact yI _
 | cons l r ih =>
  rw[zI,qJ,zN,zN,yY,zL];have:=h l zE;have:=ih λq hq=>h q (zC _ hq);lia
def Hj{ls:List (List Nat)}{c:Nat}(h:c∈xu ls):c=10\/∃l∈ls,c∈l:=by
 rw[lh,List.mem_flatten] at h;let⟨q,hq,hc⟩:=h;let⟨l,hl,rfl⟩:=List.mem_map.mp hq;rcases List.mem_append.mp hc with hc|hc
 ·exact .inr ⟨l,hl,hc⟩
 ·exact .inl (List.mem_singleton.mp hc)
def B5{c:Nat}{sep:List Nat}:∀ {ps:List (List Nat)},c∈jn sep ps->c∈sep\/∃p∈ps,c∈p
 | [],h=>by cases h
 | [p],h=>.inr ⟨p,zE,h⟩
 | p::q::r,h=>by
  have h:c∈p++(sep++jn sep (q::r)):=h;rcases List.mem_append.mp h with h|h
  ·exact .inr ⟨p,zE,h⟩
  ·rcases List.mem_append.mp h with h|h
   ·exact .inl h
   ·rcases B5 h with h|⟨z,hz,h⟩
    ·exact .inl h
    ·exact .inr ⟨z,zC _ hz,h⟩
def D2{a b:List Nat}(h:a.length+b.length<=20000):d0 (sD a) (sD b)=some (sD (a++b)):=by
 show (if (tS a).length+(tS b).length<=sizeLine then some (PyData.str (tS a++tS b)) else none)=_;rw[yH (by rw[<- cR,<- cR,bj,bj];exact yA h HN)];have:tS a++tS b=tS (a++b):=CH (by rw[vb,bj,bj,bj]);rw[this]
def Jj{a:List Nat}(h:a.length<=20000)(lo hi:Option Int):d4 (sD a) lo hi=some (sD (cut a lo hi)):=by
 show (if (tS a).length<=sizeLine then some (PyData.str (nO (tS a) lo hi)) else none)=_;rw[yH (by rw[<- cR,bj];exact yA h HN)];rfl
abbrev hU(ns:List Nat):D:=.tuple (ns.map λn=>.int ((n:Nat):Int))
def m5(ns:List Nat):hU ns=aE (ns.map λn=>((n:Nat):Int)):=by
 show PyData.tuple _=PyData.tuple _;rw[zM];rfl
def Kl{n:Nat}(hn:n < 10):oP [48+n]=some n:=by
 show (if 48<=48+n/\48+n < 58 then some (48+n - 48) else none)=some n;rw[yH ⟨by lia,by lia⟩]
 congr 1
 lia
def IQ{n:Nat}(h:n < 10):bM [sD [48+n]]=some (.int ((n:Nat):Int)):=by
 have t:=lg (x:=tS [48+n]) (by rw[<- cR,bj];exact (by decide:1<=sizeLine));rw[bj,Kl h] at t;unfold bM ig;refine bF ?_;refine (ao (cZ (ρ:=[Slot.val (sD [48+n])]) t)).trans (bY ?_);show nV (.str "0123456789") (.str (tS [48+n]))=_;unfold nV;dsimp only;rw[GA h]
def Ep{ns:List Nat}(h:∀n∈ns,n < 10)(hl:ns.length<=1000):bb [.list (ns.map λn=>sD [48+n])]=some (hU ns):=by
 have c:=aZ (cs:=[]) (tt:=λ_=>some true) (te:=ai 1 bM (aa (ae 0) ah)) (g:=λn=>sD [48+n]) (f:=λn=>.int ((n:Nat):Int)) (q:=λ_=>true) (l:=ns) (fi:=aH (ae 0)) (ρ:=[some (.list (ns.map λn=>sD [48+n]))]) (bK rfl) hl λn hn=>⟨rfl,λ_=>call_of (IQ (h n hn)) rfl rfl⟩
 rw[show ns.filter (λ_=>true)=ns by simp] at c;unfold bb gL;exact bF (bY ((bS (bq c)).trans (eJ _)))
def xo{x:Str}{ls:List (List Nat)}(hz:x.length+1<=sizeLine)(h:bU 10 (tl x)=ls++[[]]):cD [.str x]=some (.list (ls.map sD)):=by
 have s:=lX hz;rw[h,qU] at s;have t:fB (f2 cS (f2 bz (ae 1) (f1 gx (fC (.int 1)))) (fC (.str ""))) [some (.str x),some (.list (ls.map sD++[[]].map sD))]=some false:=by
  refine cn (ax (a:=sD []) (b:=.str "") ?_ ?_ rfl)
  ·rw[ne_str (by decide +kernel) (by decide +kernel)];rfl
  ·show jh (ls.map sD++[sD []]) (-1)=_;exact m9
 unfold cD jq;refine bF ?_;refine (ao s).trans ?_;refine (ao (cZ (ρ:=lv x (ls.map sD++[[]].map sD)) t)).trans (bY ?_);show some (PyData.list (cut (ls.map sD++[[]].map sD) none (some (-1))))=_;rw[uj];simp
def La(l:List Nat):lD [sD l]=some (sD l):=rfl
def EV{n:Nat}(h:n < 10):lD [.int ((n:Nat):Int)]=some (sD [48+n]):=by
 show (if ((n:Nat):Int).natAbs.log2 < 1920 then some (PyData.str (toString ((n:Nat):Int))) else none)=_;rw[yH (by
  have:((n:Nat):Int).natAbs=n:=by simp
  rw[this]
  match n,h with
  | 0,_|1,_|2,_|3,_|4,_|5,_|6,_|7,_|8,_|9,_=>decide),Hv h]
 rfl
def nP(w:List Nat)(ns:List Nat):List Nat:=jn [32] (w::ns.map λn=>[48+n])
def uq(ns:List Nat):List Nat:=(ns.map λn=>[32,48+n]).flatten
def rX(w:List Nat):∀ns:List Nat,nP w ns=w++uq ns
 | []=>by show w=w++[];rw[qC]
 | n::r=>by
  have ih:=rX [48+n] r;show w++([32]++jn [32] ((n::r).map λn=>[48+n]))=_;have e:jn [32] ((n::r).map λn=>[48+n])=nP [48+n] r:=rfl;rw[e,ih];rfl
def tJ(ns:List Nat):(uq ns).length=2 * ns.length:=by
 induction ns with
 | nil=>rfl
 | cons n r ih =>
  show ([32,48+n]++uq r).length=_;rw[zN,ih,zL];simp;lia
def EZ{ns:List Nat}(h:∀n∈ns,n < 10){c:Nat}(hc:c∈uq ns):c=32\/(48<=c/\c < 58):=by
 unfold uq at hc;rw[List.mem_flatten] at hc;let⟨q,hq,hc⟩:=hc;let⟨n,hn,rfl⟩:=List.mem_map.mp hq;have:=h n hn;simp at hc;lia
def z9{w ns:List Nat}(hw:32∉w)(h:∀n∈ns,n < 10):bU 32 (nP w ns)=w::ns.map λn=>[48+n]:=wA (by simp) λp hp=>by
 rcases List.mem_cons.mp hp with rfl|hp
 ·exact hw
 ·let⟨n,hn,rfl⟩:=List.mem_map.mp hp;simp;lia
def Ea{w ns:List Nat}(hw:w.length<=100)(h:∀n∈ns,n < 10)(hl:ns.length<=50):dk [.list (sD w::ns.map λn=>.int ((n:Nat):Int))]=some (sD (nP w ns)):=by
 have c:cw (fG 0) (λ_=>some true) (aY lD (aa (ae 0) ah)) [none] (sD w::ns.map λn=>.int ((n:Nat):Int))=some ((w::ns.map λn=>[48+n]).map sD):=by
  have:=ue (te:=aY lD (aa (ae 0) ah)) (r:=[]) (ds:=sD w::ns.map λn=>.int ((n:Nat):Int)) (f:=λd=>match d with|.int i=>sD [48+i.toNat]|d=>d) λd hd=>by
   rcases List.mem_cons.mp hd with rfl|hd
   ·exact (bS rfl).trans (La w)
   ·let⟨n,hn,rfl⟩:=List.mem_map.mp hd;exact (bS rfl).trans (EV (h n hn))
  rw[this,zI,zI,zM,zM];rfl
 unfold dk pP;refine bF (bY (ax (a:=.str " ") (b:=.list ((w::ns.map λn=>[48+n]).map sD)) ?_ rfl (bq ?_)))
 ·rw[rC,tM]
  ·rfl
  ·rw[zL,zD,tM];show (ns.length+1) * 100+(ns.length+1) * 1<=_;lia
  ·intro p hp;rcases List.mem_cons.mp hp with rfl|hp
   ·exact hw
   ·let⟨n,_,rfl⟩:=List.mem_map.mp hp;exact (by decide:1<=100)
 ·show (cw (fG 0) (λ_=>some true) (aY lD (aa (ae 0) ah)) [none] (sD w::ns.map λn=>.int ((n:Nat):Int))).bind small=_;rw[c];exact bA (by simp;lia)
def J9{ls:List (List Nat)}(h:∀l∈ls,l.length<=99)(hl:ls.length<=100):cW [.list (ls.map sD)]=some (sD (xu ls)):=by
 have c:=aZ (cs:=[]) (tt:=λ_=>some true) (te:=f2 d0 (ae 0) (fC (.str "\n"))) (g:=sD) (f:=λl=>sD (l++[10])) (q:=λ_=>true) (l:=ls) (fi:=aH (ae 0)) (ρ:=[some (.list (ls.map sD))]) (bK rfl) (by lia) λl hm=>⟨rfl,λ_=>ax (a:=sD l) (b:=sD [10]) (D2 (by have:=h l hm;rw[yY];lia)) rfl (by rw[sQ];rfl)⟩
 rw[show ls.filter (λ_=>true)=ls by simp] at c;unfold cW gY;refine bF (bY (ax (a:=.str "") (b:=.list ((ls.map λl=>l++[10]).map sD)) ?_ rfl ((bq c).trans (by rw[zM];rfl))));rw[rC,zq]
 ·rfl
 ·rw[zD,zq];show ls.length * 100+ls.length * 0<=_;lia
 ·intro p hp;let⟨l,hm,rfl⟩:=List.mem_map.mp hp;rw[zN];exact Nat.succ_le_succ (h l hm)
def pN(p:Pl):List Nat:=p.1.toNat::p.2.map Int.toNat
def wN(w:Wy):List Nat:=[w.1.toNat,w.2.1.toNat,w.2.2.toNat]
abbrev hZ:List Nat:=[103,105,118,101]
abbrev ij:List Nat:=[116,97,107,101]
abbrev gQ:List Nat:=[119,97,121]
def yb:(PyData.str "give":D)=sD hZ:=by rw[show ("give":Str)=tS hZ by decide +kernel]
def yy:(PyData.str "take":D)=sD ij:=by rw[show ("take":Str)=tS ij by decide +kernel]
def zi:(PyData.str "way":D)=sD gQ:=by rw[show ("way":Str)=tS gQ by decide +kernel]
structure Dg(ns:List Nat):Prop where
 d:∀n∈ns,n < 10
 l:ns.length<=17
section
variable {G T:List Pl}{W:List Wy}
def toN{x:Int}(h:0<=x):((x.toNat:Nat):Int)=x:=Int.toNat_of_nonneg h
def IE{p:Pl}(ha:0<=p.1/\p.1<=9)(hl:p.2.length<=16)(hm:∀x∈p.2,0<=x/\x < 4):Dg (pN p)/\(pN p).map (λn=>((n:Nat):Int))=p.1::p.2:=by
 refine⟨⟨λn hn=>?_,?_⟩,?_⟩
 ·rcases List.mem_cons.mp hn with rfl|hn
  ·lia
  ·let⟨x,hx,rfl⟩:=List.mem_map.mp hn;have:=hm x hx;lia
 ·show (p.2.map Int.toNat).length+1<=17;rw[zD];lia
 ·show ((p.1.toNat:Nat):Int)::(p.2.map Int.toNat).map (λn=>((n:Nat):Int))=_;rw[toN ha.1,zM]
  congr 1
  conv=>rhs;rw[<- List.map_id p.2]
  exact yF λx hx=>toN (hm x hx).1
def LN(h:Wd G T W){p:Pl}(hp:p∈G):Dg (pN p)/\(pN p).map (λn=>((n:Nat):Int))=p.1::p.2:=by
 let⟨i,hi⟩:=List.getElem?_of_mem hp;have pr:=h.gl i p hi;refine IE (h.ga p hp) ?_ λx hx=>?_
 ·rw[pr.length_eq];exact yA (Aa W i) h.wl
 ·have:=pr.mem_iff.mp hx;unfold mn at this;let⟨w,hw,rfl⟩:=List.mem_map.mp this;have:=(h.wr w (List.mem_filter.mp hw).1).2.1;have:=h.t4;lia
def LW(h:Wd G T W){p:Pl}(hp:p∈T):Dg (pN p)/\(pN p).map (λn=>((n:Nat):Int))=p.1::p.2:=by
 let⟨i,hi⟩:=List.getElem?_of_mem hp;have pr:=h.tl i p hi;refine IE (h.ta p hp) ?_ λx hx=>?_
 ·rw[pr.length_eq];exact yA (Al W i) h.wl
 ·have:=pr.mem_iff.mp hx;unfold ofT at this;let⟨w,hw,rfl⟩:=List.mem_map.mp this;have:=(h.wr w (List.mem_filter.mp hw).1).1;have:=h.g4;lia
def LO(h:Wd G T W){w:Wy}(hw:w∈W):Dg (wN w)/\(wN w).map (λn=>((n:Nat):Int))=[w.1,w.2.1,w.2.2]:=by
 have a:=h.wr w hw;have:=h.g4;have:=h.t4;refine⟨⟨λn hn=>?_,by show 3<=17;decide⟩,?_⟩
 ·simp?[wN,zQ,yC,xQ] at hn;lia
 ·show [((w.1.toNat:Nat):Int),((w.2.1.toNat:Nat):Int),((w.2.2.toNat:Nat):Int)]=_;rw[toN a.1.1,toN a.2.1.1,toN (by lia)]
def lS(G T:List Pl)(W:List Wy):List (List Nat×List Nat):=G.map (λp=>(hZ,pN p))++(T.map (λp=>(ij,pN p))++W.map λw=>(gQ,wN w))
abbrev ju(q:List Nat×List Nat):List Nat:=nP q.1 q.2
def jt(h:Wd G T W):∀q∈lS G T W,(q.1=hZ\/q.1=ij\/q.1=gQ)/\Dg q.2:=λq hq=>by
 rcases List.mem_append.mp hq with hq|hq
 ·let⟨p,hp,rfl⟩:=List.mem_map.mp hq;exact⟨.inl rfl,(LN h hp).1⟩
 ·rcases List.mem_append.mp hq with hq|hq
  ·let⟨p,hp,rfl⟩:=List.mem_map.mp hq;exact⟨.inr (.inl rfl),(LW h hp).1⟩
  ·let⟨w,hw,rfl⟩:=List.mem_map.mp hq;exact⟨.inr (.inr rfl),(LO h hw).1⟩
def kc(h:Wd G T W):(lS G T W).length<=24:=by
 unfold lS;rw[zN,zN,zD,zD,zD];have:=h.g4;have:=h.t4;have:=h.wl;lia
def oK{w:List Nat}(hw:w=hZ\/w=ij\/w=gQ):w.length<=4/\32∉w/\(∀c∈w,90 < c/\c < 200):=by
 rcases hw with rfl|rfl|rfl<;>exact⟨by decide,by decide,by decide⟩
def mf{q:List Nat×List Nat}(hw:q.1=hZ\/q.1=ij\/q.1=gQ)(d:Dg q.2):(ju q).length<=99/\10∉ju q/\(∀c∈ju q,c < 200):=by
 let⟨a,b,c⟩:=oK hw;have hm:∀x∈ju q,(90 < x/\x < 200)\/x=32\/(48<=x/\x < 58):=λx hx=>by
  rw[show ju q=q.1++uq q.2 from rX _ _] at hx;rcases List.mem_append.mp hx with hx|hx
  ·exact .inl (c x hx)
  ·exact .inr (EZ d.d hx)
 refine⟨?_,λz=>?_,λx hx=>?_⟩
 ·rw[show ju q=q.1++uq q.2 from rX _ _,zN,tJ];have:=d.l;lia
 ·have:=hm 10 z;lia
 ·have:=hm x hx;lia
abbrev pY(G T:List Pl)(W:List Wy):List Nat:=xu ((lS G T W).map ju)
def rD(h:Wd G T W):Gd (pY G T W):=by
 refine⟨λc hc=>?_,?_⟩
 ·rcases Hj hc with rfl|⟨l,hl,hc⟩
  ·decide
  ·let⟨q,hq,rfl⟩:=List.mem_map.mp hl;let⟨a,b⟩:=jt h q hq;have:=(mf a b).2.2 c hc;lia
 ·have:=Fk (ls:=(lS G T W).map ju) λl hl=>by
   let⟨q,hq,rfl⟩:=List.mem_map.mp hl;let⟨a,b⟩:=jt h q hq;exact (mf a b).1
  rw[zD] at this;have:=kc h;show (xu ((lS G T W).map ju)).length<=10000;lia
def DR{p:List Nat}{l:List Int}(h:p.map (λn=>((n:Nat):Int))=l):(p.map λn=>PyData.int ((n:Nat):Int))=l.map PyData.int:=by
 rw[<- h,zM];rfl
def Iu{w:List Nat}{p:Pl}(hw:w.length<=4)(d:Dg (pN p))(e:(pN p).map (λn=>((n:Nat):Int))=p.1::p.2):cg [sD w,ba p]=some (sD (nP w (pN p))):=by
 unfold cg nW;have hl:p.2.length<=16:=by have:=d.l;unfold pN at this;rw[zL,zD] at this;lia
 refine bF (bY (call_of (Ea (w:=w) (ns:=pN p) (by lia) d.d (by have:=d.l;lia)) (cons_of (bq ?_) rfl) rfl));have e1:bI (cC (aa (ae 0) (aa (f2 bz (ae 1) (fC (.int 0))) ah))) (aL [Slot.val (sD w),Slot.val (ba p)])=some (.list [sD w,.int p.1]):=bq (iC (cons_of rfl (cons_of rfl rfl)) (by simp));have e2:bI (f7 cf (aa (f2 bz (ae 1) (fC (.int 1))) ah)) (aL [Slot.val (sD w),Slot.val (ba p)])=some (.list (p.2.map PyData.int)):=rfl;show dv b8 _ _ (aL [Slot.val (sD w),Slot.val (ba p)])=_;unfold dv;rw[e1,zA,e2,zA];show small _=_;rw[bA (by simp;lia),DR e];rfl
def M9{w:Wy}(d:Dg (wN w))(e:(wN w).map (λn=>((n:Nat):Int))=[w.1,w.2.1,w.2.2]):ai 1 dk (aa (bI (dv b8 (bI (cC (aa (fC (.str "way")) ah))) (bI (f7 cf (aa (ae 0) ah))))) ah) [some (bL w)]=some (sD (nP gQ (wN w))):=by
 refine call_of (Ea (w:=gQ) (ns:=wN w) (by decide) d.d (by have:=d.l;lia)) (cons_of (bq ?_) rfl) rfl;have e1:bI (cC (aa (fC (.str "way")) ah)) [some (bL w)]=some (.list [sD gQ]):=by rw[<- zi];exact bq (iC (cons_of rfl rfl) (by simp))
 have e2:bI (f7 cf (aa (ae 0) ah)) [some (bL w)]=some (.list ([w.1,w.2.1,w.2.2].map PyData.int)):=rfl;unfold dv;rw[e1,zA,e2,zA];show small _=_;rw[bA (by simp),DR e];rfl
def uF{i:Nat}{fz:List Nat}{f:Dl.Env->Option (List D)}{ρ:au}{ds us:List D}(hf:f (bR ρ)=some us)(hh:hand fz 0 ρ=ρ)(ho:ρ[i]?=some (.own ds))(hl:ds.length+us.length<=1000):oV i fz f ρ=some (.nx (ρ.set i (.own (ds++us)))):=by
 have hz:ds.length+us.length<=sizeLine:=yA hl (by decide);simp?[oV,hh,hf,zA,o8,ho,hz,xD,zB]
def lT(h:Wd G T W):br [gq G T W]=some (sD (pY G T W)):=by
 have c1:∀ρ:Dl.Env,ae 0 ρ=some (gq G T W)->az 1 [] (aH (f2 bz (ae 0) (fC (.int 0)))) (fG 0) (λ_=>some true) (ai 2 cg (aa (fC (.str "give")) (aa (ae 0) ah))) ρ=some (G.map λp=>sD (nP hZ (pN p))):=λρ h0=>by
  have c:=aZ (cs:=[]) (tt:=λ_=>some true) (te:=ai 2 cg (aa (fC (.str "give")) (aa (ae 0) ah))) (g:=ba) (f:=λp=>sD (nP hZ (pN p))) (q:=λ_=>true) (l:=G) (fi:=aH (f2 bz (ae 0) (fC (.int 0)))) (ρ:=ρ) (qt (ax (yf false G T W) h0 rfl)) (by have:=h.g4;lia) λp hp=>⟨rfl,λ_=>call_of (Iu (w:=hZ) (by decide) (LN h hp).1 (LN h hp).2) (cons_of (by rw[yb];rfl) (cons_of rfl rfl)) rfl⟩
  rw[show G.filter (λ_=>true)=G by simp] at c;exact c
 have c2:∀ρ:Dl.Env,ae 0 ρ=some (gq G T W)->az 1 [] (aH (f2 bz (ae 0) (fC (.int 1)))) (fG 0) (λ_=>some true) (ai 2 cg (aa (fC (.str "take")) (aa (ae 0) ah))) ρ=some (T.map λp=>sD (nP ij (pN p))):=λρ h0=>by
  have c:=aZ (cs:=[]) (tt:=λ_=>some true) (te:=ai 2 cg (aa (fC (.str "take")) (aa (ae 0) ah))) (g:=ba) (f:=λp=>sD (nP ij (pN p))) (q:=λ_=>true) (l:=T) (fi:=aH (f2 bz (ae 0) (fC (.int 1)))) (ρ:=ρ) (qt (ax (yf true G T W) h0 rfl)) (by have:=h.t4;lia) λp hp=>⟨rfl,λ_=>call_of (Iu (w:=ij) (by decide) (LW h hp).1 (LW h hp).2) (cons_of (by rw[yy];rfl) (cons_of rfl rfl)) rfl⟩
  rw[show T.filter (λ_=>true)=T by simp] at c;exact c
 have c3:∀ρ:Dl.Env,ae 0 ρ=some (gq G T W)->az 1 [] (aH (f2 bz (ae 0) (fC (.int 2)))) (fG 0) (λ_=>some true) (ai 1 dk (aa (bI (dv b8 (bI (cC (aa (fC (.str "way")) ah))) (bI (f7 cf (aa (ae 0) ah))))) ah)) ρ=some (W.map λw=>sD (nP gQ (wN w))):=λρ h0=>by
  have c:=aZ (cs:=[]) (tt:=λ_=>some true) (te:=ai 1 dk (aa (bI (dv b8 (bI (cC (aa (fC (.str "way")) ah))) (bI (f7 cf (aa (ae 0) ah))))) ah)) (g:=bL) (f:=λw=>sD (nP gQ (wN w))) (q:=λ_=>true) (l:=W) (fi:=aH (f2 bz (ae 0) (fC (.int 2)))) (ρ:=ρ) (qt (ax (Fi G T W) h0 rfl)) (by have:=h.wl;lia) λw hw=>⟨rfl,λ_=>M9 (LO h hw).1 (LO h hw).2⟩
  rw[show W.filter (λ_=>true)=W by simp] at c;exact c
 have hg:=h.g4;have ht:=h.t4;have hw:=h.wl;unfold br;refine bF ?_;show dX [.val (gq G T W),.Qo]=_;unfold dX;refine (ao (cN (c1 _ rfl) rfl)).trans ?_;refine (ao (uF (ds:=G.map λp=>sD (nP hZ (pN p))) (c2 _ rfl) rfl rfl (by rw[zD,zD];lia))).trans ?_;refine (ao (uF (ds:=(G.map λp=>sD (nP hZ (pN p)))++T.map λp=>sD (nP ij (pN p))) (c3 _ rfl) rfl rfl (by rw[zN,zD,zD,zD];lia))).trans ?_;have e:((G.map λp=>sD (nP hZ (pN p)))++T.map λp=>sD (nP ij (pN p)))++(W.map λw=>sD (nP gQ (wN w)))=((lS G T W).map ju).map sD:=by
  unfold lS;rw[List.append_assoc,qU,qU,qU,qU];simp?[zM];rfl
 rw[e];refine bY (call_of (J9 (ls:=(lS G T W).map ju) (λl hl=>?_) (by rw[zD];have:=kc h;lia)) rfl rfl);let⟨q,hq,rfl⟩:=List.mem_map.mp hl;let⟨a,b⟩:=jt h q hq;exact (mf a b).1
end
def eL(a b:List Nat):(tS a == tS b)=decide (a=b):=by
 by_cases h:a=b
 ·subst h;simp
 ·rw[zW h];cases e:tS a == tS b with
  | false=>rfl
  | true =>
   have:=qX tl (eq_of_beq e);rw[bj,bj] at this;exact absurd this h
def HM{w:List Nat}(hw:w=hZ\/w=ij\/w=gQ):PyData.strOk (tS w)=true:=(show Gd w from ⟨λc hc=>by have:=(oK hw).2.2 c hc;lia,by have:=(oK hw).1;lia⟩).sk
abbrev LsOk(qs:List (List Nat×List Nat)):Prop:=∀q∈qs,(q.1=hZ\/q.1=ij\/q.1=gQ)/\Dg q.2
def El{qs:List (List Nat×List Nat)}(hq:LsOk qs)(hl:qs.length<=100){w:List Nat}(hw:w=hZ\/w=ij\/w=gQ):aQ [.list ((qs.map ju).map sD),sD w]=some (.list ((qs.filter λq=>decide (q.1=w)).map λq=>hU q.2)):=by
 have c1:∀ρ:Dl.Env,ae 0 ρ=some (.list ((qs.map ju).map sD))->az 1 [] (aH (ae 0)) (fG 0) (λ_=>some true) (bI (dv aR (ae 0) (fC (.str " ")))) ρ=some (qs.map λq=>.list ((q.1::q.2.map λn=>[48+n]).map sD)):=λρ h0=>by
  rw[zM] at h0;have c:=aZ (cs:=[]) (tt:=λ_=>some true) (te:=bI (dv aR (ae 0) (fC (.str " ")))) (g:=λq=>sD (ju q)) (f:=λq=>.list ((q.1::q.2.map λn=>[48+n]).map sD)) (q:=λ_=>true) (l:=qs) (fi:=aH (ae 0)) (ρ:=ρ) (bK h0) (by lia) λq hm=>⟨rfl,λ_=>bq (by
   let⟨a,b⟩:=hq q hm;show aR (sD (ju q)) (.str " ")=_;rw[tM,gn (by rw[<- cR,bj];have:=(mf a b).1;have:=HN;lia),eN,bj,z9 (oK a).2.1 b.d,zM];rfl)⟩
  rw[show qs.filter (λ_=>true)=qs by simp] at c;exact c
 unfold aQ;refine bF ?_;show gm [.val (.list ((qs.map ju).map sD)),.val (sD w),.Qo]=_;unfold gm;refine (ao (cN (c1 _ rfl) rfl)).trans (bY (bq ?_));refine aZ (cs:=[1]) (tt:=fB (f2 cc (f2 bz (ae 0) (fC (.int 0))) (ae 1))) (te:=ai 1 bb (aa (aP aI (ae 0) (cm (fC (.int 1))) aJ) ah)) (g:=λq=>.list ((q.1::q.2.map λn=>[48+n]).map sD)) (f:=λq=>hU q.2) (q:=λq=>decide (q.1=w)) (l:=qs) (fi:=aH (ae 2)) (bK rfl) (by lia) λq hm=>?_;let⟨a,b⟩:=hq q hm;refine⟨cn (ax (a:=sD q.1) (b:=sD w) ((eq_str (HM a) (HM hw)).trans (by rw[eL])) (ax (N8 _ _) rfl rfl) rfl),λ_=>?_⟩;refine call_of (Ep b.d (by have:=b.l;lia)) (cons_of ((rg (k:=1) rfl rfl).trans ?_) rfl) rfl;rw[zI,zM];rfl
section
variable {G T:List Pl}{W:List Wy}
def Mz:(lS G T W).filter (λq=>decide (q.1=hZ))=G.map λp=>(hZ,pN p):=by
 unfold lS;rw[List.filter_append,List.filter_append,List.filter_eq_self.mpr,List.filter_eq_nil_iff.mpr,List.filter_eq_nil_iff.mpr]
 ·simp
 ·intro q hq;let⟨_,_,rfl⟩:=List.mem_map.mp hq;simp
 ·intro q hq;let⟨_,_,rfl⟩:=List.mem_map.mp hq;simp
 ·intro q hq;let⟨_,_,rfl⟩:=List.mem_map.mp hq;exact zX rfl
def Nh:(lS G T W).filter (λq=>decide (q.1=ij))=T.map λp=>(ij,pN p):=by
 unfold lS;rw[List.filter_append,List.filter_append,List.filter_eq_nil_iff.mpr,List.filter_eq_self.mpr,List.filter_eq_nil_iff.mpr]
 ·simp
 ·intro q hq;let⟨_,_,rfl⟩:=List.mem_map.mp hq;simp
 ·intro q hq;let⟨_,_,rfl⟩:=List.mem_map.mp hq;exact zX rfl
 ·intro q hq;let⟨_,_,rfl⟩:=List.mem_map.mp hq;simp
def MI:(lS G T W).filter (λq=>decide (q.1=gQ))=W.map λw=>(gQ,wN w):=by
 unfold lS;rw[List.filter_append,List.filter_append,List.filter_eq_nil_iff.mpr,List.filter_eq_nil_iff.mpr,List.filter_eq_self.mpr]
 ·simp
 ·intro q hq;let⟨_,_,rfl⟩:=List.mem_map.mp hq;exact zX rfl
 ·intro q hq;let⟨_,_,rfl⟩:=List.mem_map.mp hq;simp
 ·intro q hq;let⟨_,_,rfl⟩:=List.mem_map.mp hq;simp
def CN{qs:List (List Nat×List Nat)}(hq:LsOk qs)(hl:qs.length<=100){w:List Nat}(hw:w=hZ\/w=ij\/w=gQ){P:List Pl}(hf:(qs.filter λq=>decide (q.1=w))=P.map λp=>(w,pN p))(hp:∀p∈P,(pN p).map (λn=>((n:Nat):Int))=p.1::p.2)(hP:P.length<=100):aG [.list ((qs.map ju).map sD),sD w]=some (.tuple (P.map ba)):=by
 have r:=El hq hl hw;rw[hf,show (P.map λp=>(w,pN p)).map (λq=>hU q.2)=P.map λp=>hU (pN p) by rw[zM];rfl] at r;have ei:∀ρ:Dl.Env,ae 0 ρ=some (.list ((qs.map ju).map sD))->ae 1 ρ=some (sD w)->aH (ai 2 aQ (aa (ae 0) (aa (ae 1) ah))) ρ=some (P.map λp=>hU (pN p)):=λρ h0 h1=>bK (call_of r (cons_of h0 (cons_of h1 rfl)) rfl);unfold aG;refine bF ?_;show gc [.val (.list ((qs.map ju).map sD)),.val (sD w)]=_;unfold gc;have c:=aZ (cs:=[]) (tt:=fB (f2 KJ (aY cB (aa (ae 0) ah)) (fC (.int 0)))) (te:=bT (aa (f2 bz (ae 0) (fC (.int 0))) (aa (aP aI (ae 0) (cm (fC (.int 1))) aJ) ah))) (g:=λp=>hU (pN p)) (f:=ba) (q:=λ_=>true) (l:=P) (ei (aL [.val (.list ((qs.map ju).map sD)),.val (sD w)]) rfl rfl) (by lia) λp hm=>by
  have e:hU (pN p)=aE (p.1::p.2):=by rw[m5,hp p hm]
  rw[e];refine⟨cn (ax ((Ao _ _).trans ?_) (qr (l:=p.1::p.2) (k:=PyData.int) rfl) rfl),λ_=>tup_is (ds:=[.int p.1,aE p.2]) (cons_of (ax (LA _ _) rfl rfl) (cons_of ((rY (ds:=(p.1::p.2).map PyData.int) (k:=1) rfl rfl).trans rfl) rfl)) (by simp)⟩;rw[zX (by rw[zL];lia)]
 rw[show P.filter (λ_=>true)=P by simp] at c;exact bY ((bS (bq c)).trans (eJ _))
def rR(h:Wd G T W):bC [sD (pY G T W)]=some (gq G T W):=by
 have hq:=jt h;have hl:=kc h;have g:=rD h;have e0:=xo (x:=tS (pY G T W)) (ls:=(lS G T W).map ju) g.zt (by
  rw[bj];refine m6 λl hl=>?_;let⟨q,hm,rfl⟩:=List.mem_map.mp hl;let⟨a,b⟩:=hq q hm;exact (mf a b).2.1)
 have e1:=CN hq (by lia) (w:=hZ) (.inl rfl) Mz (λp hp=>(LN h hp).2) (by have:=h.g4;lia);have e2:=CN hq (by lia) (w:=ij) (.inr (.inl rfl)) Nh (λp hp=>(LW h hp).2) (by have:=h.t4;lia);have e3:=El hq (by lia) (w:=gQ) (.inr (.inr rfl));rw[MI,show (W.map λw=>(gQ,wN w)).map (λq=>hU q.2)=W.map bL by
  rw[zM];refine yF λw hw=>?_;show hU (wN w)=bL w;rw[m5,(LO h hw).2];rfl] at e3
 unfold bC;refine bF ?_;show cL [.val (sD (pY G T W)),.Qo,.Qo]=_;unfold cL;refine (ao (cT (call_of e0 rfl rfl) (call_of e0 rfl rfl) rfl)).trans ?_;have ew:∀ρ:Dl.Env,ae 1 ρ=some (.list (((lS G T W).map ju).map sD))->(bT (aa (ai 2 aG (aa (ae 1) (aa (fC (.str "give")) ah))) (aa (ai 2 aG (aa (ae 1) (aa (fC (.str "take")) ah))) (aa (aY aU (aa (ai 2 aQ (aa (ae 1) (aa (fC (.str "way")) ah))) ah)) ah)))) ρ=some (gq G T W):=λρ h1=>tup_is (ds:=[.tuple (G.map ba),.tuple (T.map ba),.tuple (W.map bL)]) (cons_of (call_of e1 (cons_of h1 (cons_of (by rw[yb];rfl) rfl)) rfl) (cons_of (call_of e2 (cons_of h1 (cons_of (by rw[yy];rfl) rfl)) rfl) (cons_of ((bS (call_of e3 (cons_of h1 (cons_of (by rw[zi];rfl) rfl)) rfl)).trans (eJ _)) rfl))) (by simp);refine (ao (cT (ew _ rfl) (ew _ rfl) rfl)).trans ?_;refine (ao (cZ (K1 (iM (b:=true) (cn (call_of (oG h) rfl rfl))) (cn (ax (a:=sD (pY G T W)) (b:=sD (pY G T W)) ?_ (call_of (lT h) rfl rfl) rfl))))).trans (bY rfl);rw[ne_str g.sk g.sk];simp
end
def LU(d:D):Pl:=(fT ((bE d).getD 0 .none),cJ d)
def DV(d:D):Wy:=(fT ((bE d).getD 0 .none),fT ((bE d).getD 1 .none),fT ((bE d).getD 2 .none))
def Dr{ds:List D}(h:ds.length=2):ds=[ds.getD 0 .none,ds.getD 1 .none]:=by
 match ds,h with
 | [a,b],_=>rfl
def ud{ds:List D}(h:ds.length=3):ds=[ds.getD 0 .none,ds.getD 1 .none,ds.getD 2 .none]:=by
 match ds,h with
 | [a,b,c],_=>rfl
def yw{n:Int}{d:D}(h:placeOk n d=true):ba (LU d)=d/\0<=(LU d).1/\(LU d).1<=9:=by
 let⟨a,ds,rfl,h2,h0,a0,a9,h1,_⟩:=bc h;have e:(LU (.tuple ds)).1=a:=by
  show fT (ds.getD 0 .none)=a;rw[h0];rfl
 refine⟨?_,by rw[e];exact a0,by rw[e];exact a9⟩;unfold ba;rw[e];show PyData.tuple [.int a,aE (cJ (.tuple ds))]=PyData.tuple ds;rw[Dr h2,h0,h1];have:cJ (.tuple ds)=cJ (.tuple [.int a,.tuple ((cJ (.tuple ds)).map PyData.int)]):=by
  rw[<- h0,<- h1,<- Dr h2]
 rw[<- this];rfl
def CO{g t:Int}{d:D}(h:fV g t d=true):bL (DV d)=d/\(0<=(DV d).1/\(DV d).1 < g)/\(0<=(DV d).2.1/\(DV d).2.1 < t)/\1<=(DV d).2.2/\(DV d).2.2<=9:=by
 let⟨ds,c,rfl,h3,e0,e1,e2,c1,c9,a0,a1,b0,b1⟩:=jj h;have ec:fT (ds.getD 2 .none)=c:=by rw[e2];rfl
 refine⟨?_,⟨a0,?_⟩,⟨b0,?_⟩,?_,?_⟩
 ·show PyData.tuple [.int (fT (ds.getD 0 .none)),.int (fT (ds.getD 1 .none)),.int (fT (ds.getD 2 .none))]=PyData.tuple ds;rw[<- e0,<- e1,ec,<- e2,<- ud h3]
 ·show fT (ds.getD 0 .none) < g;lia
 ·show fT (ds.getD 1 .none) < t;lia
 ·show 1<=fT (ds.getD 2 .none);lia
 ·show fT (ds.getD 2 .none)<=9;lia
def M1{a b c d:Int}(h:Dl.lexLt [a,b] [c,d]=true):a < c\/(a=c/\b < d):=by
 have h:HT.lexLt [a,b] [c,d]=true:=h;rw[HT.cG] at h;by_cases e:a=c
 ·rw[yH e,HT.cG] at h;by_cases e':b=d
  ·rw[yH e'] at h;cases h
  ·rw[yJ e'] at h;exact .inr ⟨e,by simpa using h⟩
 ·rw[yJ e] at h;exact .inl (by simpa using h)
def IR{d:D}(h:BH d=true):∃G T W,d=gq G T W/\Wd G T W:=by
 unfold BH at h;rw[zF,zF] at h;let⟨h0,hp,hr⟩:=h;obtain⟨ds,rfl⟩:∃ds,d=.tuple ds:=⟨_,gk h0⟩
 rw[show long 3 3 (.tuple ds)=decide (ds.length=3) from nB 3 ds,zJ] at h0;rw[show bE (.tuple ds)=ds from rfl] at hp hr;have e3:=ud h0;generalize ds.getD 0 .none=g at hp hr e3;generalize ds.getD 1 .none=t at hp hr e3;generalize ds.getD 2 .none=w at hp hr e3;have UY:=hr;rw[Bh hp] at hr;let⟨gs,ts,ws,rfl,rfl,rfl,g1,g4,t1,t4,hG,hT,hW⟩:=iI hp;rw[zF] at hr;let⟨ha,ho⟩:=hr;have ha:KG (ws.map bX)=true:=ha;have ho:=rq.mp ho;let G:=gs.map LU;let T:=ts.map LU;let W:=ws.map DV;have eP:W.map (λw=>[w.1,w.2.1])=ws.map bX:=by
  rw[zM];exact yF λx _=>rfl
 have Uv:Fv W:=by
  have:=nI ha;rw[<- eP,qZ] at this;exact this.imp λQ9=>M1 Q9
 have Zr:∀i j:Int,[i,j]∈ws.map bX->(0<=i/\i < gs.length)/\0<=j/\j < ts.length:=λi j hm=>by
  let⟨x,hx,e⟩:=List.mem_map.mp hm;let⟨_,a,b,_⟩:=CO (hW x hx);have e1:(DV x).1=i:=by
   have:bX x=[i,j]:=e;injection this
  have e2:(DV x).2.1=j:=by
   have:bX x=[i,j]:=e;injection this with _ this
   injection this
  rw[e1] at a;rw[e2] at b;exact⟨a,b⟩
 have wl:W.length<=16:=by
  have q1:=mY (k:=0) hG;have m1:gs.length * ts.length<=16:=vC g4 t4;unfold je at UY;rw[zF,zJ] at UY;have e:ws.map bX=Q7 (eU 0 gs):=UY.1;have:=qX List.length e;rw[zD,(km _).length_eq] at this;show (ws.map DV).length<=16;rw[zD];lia
 refine⟨G,T,W,?_,?_⟩
 ·rw[e3];unfold gq;rw[show G.map ba=gs by
   rw[zM]
   conv=>rhs;rw[<- List.map_id gs]
   exact yF λx hx=>(yw (hG x hx)).1,show T.map ba=ts by
   rw[zM]
   conv=>rhs;rw[<- List.map_id ts]
   exact yF λx hx=>(yw (hT x hx)).1,show W.map bL=ws by
   rw[zM]
   conv=>rhs;rw[<- List.map_id ws]
   exact yF λx hx=>(CO (hW x hx)).1]
 ·have gl:G.length=gs.length:=zD _;have tl:T.length=ts.length:=zD _;refine⟨by lia,by lia,by lia,by lia,λp hp=>?_,λp hp=>?_,λi p hp=>?_,λj p hp=>?_,λw hw=>?_,Uv,wl⟩
  ·let⟨x,hx,rfl⟩:=List.mem_map.mp hp;exact (yw (hG x hx)).2
  ·let⟨x,hx,rfl⟩:=List.mem_map.mp hp;exact (yw (hT x hx)).2
  ·rw[zO] at hp;let⟨x,hx,rfl⟩:=Option.map_eq_some_iff.mp hp;let⟨_,_,_,_,_,_,_,_,nd,bd⟩:=bc (hG x (xY hx));refine (List.perm_ext_iff_of_nodup nd (iL Uv i)).mpr λj=>?_;rw[mZ,eP];constructor
   ·intro hj;let⟨l,q,hq,rfl⟩:=l8 (ts:=ts) rfl (bd j hj).1 (bd j hj).2;have:=(iY.mp (ho i x hx l q hq)).1;rw[qY] at this;exact this.mpr hj
   ·intro hm;let⟨_,b0,b1⟩:=Zr _ _ hm;let⟨l,q,hq,rfl⟩:=l8 (ts:=ts) rfl b0 (by lia);have:=(iY.mp (ho i x hx l q hq)).1;rw[qY] at this;exact this.mp hm
  ·rw[zO] at hp;let⟨x,hx,rfl⟩:=Option.map_eq_some_iff.mp hp;let⟨_,_,_,_,_,_,_,_,nd,bd⟩:=bc (hT x (xY hx));refine (List.perm_ext_iff_of_nodup nd (i6 Uv j)).mpr λi=>?_;rw[m7,eP];constructor
   ·intro hi;let⟨l,q,hq,rfl⟩:=l8 (ts:=gs) rfl (bd i hi).1 (bd i hi).2;have:=(iY.mp (ho l q hq j x hx)).2;rw[qY] at this;exact this.mpr hi
   ·intro hm;let⟨⟨a0,a1⟩,_⟩:=Zr _ _ hm;let⟨l,q,hq,rfl⟩:=l8 (ts:=gs) rfl a0 (by lia);have:=(iY.mp (ho l q hq j x hx)).2;rw[qY] at this;exact this.mp hm
  ·let⟨x,hx,rfl⟩:=List.mem_map.mp hw;rw[gl,tl];exact (CO (hW x hx)).2
open  Ex
abbrev FV:Str:="NoText"
section
variable {α:Type}{tt:Dl.Env->Option Bool}{te:Dl.Env->Option D}{xe:Dl.Env->Option Str}{r:Dl.Env}{g:α->D}{q:α->Bool}{c:Str}
structure LM(tt:Dl.Env->Option Bool)(te:Dl.Env->Option D)(xe:Dl.Env->Option Str)(r:Dl.Env)(g:α->D)(q ok:α->Bool)(f:α->D)(c:Str)(x:α):Prop where
 t:tt (some (g x)::r)=some (q x)
 y:q x=true->ok x=true->te (some (g x)::r)=some (f x)/\xe (some (g x)::r)=none
 n:q x=true->ok x=false->te (some (g x)::r)=none/\xe (some (g x)::r)=some c
variable {ok:α->Bool}{f:α->D}
def Ai{ds:List D}{d:D}{b:Bool}(h:tt (some d::r)=some b):cw (fG 0) tt te (none::r) (d::ds)=if b=true then (te (some d::r)).bind λv=>(cw (fG 0) tt te (none::r) ds).map λvs=>v::vs else cw (fG 0) tt te (none::r) ds:=by
 rw[cw,Fp,zA,h,zA]
def zr{ds:List D}{d:D}{b:Bool}(h:tt (some d::r)=some b):EK (fG 0) tt te xe (none::r) (d::ds)=if b=true then (match xe (some d::r) with|some c=>some c|none=>(te (some d::r)).bind λ_=>EK (fG 0) tt te xe (none::r) ds) else EK (fG 0) tt te xe (none::r) ds:=by
 rw[EK,Fp,zA,h,zA];try rfl
def ID:∀ {l:List α},(∀x∈l,LM tt te xe r g q ok f c x)->(∀x∈l,q x=true->ok x=true)->cw (fG 0) tt te (none::r) (l.map g)=some ((l.filter q).map f)/\EK (fG 0) tt te xe (none::r) (l.map g)=none
 | [],_,_=>⟨rfl,rfl⟩
 | x::l,h,ho=>by
  let⟨i1,i2⟩:=ID (λy hy=>h y (zC _ hy)) λy hy=>ho y (zC _ hy);have hx:=h x zE;rw[zI,Ai hx.t,zr hx.t,jP];cases hq:q x with
  | false=>exact⟨i1,i2⟩
  | true =>
   let⟨z1,z2⟩:=hx.y hq (ho x zE hq);rw[yH rfl,yH rfl,yH rfl,z1,z2,i1];exact⟨rfl,i2⟩
def Ei:∀ {l:List α},(∀x∈l,LM tt te xe r g q ok f c x)->(∃x∈l,q x=true/\ok x=false)->cw (fG 0) tt te (none::r) (l.map g)=none/\EK (fG 0) tt te xe (none::r) (l.map g)=some c
 | [],_,⟨x,h,_⟩=>by cases h
 | x::l,h,hb=>by
  have hx:=h x zE;rw[zI,Ai hx.t,zr hx.t];by_cases hz:q x=true/\ok x=false
  ·let⟨z1,z2⟩:=hx.n hz.1 hz.2;rw[hz.1,yH rfl,yH rfl,z1,z2];exact⟨rfl,rfl⟩
  ·have RN:∃y∈l,q y=true/\ok y=false:=by
    let⟨y,hy,z⟩:=hb;rcases List.mem_cons.mp hy with rfl|hy
    ·exact absurd z hz
    ·exact⟨y,hy,z⟩
   let⟨i1,i2⟩:=Ei (λy hy=>h y (zC _ hy)) RN;cases hq:q x with
   | false=>exact⟨i1,i2⟩
   | true =>
    have ho:ok x=true:=by
     cases ho:ok x with
     | true=>rfl
     | false=>exact absurd ⟨hq,ho⟩ hz
    let⟨z1,z2⟩:=hx.y hq ho;rw[yH rfl,yH rfl,z1,z2,i1];exact⟨rfl,i2⟩
def Cd{cs:List Nat}{fi:Dl.Env->Option (List D)}{ρ:Dl.Env}{l:List α}(Rt:fi ρ=some (l.map g))(hl:l.length<=1000)(hr:(cs.map λj=>(ρ[j]?).getD none)=r)(h:∀x∈l,LM tt te xe r g q ok f c x)(ho:∀x∈l,q x=true->ok x=true) :
  az 1 cs fi (fG 0) tt te ρ=some ((l.filter q).map f)/\fN 1 cs fi (fG 0) tt te xe ρ=none:=by
 subst hr;let⟨a,b⟩:=ID h ho;have hs:(l.map g).length<=sizeLine:=by rw[zD];exact yA hl (by decide)
 constructor
 ·unfold az;rw[Rt,zA];have a':cw (fG 0) tt te (eW 1 cs ρ) (l.map g)=some ((l.filter q).map f):=a;rw[a',zA,bA (by rw[zD];exact yA (xK _ _) (by lia))]
 ·unfold fN;rw[Rt,zA,yH hs];exact b
def yn{cs:List Nat}{fi:Dl.Env->Option (List D)}{ρ:Dl.Env}{l:List α}(Rt:fi ρ=some (l.map g))(hl:l.length<=1000)(hr:(cs.map λj=>(ρ[j]?).getD none)=r)(h:∀x∈l,LM tt te xe r g q ok f c x)(hb:∃x∈l,q x=true/\ok x=false) :
  az 1 cs fi (fG 0) tt te ρ=none/\fN 1 cs fi (fG 0) tt te xe ρ=some c:=by
 subst hr;let⟨a,b⟩:=Ei h hb;have hs:(l.map g).length<=sizeLine:=by rw[zD];exact yA hl (by decide)
 constructor
 ·unfold az;rw[Rt,zA];have a':cw (fG 0) tt te (eW 1 cs ρ) (l.map g)=none:=a;rw[a'];rfl
 ·unfold fN;rw[Rt,zA,yH hs];exact b
end
def lsN{f:Dl.Env->Option (List D)}{ρ:Dl.Env}(h:f ρ=none):bI f ρ=none:=by
 unfold bI;rw[h];rfl
def OX{k:List D->Option D}{f:Dl.Env->Option D}{ρ:Dl.Env}(h:f ρ=none):aY k (aa f ah) ρ=none:=by
 unfold aY aa;rw[h];rfl
def Fm{f:Dl.Env->Option D}{ρ:au}(h:f (aL ρ)=none):bh f ρ=none:=by
 unfold bh;rw[h];rfl
def dN:List (List Nat)->Option (List Nat)
 | []=>some []
 | w::r=>(oP w).bind λn=>(dN r).map λns=>n::ns
def dF:∀ {ws:List (List Nat)}{ns:List Nat},dN ws=some ns->ws=ns.map (λn=>[48+n])/\∀n∈ns,n < 10
 | [],ns,h=>by cases h;exact⟨rfl,λn hn=>by cases hn⟩
 | w::r,ns,h=>by
  unfold dN at h;let⟨n,hn,h⟩:=Dl.bs h;let⟨YV,hs,rfl⟩:=af h;let⟨h1,h2⟩:=uD hn;let⟨i1,i2⟩:=dF hs;refine⟨by rw[zI,<- h2,<- i1],λm hm=>?_⟩;rcases List.mem_cons.mp hm with rfl|hm
  ·exact h1
  ·exact i2 m hm
def zw:∀ {ns:List Nat},(∀n∈ns,n < 10)->dN (ns.map λn=>[48+n])=some ns
 | [],_=>rfl
 | n::ns,h=>by
  rw[zI,dN,Kl (h n zE),zA,zw λm hm=>h m (zC _ hm)];rfl
def lN:∀ {ws:List (List Nat)},dN ws=none->∃w∈ws,oP w=none
 | [],h=>by cases h
 | w::r,h=>by
  cases hw:oP w with
  | none=>exact⟨w,zE,hw⟩
  | some n =>
   rw[dN,hw,zA] at h;cases hr:dN r with
   | none =>
    let⟨v,hv,z⟩:=lN hr;exact⟨v,zC _ hv,z⟩
   | some ns=>rw[hr] at h;cases h
def oD:∀ {ws:List (List Nat)}{ns:List Nat},dN ws=some ns->∀w∈ws,oP w≠none
 | [],_,_,w,hw=>by cases hw
 | v::r,ns,h,w,hw=>by
  unfold dN at h;let⟨n,hn,h⟩:=Dl.bs h;let⟨YV,hs,rfl⟩:=af h;rcases List.mem_cons.mp hw with rfl|hw
  ·rw[hn];simp
  ·exact oD hs w hw
def Gg{w:List Nat}(hz:w.length<=20000)(h:oP w=none):LY bM dQ [sD w] FV:=by
 have t:=lg (x:=tS w) (by rw[<- cR,bj];exact yA hz HN);rw[bj,h] at t;constructor
 ·unfold bM ig;refine runN ?_;show aA _ _ [Slot.val (sD w)]=none;unfold aA;rw[fA (ρ:=[Slot.val (sD w)]) t];rfl
 ·exact NM (ρ:=[Slot.val (sD w)]) t
def Ds{n:Nat}(h:n < 10):dQ [sD [48+n]]=none:=by
 have t:=lg (x:=tS [48+n]) (by rw[<- cR,bj];exact (by decide:1<=sizeLine));rw[bj,Kl h] at t;exact JZ (ρ:=[Slot.val (sD [48+n])]) t
def yo{ws:List (List Nat)}(hw:∀w∈ws,w.length<=20000):∀w∈ws,LM (λ_=>some true) (ai 1 bM (aa (ae 0) ah)) (m8 1 dQ (aa (ae 0) ah)) [] sD (λ_=>true) (λw=>(oP w).isSome) (λw=>.int (((oP w).getD 0:Nat):Int)) FV w:=λw hm=>by
 refine⟨rfl,λ_ ho=>?_,λ_ ho=>?_⟩
 ·let⟨n,hn⟩:=Option.isSome_iff_exists.mp ho;let⟨h1,h2⟩:=uD hn;rw[hn];rw[h2];exact⟨call_of (IQ h1) rfl rfl,Iw (Ds h1) rfl⟩
 ·have hn:oP w=none:=by
   cases e:oP w with
   | none=>rfl
   | some n=>rw[e] at ho;cases ho
  have B:=Gg (hw w hm) hn;exact⟨mw B.n rfl,Im B.x rfl rfl⟩
def Gj{ws:List (List Nat)}{ns:List Nat}(hw:∀w∈ws,w.length<=20000)(hl:ws.length<=1000)(h:dN ws=some ns):bb [.list (ws.map sD)]=some (hU ns)/\dm [.list (ws.map sD)]=none:=by
 let⟨e,hd⟩:=dF h;have b:=Cd (cs:=[]) (fi:=aH (ae 0)) (ρ:=aL [Slot.val (.list (ws.map sD))]) (bK rfl) hl rfl (yo hw) λw hm _=>Option.isSome_iff_ne_none.mpr (oD h w hm);refine⟨?_,b.2⟩;rw[e,zM];exact Ep hd (by rw[e,zD] at hl;exact hl)
def C5{ws:List (List Nat)}(hw:∀w∈ws,w.length<=20000)(hl:ws.length<=1000)(h:dN ws=none):LY bb dm [.list (ws.map sD)] FV:=by
 let⟨w,hm,hn⟩:=lN h;have b:=yn (cs:=[]) (fi:=aH (ae 0)) (ρ:=aL [Slot.val (.list (ws.map sD))]) (bK rfl) hl rfl (yo hw) ⟨w,hm,rfl,by rw[hn];rfl⟩;constructor
 ·unfold bb gL;refine runN ?_;show bh _ [Slot.val (.list (ws.map sD))]=none;exact Fm (OX (lsN b.1))
 ·exact b.2
open  Ex
section
variable {G T:List Pl}{W:List Wy}{t l w:List Nat}{ls:List (List Nat)}
structure Ge(l:List Nat):Prop where
 s:∀c∈l,c < 1114112
 n:l.length<=900
def Ge.gd(g:Ge l):Gd l:=⟨g.s,yA g.n (by decide)⟩
def Ge.part{c:Nat}{p:List Nat}(g:Ge l)(h:p∈bU c l):Ge p:=⟨λy hy=>g.s y (ku h y hy),yA (ik h) g.n⟩
def j6(l:List Nat):List Nat:=(bU 32 l).headD []
def gZ(l:List Nat):List (List Nat):=(bU 32 l).tail
def ie(l:List Nat):bU 32 l=j6 l::gZ l:=by
 unfold j6 gZ;cases h:bU 32 l with
 | nil=>exact absurd h (nX l)
 | cons a b=>rfl
def lz(g:Ge l):(gZ l).length<=900:=by
 have:=j5 (c:=32) l;rw[ie,zL] at this;have:=g.n;lia
def rZ(g:Ge l):∀p∈gZ l,Ge p:=λp hp=>g.part (c:=32) (by rw[ie];exact zC _ hp)
def CQ(g:Ge l):Ge (j6 l):=g.part (c:=32) (by rw[ie];exact zE)
def E9(w l:List Nat):Bool:=!decide (j6 l=w)||(dN (gZ l)).isSome
def i7(w:List Nat)(ls:List (List Nat)):List (List Nat):=(ls.filter λl=>decide (j6 l=w)).map λl=>(dN (gZ l)).getD []
def xi(hl:ls.length<=1000)(hg:∀l∈ls,Ge l){ρ:Dl.Env}(h0:ae 0 ρ=some (.list (ls.map sD))):az 1 [] (aH (ae 0)) (fG 0) (λ_=>some true) (bI (dv aR (ae 0) (fC (.str " ")))) ρ=some (ls.map λl=>.list ((bU 32 l).map sD)):=by
 have c:=aZ (cs:=[]) (tt:=λ_=>some true) (te:=bI (dv aR (ae 0) (fC (.str " ")))) (g:=sD) (f:=λl=>.list ((bU 32 l).map sD)) (q:=λ_=>true) (l:=ls) (fi:=aH (ae 0)) (ρ:=ρ) (bK h0) hl λl hm=>⟨rfl,λ_=>bq (by
  show aR (sD l) (.str " ")=_;rw[tM,gn (hg l hm).gd.zt,eN,bj,zM];rfl)⟩
 rw[show ls.filter (λ_=>true)=ls by simp] at c;exact c
def An(hg:∀l∈ls,Ge l)(hw:Ge w):∀l∈ls,LM (fB (f2 cc (f2 bz (ae 0) (fC (.int 0))) (ae 1))) (ai 1 bb (aa (aP aI (ae 0) (cm (fC (.int 1))) aJ) ah)) (m8 1 dm (aa (aP aI (ae 0) (cm (fC (.int 1))) aJ) ah)) [some (sD w)] (λl=>.list ((bU 32 l).map sD)) (λl=>decide (j6 l=w)) (λl=>(dN (gZ l)).isSome) (λl=>hU ((dN (gZ l)).getD [])) FV l:=λl hm=>by
 have g:=hg l hm;have hs:(bU 32 l).map sD=sD (j6 l)::(gZ l).map sD:=by rw[ie];rfl
 have lw:∀p∈gZ l,p.length<=20000:=λp hp=>yA (rZ g p hp).n (by decide);have ll:(gZ l).length<=1000:=yA (lz g) (by decide);have ea:(aa (aP aI (ae 0) (cm (fC (.int 1))) aJ) ah) [some (.list ((bU 32 l).map sD)),some (sD w)]=some [.list ((gZ l).map sD)]:=cons_of ((rg (k:=1) (ds:=(bU 32 l).map sD) rfl rfl).trans (by rw[hs];rfl)) rfl;refine⟨?_,λ_ ho=>?_,λ_ ho=>?_⟩
 ·refine cn (ax (a:=sD (j6 l)) (b:=sD w) ((eq_str (CQ g).gd.sk hw.gd.sk).trans (by rw[eL])) (ax (a:=.list (sD (j6 l)::(gZ l).map sD)) (b:=.int 0) (N8 _ _) ?_ rfl) rfl);rw[<- hs];rfl
 ·let⟨ns,hn⟩:=Option.isSome_iff_exists.mp ho;have z:=Gj lw ll hn;rw[hn];exact⟨call_of z.1 ea rfl,Iw z.2 ea⟩
 ·have hn:dN (gZ l)=none:=by
   cases e:dN (gZ l) with
   | none=>rfl
   | some n=>rw[e] at ho;cases ho
  have B:=C5 lw ll hn;exact⟨mw B.n ea,Im B.x ea rfl⟩
def um(hl:ls.length<=1000)(hg:∀l∈ls,Ge l)(hw:Ge w)(ho:ls.all (E9 w)=true):aQ [.list (ls.map sD),sD w]=some (.list ((i7 w ls).map hU))/\dy [.list (ls.map sD),sD w]=none:=by
 have s:bf 2 [0] (az 1 [] (aH (ae 0)) (fG 0) (λ_=>some true) (bI (dv aR (ae 0) (fC (.str " "))))) [.val (.list (ls.map sD)),.val (sD w),.Qo]=some (.nx [.val (.list (ls.map sD)),.val (sD w),.own (ls.map λl=>.list ((bU 32 l).map sD))]):=cN (xi hl hg rfl) rfl;have b:=Cd (cs:=[1]) (fi:=aH (ae 2)) (ρ:=aL [.val (.list (ls.map sD)),.val (sD w),.own (ls.map λl=>.list ((bU 32 l).map sD))]) (bK rfl) hl rfl (An hg hw) λl hm hq=>by
  have:=List.all_eq_true.mp ho l hm;unfold E9 at this;rw[hq] at this;exact this
 constructor
 ·unfold aQ gm;refine bF ((ao s).trans (bY (bq (b.1.trans ?_))));unfold i7;rw[zM];rfl
 ·show eM [.val (.list (ls.map sD)),.val (sD w),.Qo]=_;unfold eM rF;rw[s];exact b.2
def uu(hl:ls.length<=1000)(hg:∀l∈ls,Ge l)(hw:Ge w)(ho:ls.all (E9 w)=false):LY aQ dy [.list (ls.map sD),sD w] FV:=by
 have s:bf 2 [0] (az 1 [] (aH (ae 0)) (fG 0) (λ_=>some true) (bI (dv aR (ae 0) (fC (.str " "))))) [.val (.list (ls.map sD)),.val (sD w),.Qo]=some (.nx [.val (.list (ls.map sD)),.val (sD w),.own (ls.map λl=>.list ((bU 32 l).map sD))]):=cN (xi hl hg rfl) rfl;obtain⟨l,hm,hn⟩:∃l∈ls,E9 w l=false:=by
  rw[List.all_eq_false] at ho;let⟨l,hm,hn⟩:=ho;exact⟨l,hm,by simpa using hn⟩
 unfold E9 at hn;rw[Bool.or_eq_false_iff,Bool.not_eq_false'] at hn;have b:=yn (cs:=[1]) (fi:=aH (ae 2)) (ρ:=aL [.val (.list (ls.map sD)),.val (sD w),.own (ls.map λl=>.list ((bU 32 l).map sD))]) (bK rfl) hl rfl (An hg hw) ⟨l,hm,hn.1,hn.2⟩;constructor
 ·unfold aQ gm;exact runN ((ao s).trans (Fm (lsN b.1)))
 ·show eM [.val (.list (ls.map sD)),.val (sD w),.Qo]=_;unfold eM rF;rw[s];exact b.2
def hJ:List Nat->D
 | []=>.none
 | n::ns=>.tuple [nD n,hU ns]
def Ab:(i7 w ls).length<=ls.length:=by
 unfold i7;rw[zD];exact xK _ _
def tY(hl:ls.length<=1000)(hg:∀l∈ls,Ge l)(hw:Ge w)(ho:ls.all (E9 w)=true):aG [.list (ls.map sD),sD w]=some (.tuple (((i7 w ls).filter λr=>decide (r≠[])).map hJ))/\cP [.list (ls.map sD),sD w]=none:=by
 have r:=um hl hg hw ho;have ei:aH (ai 2 aQ (aa (ae 0) (aa (ae 1) ah))) (aL [.val (.list (ls.map sD)),.val (sD w)])=some ((i7 w ls).map hU):=bK (call_of r.1 (cons_of rfl (cons_of rfl rfl)) rfl);have c:=aZ (cs:=[]) (tt:=fB (f2 KJ (aY cB (aa (ae 0) ah)) (fC (.int 0)))) (te:=bT (aa (f2 bz (ae 0) (fC (.int 0))) (aa (aP aI (ae 0) (cm (fC (.int 1))) aJ) ah))) (g:=hU) (f:=hJ) (q:=λr=>decide (r≠[])) (l:=i7 w ls) ei (yA Ab hl) λr _=>by
  refine⟨cn (ax ((Ao _ _).trans ?_) (qr (l:=r) (k:=λn=>.int ((n:Nat):Int)) rfl) rfl),λhq=>?_⟩
  ·congr 2
   cases r<;>simp
  ·cases r with
   | nil=>simp at hq
   | cons n ns=>exact tup_is (ds:=[nD n,hU ns]) (cons_of (ax (LA _ _) rfl rfl) (cons_of ((rY (ds:=(n::ns).map λn=>.int ((n:Nat):Int)) (k:=1) rfl rfl).trans rfl) rfl)) (by simp)
 constructor
 ·unfold aG gc;exact bF (bY ((bS (bq c)).trans (eJ _)))
 ·exact Iw (n:=2) (fs:=aa (ae 0) (aa (ae 1) ah)) (ρ:=aL [.val (.list (ls.map sD)),.val (sD w)]) r.2 rfl
def uA(hl:ls.length<=1000)(hg:∀l∈ls,Ge l)(hw:Ge w)(ho:ls.all (E9 w)=false):LY aG cP [.list (ls.map sD),sD w] FV:=by
 have B:=uu hl hg hw ho;constructor
 ·unfold aG gc;refine runN (Fm (OX (lsN ?_)));unfold az aH;rw[mw B.n rfl];rfl
 ·exact Im (fs:=aa (ae 0) (aa (ae 1) ah)) (ρ:=aL [.val (.list (ls.map sD)),.val (sD w)]) B.x rfl rfl
end
open  Ex
section
variable {G T:List Pl}{W:List Wy}{t l w:List Nat}{ls:List (List Nat)}
def Kr{g:au->Option Out}{x:au->Option Str}{ρ ρ':au}(h:g ρ=some (.nx ρ')):rF g x ρ=x ρ':=by
 unfold rF;rw[h];rfl
def BY{xh x:au->Option Str}{g:au->Option Out}{ρ ρ':au}(h0:xh ρ=none)(h:g ρ=some (.nx ρ')):kz xh g x ρ=x ρ':=by
 unfold kz;rw[h0];exact Kr h
def EC{xh x:au->Option Str}{g:au->Option Out}{ρ:au}{c:Str}(h0:xh ρ=some c):kz xh g x ρ=some c:=by
 unfold kz;rw[h0]
def jz{g1 g2:au->Option Out}{ρ:au}(h:g1 ρ=none):aA g1 g2 ρ=none:=by
 unfold aA;rw[h];rfl
def T5{i:Nat}{fz:List Nat}{f:Dl.Env->Option D}{ρ:au}(h:f (aL ρ)=none):aS i fz f ρ=none:=by
 unfold aS;rw[h];rfl
def vz{f:Dl.Env->Option D}{fs:Dl.Env->Option (List D)}{ρ:Dl.Env}(h:f ρ=none):aa f fs ρ=none:=by
 unfold aa;rw[h];rfl
def vZ{f:Dl.Env->Option D}{fs:Dl.Env->Option (List D)}{ρ:Dl.Env}{d:D}(h:f ρ=some d)(h2:fs ρ=none):aa f fs ρ=none:=by
 unfold aa;rw[h,zA,h2];rfl
def Lu{fs:Dl.Env->Option (List D)}{ρ:Dl.Env}(h:fs ρ=none):bT fs ρ=none:=by
 unfold bT;rw[h];rfl
def tf(t:List Nat):∃ls l,bU 10 t=ls++[l]:=⟨_,_,(List.dropLast_concat_getLast (nX t)).symm⟩
def A6(g:Gd t)(h:bU 10 t=ls++[l])(hl:l≠[]):LY cD gM [sD t] FV:=by
 have s:=lX (x:=tS t) g.zt;rw[bj,h,qU] at s;have gl:Gd l:=g.part (c:=10) (by rw[h];exact yB _ zE);have c:fB (f2 cS (f2 bz (ae 1) (f1 gx (fC (.int 1)))) (fC (.str ""))) (aL (lv (tS t) (ls.map sD++[l].map sD)))=some true:=by
  refine cn (ax (a:=sD l) (b:=sD []) ?_ ?_ (by rw[show sD []=PyData.str "" by rw[zq];rfl];rfl))
  ·rw[ne_str gl.sk (by decide +kernel),eL,zW hl];rfl
  ·show jh (ls.map sD++[sD l]) (-1)=_;exact m9
 constructor
 ·unfold cD jq;refine runN ((ao s).trans (jz ?_));rw[fA c];rfl
 ·show dR [Slot.val (sD t),.Qo]=_;unfold dR;exact (Kr s).trans (NM c)
def wt(g:Gd t)(h:bU 10 t=ls++[[]]):gM [sD t]=none:=by
 have s:=lX (x:=tS t) g.zt;rw[bj,h,qU] at s;have c:fB (f2 cS (f2 bz (ae 1) (f1 gx (fC (.int 1)))) (fC (.str ""))) (aL (lv (tS t) (ls.map sD++[[]].map sD)))=some false:=by
  refine cn (ax (a:=sD []) (b:=.str "") ?_ ?_ rfl)
  ·rw[ne_str (by decide +kernel) (by decide +kernel)];rfl
  ·show jh (ls.map sD++[sD []]) (-1)=_;exact m9
 show dR [Slot.val (sD t),.Qo]=_;unfold dR;exact (Kr s).trans (JZ c)
def E2{ns:List Nat}(h:ns.length<=1000):fS 1000 1 (hU ns):=.tup (by rw[zD];exact h) λx hx=>by
 let⟨n,_,rfl⟩:=List.mem_map.mp hx;exact .leaf trivial
def GC{ns:List Nat}(h:ns.length<=1000):fS 1000 2 (hJ ns):=by
 cases ns with
 | nil=>exact .leaf trivial
 | cons n ns =>
  rw[zL] at h;refine .tup (by simp) λx hx=>?_;rcases List.mem_cons.mp hx with rfl|hx
  ·exact .leaf trivial
  ·rw[List.mem_singleton.mp hx];exact E2 (by lia)
def dW(A B C:List (List Nat)):D:=.tuple [.tuple (A.map hJ),.tuple (B.map hJ),.tuple (C.map hU)]
def IB(ha:A.length<=1000/\∀r∈A,r.length<=1000)(hb:B.length<=1000/\∀r∈B,r.length<=1000)(hc:C.length<=1000/\∀r∈C,r.length<=1000):fS 1000 4 (dW A B C):=by
 have e:∀ {A:List (List Nat)},(A.length<=1000/\∀r∈A,r.length<=1000)->fS 1000 3 (.tuple (A.map hJ)):=λ{A} h=>.tup (by rw[zD];exact h.1) λx hx=>by
  let⟨r,hr,rfl⟩:=List.mem_map.mp hx;exact GC (h.2 r hr)
 refine .tup (by simp) λx hx=>?_;simp?[zQ,yC,xQ] at hx;rcases hx with rfl|rfl|rfl
 ·exact e ha
 ·exact e hb
 ·exact .tup (by rw[zD];exact hc.1) λx hx=>by
   let⟨r,hr,rfl⟩:=List.mem_map.mp hx;exact (E2 (hc.2 r hr)).mono (yI _) (by decide)
def EY{ws:List (List Nat)}:((dN ws).getD []).length<=ws.length:=by
 cases h:dN ws with
 | none=>exact xR _
 | some ns =>
  let⟨e,_⟩:=dF h;rw[e,zD];exact yI _
def Am(hl:ls.length<=1000)(hg:∀l∈ls,Ge l):(i7 w ls).length<=1000/\∀r∈i7 w ls,r.length<=1000:=by
 refine⟨yA Ab hl,λr hr=>?_⟩;unfold i7 at hr;let⟨l,hm,rfl⟩:=List.mem_map.mp hr;exact yA EY (yA (lz (hg l (List.mem_filter.mp hm).1)) (by decide))
def md(hw:w=hZ\/w=ij\/w=gQ):Ge w:=⟨λc hc=>by have:=(oK hw).2.2 c hc;lia,by have:=(oK hw).1;lia⟩
def Kh(g:Ge t)(hn:∀G T W,Wd G T W->t≠pY G T W):LY bC d7 [sD t] FV:=by
 let⟨ls,l,e⟩:=tf t;have hg:∀q∈ls,Ge q:=λq hq=>g.part (c:=10) (by rw[e];exact qF _ hq);have hl:ls.length<=1000:=by
  have:=j5 (c:=10) t;rw[e,zN,yY] at this;have:=g.n;lia
 by_cases he:l≠[]
 ·have B:=A6 g.gd e he;constructor
  ·unfold bC cL;exact runN (jz (T5 (mw B.n rfl)))
  ·show bQ [.val (sD t),.Qo,.Qo]=_;unfold bQ;exact EC (Im B.x rfl rfl)
 have he:l=[]:=Decidable.not_not.mp he;subst he;have e0:=xo (x:=tS t) (ls:=ls) g.gd.zt (by rw[bj];exact e);have x0:=wt g.gd e;have s1:aS 1 [0] (ai 1 cD (aa (ae 0) ah)) [.val (sD t),.Qo,.Qo]=some (.nx [.val (sD t),.val (.list (ls.map sD)),.Qo]):=cT (call_of e0 rfl rfl) (call_of e0 rfl rfl) rfl;let ρ:Dl.Env:=aL [.val (sD t),.val (.list (ls.map sD)),.Qo];have ag:aa (ae 1) (aa (fC (.str "give")) ah) ρ=some [.list (ls.map sD),sD hZ]:=by rw[<- yb];rfl
 have at':aa (ae 1) (aa (fC (.str "take")) ah) ρ=some [.list (ls.map sD),sD ij]:=by rw[<- yy];rfl
 have aw:aa (ae 1) (aa (fC (.str "way")) ah) ρ=some [.list (ls.map sD),sD gQ]:=by rw[<- zi];rfl
 have goN:bT (aa (ai 2 aG (aa (ae 1) (aa (fC (.str "give")) ah))) (aa (ai 2 aG (aa (ae 1) (aa (fC (.str "take")) ah))) (aa (aY aU (aa (ai 2 aQ (aa (ae 1) (aa (fC (.str "way")) ah))) ah)) ah))) ρ=none->bC [sD t]=none:=λz=>by
  unfold bC cL;exact runN ((ao s1).trans (jz (T5 z)))
 have Yq:∀ {c:Str},gT [((ai 2 aG (aa (ae 1) (aa (fC (.str "give")) ah))),some (m8 2 cP (aa (ae 1) (aa (fC (.str "give")) ah)))),((ai 2 aG (aa (ae 1) (aa (fC (.str "take")) ah))),some (m8 2 cP (aa (ae 1) (aa (fC (.str "take")) ah)))),((aY aU (aa (ai 2 aQ (aa (ae 1) (aa (fC (.str "way")) ah))) ah)),some (m8 2 dy (aa (ae 1) (aa (fC (.str "way")) ah))))] ρ=some c->d7 [sD t]=some c:=λ{c} z=>by
  show bQ [.val (sD t),.Qo,.Qo]=_;unfold bQ;exact (BY (Iw x0 rfl) s1).trans (EC z)
 have Va:∀ {f:Dl.Env->Option D}{x:Dl.Env->Option Str}{r:List ((Dl.Env->Option D)×Option (Dl.Env->Option Str))}{c:Str},x ρ=some c->gT ((f,some x)::r) ρ=some c:=λ{f x r c} h=>by
  unfold gT;rw[zA,h]
 have SG:∀ {f:Dl.Env->Option D}{x:Dl.Env->Option Str}{r:List ((Dl.Env->Option D)×Option (Dl.Env->Option Str))}{d:D},x ρ=none->f ρ=some d->gT ((f,some x)::r) ρ=gT r ρ:=λ{f x r d} h h2=>by
  conv=>lhs;unfold gT
  rw[zA,h,h2];rfl
 cases og:ls.all (E9 hZ) with
 | false =>
  have B:=uA hl hg (md (.inl rfl)) og;exact⟨goN (Lu (vz (mw B.n ag))),Yq (Va (Im B.x ag rfl))⟩
 | true =>
  let⟨g1,g2⟩:=tY hl hg (md (.inl rfl)) og;have c1:=call_of (n:=2) g1 ag rfl;have x1:m8 2 cP (aa (ae 1) (aa (fC (.str "give")) ah)) ρ=none:=Iw g2 ag;cases ot:ls.all (E9 ij) with
  | false =>
   have B:=uA hl hg (md (.inr (.inl rfl))) ot;exact⟨goN (Lu (vZ c1 (vz (mw B.n at')))),Yq ((SG x1 c1).trans (Va (Im B.x at' rfl)))⟩
  | true =>
   let⟨t1,t2⟩:=tY hl hg (md (.inr (.inl rfl))) ot;have c2:=call_of (n:=2) t1 at' rfl;have x2:m8 2 cP (aa (ae 1) (aa (fC (.str "take")) ah)) ρ=none:=Iw t2 at';cases ow:ls.all (E9 gQ) with
   | false =>
    have B:=uu hl hg (md (.inr (.inr rfl))) ow;exact⟨goN (Lu (vZ c1 (vZ c2 (vz (OX (mw B.n aw)))))),Yq ((SG x1 c1).trans ((SG x2 c2).trans (Va (Im B.x aw rfl))))⟩
   | true =>
    let⟨w1,w2⟩:=um hl hg (md (.inr (.inr rfl))) ow;have c3:aY aU (aa (ai 2 aQ (aa (ae 1) (aa (fC (.str "way")) ah))) ah) ρ=some (.tuple ((i7 gQ ls).map hU)):=(bS (call_of (n:=2) w1 aw rfl)).trans (eJ _);have x3:m8 2 dy (aa (ae 1) (aa (fC (.str "way")) ah)) ρ=none:=Iw w2 aw;let A:=(i7 hZ ls).filter λr=>decide (r≠[]);let B:=(i7 ij ls).filter λr=>decide (r≠[]);let C:=i7 gQ ls;have ew:bT (aa (ai 2 aG (aa (ae 1) (aa (fC (.str "give")) ah))) (aa (ai 2 aG (aa (ae 1) (aa (fC (.str "take")) ah))) (aa (aY aU (aa (ai 2 aQ (aa (ae 1) (aa (fC (.str "way")) ah))) ah)) ah))) ρ=some (dW A B C):=tup_is (ds:=[.tuple (A.map hJ),.tuple (B.map hJ),.tuple (C.map hU)]) (cons_of c1 (cons_of c2 (cons_of c3 rfl))) (by simp);have s2:aS 2 [1] (bT (aa (ai 2 aG (aa (ae 1) (aa (fC (.str "give")) ah))) (aa (ai 2 aG (aa (ae 1) (aa (fC (.str "take")) ah))) (aa (aY aU (aa (ai 2 aQ (aa (ae 1) (aa (fC (.str "way")) ah))) ah)) ah)))) [.val (sD t),.val (.list (ls.map sD)),.Qo]=some (.nx [.val (sD t),.val (.list (ls.map sD)),.val (dW A B C)]):=cT ew ew rfl;have fl:∀ {w:List Nat},((i7 w ls).filter λr=>decide (r≠[])).length<=1000/\∀r∈(i7 w ls).filter λr=>decide (r≠[]),r.length<=1000:=λ{w}=>by
     have z:=Am (w:=w) hl hg;exact⟨yA (xK _ _) z.1,λr hr=>z.2 r (List.mem_filter.mp hr).1⟩
    have ip:=gJ (d:=dW A B C) (IB fl fl (Am (w:=gQ) hl hg)) (yI 1000);have Zs:d5 (cq (fB (ai 1 aV (aa (ae 2) ah)))) (fB (f2 cS (ai 1 br (aa (ae 2) ah)) (ae 0))) (aL [.val (sD t),.val (.list (ls.map sD)),.val (dW A B C)])=some true:=by
     have n1:=cn (call_of (n:=1) (fs:=aa (ae 2) ah) (ρ:=aL [.val (sD t),.val (.list (ls.map sD)),.val (dW A B C)]) ip rfl rfl);cases hb:BH (dW A B C) with
     | false =>
      rw[hb] at n1;unfold d5;rw[iM n1];rfl
     | true =>
      rw[hb] at n1;let⟨G,T,W,ed,h⟩:=IR hb;unfold d5;rw[iM n1];refine cn (ax (a:=sD (pY G T W)) (b:=sD t) ((ne_str (rD h).sk g.gd.sk).trans ?_) (call_of (lT h) (cons_of (by rw[<- ed];rfl) rfl) rfl) rfl);rw[eL,zW (λz=>hn G T W h z.symm)];rfl
    constructor
    ·unfold bC cL;refine runN ((ao s1).trans ((ao s2).trans (jz ?_)));rw[fA Zs];rfl
    ·show bQ [.val (sD t),.Qo,.Qo]=_;unfold bQ;refine (BY (Iw x0 rfl) s1).trans ((BY ?_ s2).trans (NM Zs));exact (SG x1 c1).trans ((SG x2 c2).trans ((SG x3 c3).trans rfl))
def EH(h:Wd G T W):aX [sD (pY G T W)]=some (gq G T W):=by
 unfold aX dS;exact bF (l4 (Nl (ρ:=[.val (sD (pY G T W)),.Qo,.Qo]) (bY (call_of (rR h) rfl rfl))))
def Ha(g:Ge t)(hn:∀G T W,Wd G T W->t≠pY G T W):aX [sD t]=some .none:=by
 have B:=Kh g hn;unfold aX dS;refine bF (l4 (KQ (ρ:=[.val (sD t),.Qo,.Qo]) (c:=FV) (Fm (mw B.n rfl)) (Im (fs:=aa (ae 0) ah) (ρ:=aL [.val (sD t),.Qo,.Qo]) B.x rfl rfl) (by unfold FK;exact yH (by decide +kernel))))
end
open  Ex
def LQ:Dl.Env->Option D:=bT (aa (fC (.str "give")) (aa (fC (.str "take")) (aa (fC (.str "way")) ah)))
def KZ:Dl.Env->Option Bool:=d5 (fB (f2 uv (f2 bz (ae 5) (fC (.int 0))) LQ)) (fB (f2 tm (aY cB (aa (ae 5) ah)) (fC (.int 2))))
def MY:Dl.Env->Option Bool:=fB (f2 cS (bI (az 1 [] (aH (aP aI (ae 5) (cm (fC (.int 1))) aJ)) (fG 0) (d5 (fB (f2 cS (aY ft (aa (ae 0) ah)) (fC (.int 1)))) (fB (f2 (λx y=>(rE x y).map PyData.bool) (ae 0) (fC (.str "0123456789"))))) (ae 0))) (bI (cC ah)))
def On:Dl.Env->Option D:=aY aU (aa (bI (az 1 [] (aH (aP aI (ae 5) (cm (fC (.int 1))) aJ)) (fG 0) (λ_=>some true) (aY nr (aa (ae 0) ah)))) ah)
def OD:Dl.Env->Option D:=bT (aa (f2 bz (ae 7) (fC (.int 0))) (aa (aP aI (ae 7) (cm (fC (.int 1))) aJ) ah))
def NF:au->Option Out:=aA (aS 5 [4] (bI (dv aR (ae 4) (fC (.str " "))))) (aA (iW KZ (bh (fC .none)) hV) (aA (aS 6 [5] (f2 tZ LQ (f2 bz (ae 5) (fC (.int 0))))) (aA (iW (fB (f2 tm (ae 6) (ae 2))) (bh (fC .none)) hV) (aA (iW MY (bh (fC .none)) hV) (aA (aS 2 [6] (ae 6)) (aA (aS 7 [5] On) (aA (iW (fB (f2 tm (ae 6) (fC (.int 2)))) (aS 7 [7] OD) hV) (pF 1 (ae 6) (ae 7)))))))))
def wk:Nat->List Nat
 | 0=>hZ
 | 1=>ij
 | _=>gQ
def EA(k:Nat):wk k=hZ\/wk k=ij\/wk k=gQ:=by
 match k with
 | 0=>exact .inl rfl
 | 1=>exact .inr (.inl rfl)
 | _+2=>exact .inr (.inr rfl)
def wU{j k:Nat}(hj:j<=2)(hk:k<=2)(h:wk j=wk k):j=k:=by
 match j,k,hj,hk with
 | 0,0,_,_=>rfl
 | 1,1,_,_=>rfl
 | 2,2,_,_=>rfl
 | 0,1,_,_=>exact absurd h (by decide)
 | 0,2,_,_=>exact absurd h (by decide)
 | 1,0,_,_=>exact absurd h (by decide)
 | 1,2,_,_=>exact absurd h (by decide)
 | 2,0,_,_=>exact absurd h (by decide)
 | 2,1,_,_=>exact absurd h (by decide)
section
variable {t l w:List Nat}{ls:List (List Nat)}{ρ:Dl.Env}
abbrev W3:List D:=[sD hZ,sD ij,sD gQ]
def HR(ρ:Dl.Env):LQ ρ=some (.tuple W3):=by
 unfold LQ;rw[yb,yy,zi];exact tup_is (ds:=W3) rfl (by simp)
def mv{ps:List (List Nat)}(h:∀p∈ps,Ge p):SeqAt.shaped (.list (ps.map sD))=true/\SeqAt.shaped (.tuple (ps.map sD))=true:=by
 have hh:∀ps:List (List Nat),(∀p∈ps,Ge p)->PyData.canLayAll0 (ps.map sD)=true/\PyData.depthAll (ps.map sD)<=1:=λps h=>by
  induction ps with
  | nil=>exact⟨by simp[PyData.canLayAll0],by simp[PyData.depthAll]⟩
  | cons b bs ih =>
   let⟨i1,i2⟩:=ih λc hc=>h c (zC _ hc);have hb:PyData.strOk (tS b)=true:=(h b zE).gd.sk;exact⟨by simp[PyData.canLayAll0,PyData.canLay0,hb,i1],by simp[PyData.depthAll,PyData.depth];lia⟩
 have:=hh ps h;unfold SeqAt.shaped;rw[zF,zF];exact⟨⟨by simp[PyData.canLay0,this.1],by simp[PyData.depth];lia⟩,by simp[PyData.canLay0,this.1],by simp[PyData.depth];lia⟩
def Pd:SeqAt.shaped (.tuple W3)=true:=(mv (ps:=[hZ,ij,gQ]) λp hp=>md (by simp?[zQ,yC,xQ] at hp;exact hp)).2
def OH(g:Ge w):uv (sD w) (.tuple W3)=some (.bool (!decide (w=hZ\/w=ij\/w=gQ))):=by
 have e:(W3.any λz=>PyData.eqv z (sD w))=decide (w=hZ\/w=ij\/w=gQ):=by
  show (PyData.eqv (sD hZ) (sD w)||(PyData.eqv (sD ij) (sD w)||(PyData.eqv (sD gQ) (sD w)||false)))=_;rw[fy,fy,fy,eL,eL,eL,Bool.or_false];by_cases h1:w=hZ
  ·simp[h1]
  ·by_cases h2:w=ij
   ·simp[h2]
   ·by_cases h3:w=gQ
    ·simp[h3]
    ·simp[h1,h2,h3,jG h1,jG h2,jG h3]
 unfold uv Nx;dsimp only;rw[yH ⟨dw g.gd.sk,Pd⟩,e];rfl
def NO{k:Nat}(hk:k<=2):tZ (.tuple W3) (sD (wk k))=some (nD k):=by
 have g:PyData.strOk (tS (wk k))=true:=(md (EA k)).gd.sk;have e:AF (sD (wk k)) W3=some k:=by
  show (if PyData.eqv (sD hZ) (sD (wk k))=true then some 0 else (if PyData.eqv (sD ij) (sD (wk k))=true then some 0 else (if PyData.eqv (sD gQ) (sD (wk k))=true then some 0 else none).map (·+1)).map (·+1))=some k;rw[fy,fy,fy,eL,eL,eL]
  match k,hk with
  | 0,_=>rfl
  | 1,_=>rfl
  | 2,_=>rfl
 unfold tZ;dsimp only;rw[yH ⟨dw g,Pd⟩,e];rfl
def KD{n:Nat}(hn:n < 10):nr [sD [48+n]]=some (.int ((n:Nat):Int)):=by
 show (if (tS [48+n]).length<=640 then (PySem.intText? (tS [48+n])).map PyData.int else none)=_;have e:PySem.intText? (tS [48+n])=some ((n:Nat):Int):=by
  match n,hn with
  | 0,_|1,_|2,_|3,_|4,_|5,_|6,_|7,_|8,_|9,_=>decide +kernel
 rw[yH (by rw[<- cR,bj];exact (by decide:1<=640)),e];rfl
def Ez{f:Dl.Env->Option D}{ds:List D}(h:f ρ=some (.list ds)):aY cB (aa f ah) ρ=some (.int ((ds.length:Nat):Int)):=(bS h).trans rfl
def Ij(h5:ae 5 ρ=some (.list ((bU 32 l).map sD))):f2 bz (ae 5) (fC (.int 0)) ρ=some (sD (j6 l)):=by
 have hs:(bU 32 l).map sD=sD (j6 l)::(gZ l).map sD:=by rw[ie];rfl
 exact ax (a:=.list (sD (j6 l)::(gZ l).map sD)) (b:=.int 0) (N8 _ _) (by rw[<- hs];exact h5) rfl
def DU(h5:ae 5 ρ=some (.list ((bU 32 l).map sD))):aP aI (ae 5) (cm (fC (.int 1))) aJ ρ=some (.list ((gZ l).map sD)):=by
 have hs:(bU 32 l).map sD=sD (j6 l)::(gZ l).map sD:=by rw[ie];rfl
 exact (rg (k:=1) h5 rfl).trans (by rw[hs];rfl)
def NZ(g:Ge l)(h5:ae 5 ρ=some (.list ((bU 32 l).map sD))):KZ ρ=some (!decide ((j6 l=hZ\/j6 l=ij\/j6 l=gQ)/\gZ l≠[])):=by
 have e1:fB (f2 uv (f2 bz (ae 5) (fC (.int 0))) LQ) ρ=some (!decide (j6 l=hZ\/j6 l=ij\/j6 l=gQ)):=cn (ax (OH (CQ g)) (Ij h5) (HR ρ));have e2:fB (f2 tm (aY cB (aa (ae 5) ah)) (fC (.int 2))) ρ=some (decide (gZ l=[])):=by
  refine cn (ax (a:=.int ((((bU 32 l).map sD).length:Nat):Int)) (b:=.int 2) ?_ (Ez h5) rfl);rw[zD,ie,zL];have:(decide ((((gZ l).length+1:Nat):Int) < 2))=decide (gZ l=[]):=by
   cases gZ l with
   | nil=>rfl
   | cons a b =>
    rw[zW (by rw[zL];lia),zW (by simp)]
  rw[<- this];simp[tm,sx]
 unfold KZ d5;rw[e1];by_cases h1:j6 l=hZ\/j6 l=ij\/j6 l=gQ
 ·rw[zX h1];show fB (f2 tm (aY cB (aa (ae 5) ah)) (fC (.int 2))) ρ=_;rw[e2];by_cases h2:gZ l=[]
  ·simp[h2]
  ·simp[h1,h2]
 ·rw[zW h1];simp[h1]
def NQ(g:Ge l)(h5:ae 5 ρ=some (.list ((bU 32 l).map sD))):MY ρ=some (dN (gZ l)).isNone:=by
 have c:=aZ (cs:=[]) (tt:=d5 (fB (f2 cS (aY ft (aa (ae 0) ah)) (fC (.int 1)))) (fB (f2 (λx y=>(rE x y).map PyData.bool) (ae 0) (fC (.str "0123456789"))))) (te:=ae 0) (g:=sD) (f:=sD) (q:=λp=>(oP p).isNone) (l:=gZ l) (fi:=aH (aP aI (ae 5) (cm (fC (.int 1))) aJ)) (ρ:=ρ) (bK (DU h5)) (yA (lz g) (by decide)) λp hp=>by
  have z:=lg (x:=tS p) (by rw[<- cR,bj];exact yA (rZ g p hp).n (yA (by decide) HN));rw[bj] at z;exact⟨z,λ_=>rfl⟩
 have hs:=(mv (ps:=(gZ l).filter λp=>(oP p).isNone) λp hp=>rZ g p (List.mem_filter.mp hp).1).1;have ne:∀ds:List D,SeqAt.shaped (.list ds)=true->cS (.list ds) (.list [])=some (.bool (!ds.isEmpty)):=λds hs=>by
  have h0:SeqAt.shaped (.list [])=true:=by decide
  simp?[cS,HU,hs,h0,and_self,xD,zB];cases ds<;>simp[PyData.eqv,PyData.eqvAll]
 refine cn (ax ((ne _ hs).trans ?_) (bq c) (bq (iC rfl (by simp))))
 congr 2
 cases hd:dN (gZ l) with
 | none =>
  let⟨p,hp,hn⟩:=lN hd;have:p∈(gZ l).filter λp=>(oP p).isNone:=List.mem_filter.mpr ⟨hp,by rw[hn];rfl⟩;cases hf:(gZ l).filter λp=>(oP p).isNone with
  | nil=>rw[hf] at this;cases this
  | cons a b=>rfl
 | some ns =>
  have:((gZ l).filter λp=>(oP p).isNone)=[]:=by
   rw[List.filter_eq_nil_iff];intro p hp;have:=oD hd p hp;cases e:oP p with
   | none=>exact absurd e this
   | some n=>simp
  rw[this];rfl
def Pq{ns:List Nat}(g:Ge l)(h5:ae 5 ρ=some (.list ((bU 32 l).map sD)))(hd:dN (gZ l)=some ns):On ρ=some (hU ns):=by
 let⟨e,Yl⟩:=dF hd;have hl:ns.length<=900:=by
  have:=lz g;rw[e,zD] at this;exact this
 have hc:=DU h5;rw[e,zM] at hc;have c:=aZ (cs:=[]) (tt:=λ_=>some true) (te:=aY nr (aa (ae 0) ah)) (g:=λn=>sD [48+n]) (f:=λn=>.int ((n:Nat):Int)) (q:=λ_=>true) (l:=ns) (fi:=aH (aP aI (ae 5) (cm (fC (.int 1))) aJ)) (ρ:=ρ) (bK hc) (by lia) λn hn=>⟨rfl,λ_=>(bS rfl).trans (KD (Yl n hn))⟩
 rw[show ns.filter (λ_=>true)=ns by simp] at c;exact (bS (bq c)).trans (eJ _)
def Po{n:Nat}{ns:List Nat}(h7:ae 7 ρ=some (hU (n::ns))):OD ρ=some (hJ (n::ns)) :=
 tup_is (ds:=[nD n,hU ns]) (cons_of (ax (LA _ _) h7 rfl) (cons_of ((rY (ds:=(n::ns).map λn=>.int ((n:Nat):Int)) (k:=1) h7 rfl).trans rfl) rfl)) (by simp)
end
open  Ex
def Lk(l:List Nat)(z k:Nat)(ns:List Nat):Prop:=k<=2/\j6 l=wk k/\dN (gZ l)=some ns/\ns≠[]/\z<=k
inductive Lx:Nat->List (List Nat)->List (Nat×List Nat)->Prop
 | nil {z:Nat}:Lx z [] []
 | cons {z k:Nat}{l ns:List Nat}{ls:List (List Nat)}{ps:List (Nat×List Nat)}:Lk l z k ns->Lx k ls ps->Lx z (l::ls) ((k,ns)::ps)
def kf(k:Nat)(ps:List (Nat×List Nat)):List (List Nat):=(ps.filter λq=>decide (q.1=k)).map λq=>q.2
def RD(ps:List (Nat×List Nat)):List (List D):=[(kf 0 ps).map hJ,(kf 1 ps).map hJ,(kf 2 ps).map hU]
def Cw(k:Nat)(ns:List Nat):D:=if k < 2 then hJ ns else hU ns
def gE(j:Nat)(ps qs:List (Nat×List Nat)):kf j (ps++qs)=kf j ps++kf j qs:=by
 unfold kf;rw[List.filter_append,qU]
def uZ(j k:Nat)(ns:List Nat):kf j [(k,ns)]=if k=j then [ns] else []:=by
 unfold kf;by_cases h:k=j
 ·simp[h]
 ·simp[h]
def Kt(ps:List (Nat×List Nat)):∀ds∈RD ps,ds.length<=ps.length:=λds hd=>by
 have:∀k,(kf k ps).length<=ps.length:=λk=>by
  unfold kf;rw[zD];exact xK _ _
 unfold RD at hd;simp?[zQ,yC,xQ] at hd;rcases hd with rfl|rfl|rfl<;>rw[zD]<;>exact this _
def LD{k:Nat}(hk:k<=2)(ps:List (Nat×List Nat))(ns:List Nat):∃ds,(RD ps)[k]?=some ds/\(RD ps).set k (ds++[Cw k ns])=RD (ps++[(k,ns)]):=by
 unfold RD;rw[gE,gE,gE,uZ,uZ,uZ]
 match k,hk with
 | 0,_=>exact⟨_,rfl,by simp[Cw]⟩
 | 1,_=>exact⟨_,rfl,by simp[Cw]⟩
 | 2,_=>exact⟨_,rfl,by simp[Cw]⟩
section
variable {t l w:List Nat}{ls:List (List Nat)}
abbrev s9(t:List Nat)(R:List (List D))(z:Nat)(ps:List D)(x4 x5 x6 x7:Slot):au:=[.val (sD t),.nest R,.val (nD z),.val (.list ps),x4,x5,x6,x7,.Qo]
def HZ(a b:Nat):tm (nD a) (nD b)=some (.bool (decide (a < b))):=by
 show some (PyData.bool (decide (((a:Nat):Int) < ((b:Nat):Int))))=_
 congr 2
 by_cases h:a < b
 ·rw[zX h,zX (by lia)]
 ·rw[zW h,zW (by lia)]
def GW(g:Ge l){qs:List (Nat×List Nat)}(hq:qs.length<=1000){z:Nat}{ps:List D}{x5 x6 x7:Slot} :
  (∃k ns y5 y6 y7,Lk l z k ns/\NF (s9 t (RD qs) z ps (.val (sD l)) x5 x6 x7)=some (.nx (s9 t (RD (qs++[(k,ns)])) k ps (.val (sD l)) y5 y6 y7)))\/((∀k ns,¬ Lk l z k ns)/\NF (s9 t (RD qs) z ps (.val (sD l)) x5 x6 x7)=some (.rt .none)):=by
 have Vb:∀ρ:Dl.Env,ae 4 ρ=some (sD l)->bI (dv aR (ae 4) (fC (.str " "))) ρ=some (.list ((bU 32 l).map sD)):=λρ h4=>by
  have:dv aR (ae 4) (fC (.str " ")) ρ=some ((bU 32 l).map sD):=by
   unfold dv;rw[h4];show aR (sD l) (.str " ")=_;rw[tM,gn g.gd.zt,eN,bj,zM];rfl
  exact bq this
 have s1:aS 5 [4] (bI (dv aR (ae 4) (fC (.str " ")))) (s9 t (RD qs) z ps (.val (sD l)) x5 x6 x7)=some (.nx (s9 t (RD qs) z ps (.val (sD l)) (.val (.list ((bU 32 l).map sD))) x6 x7)):=cT (Vb _ rfl) (Vb _ rfl) rfl;have c1:=NZ (ρ:=aL (s9 t (RD qs) z ps (.val (sD l)) (.val (.list ((bU 32 l).map sD))) x6 x7)) g rfl;by_cases h1:¬ ((j6 l=hZ\/j6 l=ij\/j6 l=gQ)/\gZ l≠[])
 ·rw[zW h1] at c1;refine .inr ⟨λk ns ⟨a,b,c,d,_⟩=>h1 ⟨by rw[b];exact EA k,λe=>?_⟩,(ao s1).trans (l4 ((fA c1).trans (bY rfl)))⟩;rw[e] at c;cases c;exact d rfl
 have h1:=Decidable.not_not.mp h1;rw[zX h1] at c1;obtain⟨k,hk,hh⟩:∃k,k<=2/\j6 l=wk k:=by
  rcases h1.1 with h|h|h
  ·exact⟨0,by decide,h⟩
  ·exact⟨1,by decide,h⟩
  ·exact⟨2,by decide,h⟩
 have only:∀j ns,Lk l z j ns->j=k:=λj ns hj=>wU hj.1 hk (hj.2.1.symm.trans hh);have s3:aS 6 [5] (f2 tZ LQ (f2 bz (ae 5) (fC (.int 0)))) (s9 t (RD qs) z ps (.val (sD l)) (.val (.list ((bU 32 l).map sD))) x6 x7)=some (.nx (s9 t (RD qs) z ps (.val (sD l)) (.val (.list ((bU 32 l).map sD))) (.val (nD k)) x7)):=bH (d:=nD k) (ax (NO hk) (HR _) ((Ij (l:=l) rfl).trans (by rw[hh]))) rfl;have c3:fB (f2 tm (ae 6) (ae 2)) (aL (s9 t (RD qs) z ps (.val (sD l)) (.val (.list ((bU 32 l).map sD))) (.val (nD k)) x7))=some (decide (k < z)):=cn (ax (HZ k z) rfl rfl);by_cases hz:k < z
 ·rw[zX hz] at c3;refine .inr ⟨λj ns hj=>?_,(ao s1).trans ((ao (cZ c1)).trans ((ao s3).trans (l4 ((fA c3).trans (bY rfl)))))⟩;have:=only j ns hj;have:=hj.2.2.2.2;lia
 rw[zW hz] at c3;have c4:=NQ (ρ:=aL (s9 t (RD qs) z ps (.val (sD l)) (.val (.list ((bU 32 l).map sD))) (.val (nD k)) x7)) g rfl;cases hd:dN (gZ l) with
 | none =>
  rw[hd] at c4;refine .inr ⟨λj ns hj=>?_,(ao s1).trans ((ao (cZ c1)).trans ((ao s3).trans ((ao (cZ c3)).trans (l4 ((fA c4).trans (bY rfl))))))⟩;have:=hj.2.2.1;rw[hd] at this;cases this
 | some ns =>
  rw[hd] at c4;have hn:ns≠[]:=λe=>by
   let⟨e2,_⟩:=dF hd;rw[e] at e2;exact h1.2 e2
  let⟨ds,Sh,Yr⟩:=LD hk qs ns;have hl:ds.length<=1000:=yA (Kt qs ds (xY Sh)) hq;have s5:aS 2 [6] (ae 6) (s9 t (RD qs) z ps (.val (sD l)) (.val (.list ((bU 32 l).map sD))) (.val (nD k)) x7)=some (.nx (s9 t (RD qs) k ps (.val (sD l)) (.val (.list ((bU 32 l).map sD))) (.val (nD k)) x7)):=bH (d:=nD k) rfl rfl;have s6:aS 7 [5] On (s9 t (RD qs) k ps (.val (sD l)) (.val (.list ((bU 32 l).map sD))) (.val (nD k)) x7)=some (.nx (s9 t (RD qs) k ps (.val (sD l)) (.val (.list ((bU 32 l).map sD))) (.val (nD k)) (.val (hU ns)))):=cT (Pq g rfl hd) (Pq g rfl hd) rfl;have c7:fB (f2 tm (ae 6) (fC (.int 2))) (aL (s9 t (RD qs) k ps (.val (sD l)) (.val (.list ((bU 32 l).map sD))) (.val (nD k)) (.val (hU ns))))=some (decide (k < 2)):=cn (ax (HZ k 2) rfl rfl);have s7:iW (fB (f2 tm (ae 6) (fC (.int 2)))) (aS 7 [7] OD) hV (s9 t (RD qs) k ps (.val (sD l)) (.val (.list ((bU 32 l).map sD))) (.val (nD k)) (.val (hU ns)))=some (.nx (s9 t (RD qs) k ps (.val (sD l)) (.val (.list ((bU 32 l).map sD))) (.val (nD k)) (.val (Cw k ns)))):=by
   unfold Cw;by_cases h2:k < 2
   ·rw[yH h2];rw[zX h2] at c7;refine (fA c7).trans ?_;cases ns with
    | nil=>exact absurd rfl hn
    | cons n ns=>exact cT (Po rfl) (Po rfl) rfl
   ·rw[yJ h2];rw[zW h2] at c7;exact cZ c7
  have s8:pF 1 (ae 6) (ae 7) (s9 t (RD qs) k ps (.val (sD l)) (.val (.list ((bU 32 l).map sD))) (.val (nD k)) (.val (Cw k ns)))=some (.nx (s9 t (RD (qs++[(k,ns)])) k ps (.val (sD l)) (.val (.list ((bU 32 l).map sD))) (.val (nD k)) (.val (Cw k ns)))):=by
   have e1:ae 7 (bR (s9 t (RD qs) k ps (.val (sD l)) (.val (.list ((bU 32 l).map sD))) (.val (nD k)) (.val (Cw k ns))))=some (Cw k ns):=rfl;have e2:ae 6 (aL (s9 t (RD qs) k ps (.val (sD l)) (.val (.list ((bU 32 l).map sD))) (.val (nD k)) (.val (Cw k ns))))=some (nD k):=rfl;have e3:AS (RD qs).length ((k:Nat):Int)=some k:=by
    unfold AS;rw[yH (by lia),yH (by show ((k:Nat):Int) < ((3:Nat):Int);lia)];rfl
   unfold pF;rw[e1,zA,e2,zA];show (AS (RD qs).length ((k:Nat):Int)).bind _=_;rw[e3,zA,Sh,zA,yH (Nat.lt_of_le_of_lt hl (by decide)),Yr];rfl
  exact .inl ⟨k,ns,_,_,_,⟨hk,hh,hd,hn,by lia⟩,(ao s1).trans ((ao (cZ c1)).trans ((ao s3).trans ((ao (cZ c3)).trans ((ao (cZ c4)).trans ((ao s5).trans ((ao s6).trans ((ao s7).trans s8)))))))⟩
def CY{ps:List D}:∀ (ls:List (List Nat)) (qs:List (Nat×List Nat)) (z:Nat) (x4 x5 x6 x7:Slot),(∀l∈ls,Ge l)->qs.length+ls.length<=1000 ->
  (∃rs z' y4 y5 y6 y7,Lx z ls rs/\g9 (uz 4) NF (ls.map sD) (s9 t (RD qs) z ps x4 x5 x6 x7)=some (.nx (s9 t (RD (qs++rs)) z' ps y4 y5 y6 y7)))\/((∀rs,¬ Lx z ls rs)/\g9 (uz 4) NF (ls.map sD) (s9 t (RD qs) z ps x4 x5 x6 x7)=some (.rt .none))
 | [],qs,z,x4,x5,x6,x7,_,_=>.inl ⟨[],z,x4,x5,x6,x7,.nil,by rw[qC];rfl⟩
 | l::r,qs,z,x4,x5,x6,x7,hg,hl=>by
  rw[zL] at hl;have es:uz 4 (s9 t (RD qs) z ps x4 x5 x6 x7) (sD l)=some (s9 t (RD qs) z ps (.val (sD l)) x5 x6 x7):=rfl;rcases GW (t:=t) (hg l zE) (qs:=qs) (by lia) (z:=z) (ps:=ps) (x5:=x5) (x6:=x6) (x7:=x7) with ⟨k,ns,y5,y6,y7,hk,e⟩|⟨hk,e⟩
  ·rcases CY (ps:=ps) r (qs++[(k,ns)]) k (.val (sD l)) y5 y6 y7 (λq hq=>hg q (zC _ hq)) (by rw[zN,yY];lia) with ⟨rs,z',u4,u5,u6,u7,hr,e'⟩|⟨hr,e'⟩
   ·refine .inl ⟨(k,ns)::rs,z',u4,u5,u6,u7,.cons hk hr,?_⟩;rw[zI,g9,es,zA,e];rw[List.append_assoc] at e';exact e'
   ·refine .inr ⟨λrs Ys=>?_,?_⟩
    ·cases Ys with
     | cons Sj Rq =>
      have e1:=wU Sj.1 hk.1 (Sj.2.1.symm.trans hk.2.1);subst e1;exact hr _ Rq
    ·rw[zI,g9,es,zA,e];exact e'
  ·refine .inr ⟨λrs Ys=>?_,?_⟩
   ·cases Ys with
    | cons Sj _=>exact hk _ _ Sj
   ·rw[zI,g9,es,zA,e];rfl
def Lx.det{z:Nat}{ps:List (Nat×List Nat)}(a:Lx z ls ps):∀ {qs:List (Nat×List Nat)},Lx z ls qs->ps=qs:=by
 induction a with
 | nil=>intro qs b;cases b;rfl
 | cons hk hr ih =>
  intro qs b;cases b with
  | cons Sj Rq =>
   have e1:=wU Sj.1 hk.1 (Sj.2.1.symm.trans hk.2.1);subst e1;have e2:=Sj.2.2.1.symm.trans hk.2.2.1;cases e2;rw[ih Rq]
def Lx.len{z:Nat}{ps:List (Nat×List Nat)}(a:Lx z ls ps):ps.length=ls.length:=by
 induction a with
 | nil=>rfl
 | cons _ _ ih=>rw[zL,zL,ih]
def Lx.val{z:Nat}{ps:List (Nat×List Nat)}(a:Lx z ls ps):(∀l∈ls,Ge l)->∀q∈ps,z<=q.1/\q.1<=2/\q.2≠[]/\q.2.length<=1000:=by
 induction a with
 | nil=>intro _ q hq;cases hq
 | @cons z k l ns ls ps hk hr ih =>
  intro hg q hq;rcases List.mem_cons.mp hq with rfl|hq
  ·let⟨h1,h2,h3,h4,h5⟩:=hk;refine⟨h5,h1,h4,?_⟩;have:=lz (hg l zE);have e:=(dF h3).1;rw[e,zD] at this;show ns.length<=1000;lia
  ·let⟨a,b,c⟩:=ih (λl hl=>hg l (zC _ hl)) q hq;have:=hk.2.2.2.2;exact⟨by lia,b,c⟩
end
open  Ex
section
variable {G T:List Pl}{W:List Wy}{t l w:List Nat}{ls:List (List Nat)}
def zx(g:Ge t)(e:bU 10 t=ls++[l]) :
  (∃ps,Lx 0 ls ps/\bp [sD t]=some (if (decide (l=[])&&BH (dW (kf 0 ps) (kf 1 ps) (kf 2 ps)))=true then dW (kf 0 ps) (kf 1 ps) (kf 2 ps) else .none))\/((∀ps,¬ Lx 0 ls ps)/\bp [sD t]=some .none):=by
 have gp:∀q∈ls++[l],Ge q:=λq hq=>g.part (c:=10) (by rw[e];exact hq);have hg:∀q∈ls,Ge q:=λq hq=>gp q (qF _ hq);have hl:ls.length<=900:=by
  have:=j5 (c:=10) t;rw[e,zN,yY] at this;have:=g.n;lia
 have s1:qv 1 (cC ah) (cC ah) (cC ah) [.val (sD t),.Qo,.Qo,.Qo,.Qo,.Qo,.Qo,.Qo,.Qo]=some (.nx [.val (sD t),.nest (RD []),.Qo,.Qo,.Qo,.Qo,.Qo,.Qo,.Qo]):=rfl;have s2:aS 2 [] (fC (.int 0)) [.val (sD t),.nest (RD []),.Qo,.Qo,.Qo,.Qo,.Qo,.Qo,.Qo]=some (.nx [.val (sD t),.nest (RD []),.val (nD 0),.Qo,.Qo,.Qo,.Qo,.Qo,.Qo]):=bH (d:=nD 0) rfl rfl;have Vb:∀ρ:Dl.Env,ae 0 ρ=some (sD t)->bI (dv aR (ae 0) (fC (.str "\n"))) ρ=some (.list ((ls++[l]).map sD)):=λρ h1=>by
  have:dv aR (ae 0) (fC (.str "\n")) ρ=some ((ls++[l]).map sD):=by
   unfold dv;rw[h1];show aR (sD t) (.str "\n")=_;rw[sQ,gn g.gd.zt,eN,bj,e,zM];rfl
  exact bq this
 have s3:aS 3 [0] (bI (dv aR (ae 0) (fC (.str "\n")))) [.val (sD t),.nest (RD []),.val (nD 0),.Qo,.Qo,.Qo,.Qo,.Qo,.Qo]=some (.nx (s9 t (RD []) 0 ((ls++[l]).map sD) .Qo .Qo .Qo .Qo)):=cT (Vb _ rfl) (Vb _ rfl) rfl;have ei:aH (aP aI (ae 3) aJ (cm (f1 gx (fC (.int 1))))) (bR (s9 t (RD []) 0 ((ls++[l]).map sD) .Qo .Qo .Qo .Qo))=some (ls.map sD):=by
  refine bK ?_;show some (PyData.list (Dl.cut ((ls++[l]).map sD) none (some (-1))))=_;rw[uj,qU];simp
 have hd:hand [3] 0 (s9 t (RD []) 0 ((ls++[l]).map sD) .Qo .Qo .Qo .Qo)=s9 t (RD []) 0 ((ls++[l]).map sD) .Qo .Qo .Qo .Qo:=rfl;rcases CY (t:=t) (ps:=(ls++[l]).map sD) ls [] 0 .Qo .Qo .Qo .Qo hg (by rw[xG];lia) with ⟨ps,z',y4,y5,y6,y7,hr,ef⟩|⟨hr,ef⟩
 ·rw[xJ] at ef;refine .inl ⟨ps,hr,?_⟩;have pl:ps.length<=900:=by rw[hr.len];exact hl
  have kl:∀k,(kf k ps).length<=1000/\∀r∈kf k ps,r.length<=1000:=λk=>by
   unfold kf;rw[zD];refine⟨yA (xK _ _) (by lia),λr hm=>?_⟩;let⟨q,hq,rfl⟩:=List.mem_map.mp hm;exact (hr.val hg q (List.mem_filter.mp hq).1).2.2.2
  have ip:=gJ (d:=dW (kf 0 ps) (kf 1 ps) (kf 2 ps)) (IB (kl 0) (kl 1) (kl 2)) (yI 1000);have et:∀ρ:Dl.Env,ae 1 ρ=some (.list ((RD ps).map PyData.list))->aY aU (aa (bI (az 1 [] (aH (ae 1)) (fG 0) (λ_=>some true) (aY aU (aa (ae 0) ah)))) ah) ρ=some (dW (kf 0 ps) (kf 1 ps) (kf 2 ps)):=λρ h1=>by
   have c:=aZ (cs:=[]) (tt:=λ_=>some true) (te:=aY aU (aa (ae 0) ah)) (g:=PyData.list) (f:=PyData.tuple) (q:=λ_=>true) (l:=RD ps) (fi:=aH (ae 1)) (ρ:=ρ) (bK h1) (by show 3<=1000;decide) λds _=>⟨rfl,λ_=>(bS rfl).trans rfl⟩
   rw[show (RD ps).filter (λ_=>true)=RD ps by simp] at c;exact (bS (bq c)).trans rfl
  obtain⟨x1,s5⟩:∃x1,aS 8 [1] (aY aU (aa (bI (az 1 [] (aH (ae 1)) (fG 0) (λ_=>some true) (aY aU (aa (ae 0) ah)))) ah)) (s9 t (RD ps) z' ((ls++[l]).map sD) y4 y5 y6 y7)=some (.nx [.val (sD t),x1,.val (nD z'),.val (.list ((ls++[l]).map sD)),y4,y5,y6,y7,.val (dW (kf 0 ps) (kf 1 ps) (kf 2 ps))]):=by
   have hA:=et (aL (s9 t (RD ps) z' ((ls++[l]).map sD) y4 y5 y6 y7)) rfl;have hF:=et (bR (hand [1] 0 (s9 t (RD ps) z' ((ls++[l]).map sD) y4 y5 y6 y7))) rfl;have hs:Dl.mM (dW (kf 0 ps) (kf 1 ps) (kf 2 ps))=false:=rfl;unfold aS;rw[hA,zA,yJ (by rw[hs];simp),hF,zB];split
   ·exact⟨_,rfl⟩
   ·exact⟨_,rfl⟩
  have c1:fB (f2 cc (f2 bz (ae 3) (f1 gx (fC (.int 1)))) (fC (.str ""))) (aL [.val (sD t),x1,.val (nD z'),.val (.list ((ls++[l]).map sD)),y4,y5,y6,y7,.val (dW (kf 0 ps) (kf 1 ps) (kf 2 ps))])=some (decide (l=[])):=by
   have gl:=gp l (yB _ zE);refine cn (ax (a:=sD l) (b:=sD []) ?_ ?_ (by rw[show sD []=PyData.str "" by rw[zq];rfl];rfl))
   ·rw[eq_str gl.gd.sk (by decide +kernel),eL]
   ·show jh ((ls++[l]).map sD) (-1)=_;rw[qU];exact m9
  have c2:fB (ai 1 aV (aa (ae 8) ah)) (aL [.val (sD t),x1,.val (nD z'),.val (.list ((ls++[l]).map sD)),y4,y5,y6,y7,.val (dW (kf 0 ps) (kf 1 ps) (kf 2 ps))])=some (BH (dW (kf 0 ps) (kf 1 ps) (kf 2 ps))):=cn (call_of ip rfl rfl);have c3:oA (fB (f2 cc (f2 bz (ae 3) (f1 gx (fC (.int 1)))) (fC (.str "")))) (fB (ai 1 aV (aa (ae 8) ah))) (aL [.val (sD t),x1,.val (nD z'),.val (.list ((ls++[l]).map sD)),y4,y5,y6,y7,.val (dW (kf 0 ps) (kf 1 ps) (kf 2 ps))])=some (decide (l=[])&&BH (dW (kf 0 ps) (kf 1 ps) (kf 2 ps))):=by
   unfold oA;rw[c1];cases decide (l=[]) with
   | true=>exact c2
   | false=>rfl
  unfold bp;refine bF ?_;show eO [.val (sD t),.Qo,.Qo,.Qo,.Qo,.Qo,.Qo,.Qo,.Qo]=_;unfold eO;refine (ao s1).trans ((ao s2).trans ((ao s3).trans ((ao (gD ef ei hd)).trans ((ao s5).trans (bY ?_)))));cases hc:(decide (l=[])&&BH (dW (kf 0 ps) (kf 1 ps) (kf 2 ps))) with
  | true =>
   rw[hc] at c3;exact GT c3 rfl
  | false =>
   rw[hc] at c3;exact Lv c3 rfl
 ·refine .inr ⟨hr,?_⟩;unfold bp;refine bF ?_;show eO [.val (sD t),.Qo,.Qo,.Qo,.Qo,.Qo,.Qo,.Qo,.Qo]=_;unfold eO;exact (ao s1).trans ((ao s2).trans ((ao s3).trans (l4 (gD ef ei hd))))
def wW(c:Nat):∀t:List Nat,jn [c] (bU c t)=t
 | []=>rfl
 | x::r=>by
  have ih:=wW c r;unfold bU;split
  ·rename_i e;cases hs:bU c r with
   | nil=>exact absurd hs (nX r)
   | cons p ps =>
    show []++([c]++jn [c] (p::ps))=_;rw[<- hs,ih,e];rfl
  ·cases hs:bU c r with
   | nil=>exact absurd hs (nX r)
   | cons p ps =>
    rw[hs] at ih;cases ps with
    | nil =>
     show x::p=x::r;rw[show p=r from ih]
    | cons q qs =>
     show x::(p++([c]++jn [c] (q::qs)))=x::r;rw[show p++([c]++jn [c] (q::qs))=r from ih]
def B3:∀ls:List (List Nat),jn [10] (ls++[[]])=(ls.map λl=>l++[10]).flatten
 | []=>rfl
 | [l]=>by simp[jn]
 | l::q::r=>by
  have ih:=B3 (q::r);show l++([10]++jn [10] ((q::r)++[[]]))=_;rw[ih,zI,qJ];simp
def Lg(h:bU 10 t=ls++[[]]):t=xu ls:=by
 rw[lh,<- B3,<- h,wW]
def LJ(q:Nat×List Nat):List Nat:=nP (wk q.1) q.2
def Lk.is{z k:Nat}{ns:List Nat}(h:Lk l z k ns):l=LJ (k,ns):=by
 let⟨_,h2,h3,_⟩:=h;have e:=(dF h3).1;rw[<- wW 32 l,ie,h2,e];rfl
def Lx.is{z:Nat}{ps:List (Nat×List Nat)}(a:Lx z ls ps):ls=ps.map LJ:=by
 induction a with
 | nil=>rfl
 | cons hk hr ih=>rw[zI,<- hk.is,<- ih]
def Lx.Q7{z:Nat}{ps:List (Nat×List Nat)}(a:Lx z ls ps):ps.Pairwise (λa b=>a.1<=b.1)/\∀q∈ps,z<=q.1:=by
 induction a with
 | nil=>exact⟨List.Pairwise.nil,λq hq=>by cases hq⟩
 | @cons z k l ns ls ps hk hr ih =>
  refine⟨List.pairwise_cons.mpr ⟨λq hq=>ih.2 q hq,ih.1⟩,λq hq=>?_⟩;have:=hk.2.2.2.2;rcases List.mem_cons.mp hq with rfl|hq
  ·exact this
  ·have:=ih.2 q hq;lia
def pd:∀ {ps:List (Nat×List Nat)},ps.Pairwise (λa b=>a.1<=b.1)->(∀q∈ps,q.1<=2)->ps=(kf 0 ps).map (λr=>(0,r))++((kf 1 ps).map (λr=>(1,r))++(kf 2 ps).map (λr=>(2,r)))
 | [],_,_=>rfl
 | (k,ns)::ps,hp,hk=>by
  rw[List.pairwise_cons] at hp;have ih:=pd hp.2 λq hq=>hk q (zC _ hq);have XC:=hk (k,ns) zE;have emp:∀j,j < k->kf j ps=[]:=λj hj=>by
   unfold kf;rw[List.filter_eq_nil_iff.mpr,yQ];intro q hq;have:=hp.1 q hq;simp?[zJ];intro e;have:k<=q.1:=this;lia
  have hc:∀j,kf j ((k,ns)::ps)=if k=j then ns::kf j ps else kf j ps:=λj=>by
   unfold kf;rw[jP];by_cases h:k=j
   ·simp[h]
   ·simp[h]
  rw[hc 0,hc 1,hc 2];have:k=0\/k=1\/k=2:=by
   have:k<=2:=XC;lia
  rcases this with rfl|rfl|rfl
  ·conv=>lhs;rw[ih]
   simp
  ·have e0:=emp 0 (by decide);rw[e0] at ih ⊢
   conv=>lhs;rw[ih]
   simp
  ·have e0:=emp 0 (by decide);have e1:=emp 1 (by decide);rw[e0,e1] at ih ⊢
   conv=>lhs;rw[ih]
   simp
def M8(d:D):List Nat:=(fT ((bE d).getD 0 .none)).toNat::(bE ((bE d).getD 1 .none)).map λx=>(fT x).toNat
def Nw(d:D):List Nat:=(bE d).map λx=>(fT x).toNat
def DM(ns:List Nat):Nw (hU ns)=ns:=by
 show (ns.map λn=>PyData.int ((n:Nat):Int)).map (λx=>(fT x).toNat)=ns;rw[zM]
 conv=>rhs;rw[<- List.map_id ns]
 exact yF λn _=>by
  show (((n:Nat):Int)).toNat=n;lia
def GE{ns:List Nat}(h:ns≠[]):M8 (hJ ns)=ns:=by
 cases ns with
 | nil=>exact absurd rfl h
 | cons n ns =>
  show (((n:Nat):Int)).toNat::Nw (hU ns)=n::ns;rw[DM]
  congr 1
def Gx(p:Pl):M8 (ba p)=pN p:=by
 show p.1.toNat::(p.2.map PyData.int).map (λx=>(fT x).toNat)=_;rw[zM];rfl
def CU(hA:∀r∈A,r≠[])(hB:∀r∈B,r≠[])(h:dW A B C=gq G T W):A=G.map pN/\B=T.map pN/\C=W.map wN:=by
 unfold dW gq at h;have h:=PyData.tuple.inj h;have h1:=PyData.tuple.inj (List.cons.inj h).1;have h:=(List.cons.inj h).2;have h2:=PyData.tuple.inj (List.cons.inj h).1;have h:=(List.cons.inj h).2;have h3:=PyData.tuple.inj (List.cons.inj h).1;have en:∀ {A:List (List Nat)}{G:List Pl},(∀r∈A,r≠[])->A.map hJ=G.map ba->A=G.map pN:=λ{A G} hA h=>by
  have z:=qX (List.map M8) h;rw[zM,zM] at z;rw[show A.map (M8 ∘ hJ)=A by
   conv=>rhs;rw[<- List.map_id A]
   exact yF λr hr=>GE (hA r hr),show G.map (M8 ∘ ba)=G.map pN from yF λp _=>Gx p] at z
  exact z
 refine⟨en hA h1,en hB h2,?_⟩;have z:=qX (List.map Nw) h3;rw[zM,zM] at z;rw[show C.map (Nw ∘ hU)=C by
  conv=>rhs;rw[<- List.map_id C]
  exact yF λr _=>DM r] at z
 exact z
def Io{ps:List (Nat×List Nat)}{k:Nat}(h:∀q∈ps,q.2≠[]):∀r∈kf k ps,r≠[]:=λr hr=>by
 unfold kf at hr;let⟨q,hq,rfl⟩:=List.mem_map.mp hr;exact h q (List.mem_filter.mp hq).1
def J7(g:Ge t)(hn:∀G T W,Wd G T W->t≠pY G T W):bp [sD t]=some .none:=by
 let⟨ls,l,e⟩:=tf t;have hg:∀q∈ls,Ge q:=λq hq=>g.part (c:=10) (by rw[e];exact qF _ hq);rcases zx g e with ⟨ps,hr,ed⟩|⟨_,ed⟩
 ·rw[ed];cases hc:(decide (l=[])&&BH (dW (kf 0 ps) (kf 1 ps) (kf 2 ps))) with
  | false=>rfl
  | true =>
   exfalso;rw[zF,zJ] at hc;let⟨rfl,hb⟩:=hc;let⟨G,T,W,ew,h⟩:=IR hb;have hv:=hr.val hg;have ne:∀q∈ps,q.2≠[]:=λq hq=>(hv q hq).2.2.1;let⟨a,b,c⟩:=CU (Io ne) (Io ne) ew;have sp:=pd hr.Q7.1 λq hq=>(hv q hq).2.1;refine hn G T W h ?_;rw[Lg e,hr.is,sp,a,b,c];show xu _=xu ((lS G T W).map ju);unfold lS;simp?[qU,zM];rfl
 ·exact ed
def Lx.of:∀ {ps:List (Nat×List Nat)}{z:Nat},ps.Pairwise (λa b=>a.1<=b.1)->(∀q∈ps,z<=q.1/\q.1<=2/\q.2≠[]/\∀n∈q.2,n < 10)->Lx z (ps.map LJ) ps
 | [],_,_,_=>.nil
 | (k,ns)::ps,z,hp,hv=>by
  rw[List.pairwise_cons] at hp;let⟨h1,h2,h3,h4⟩:=hv (k,ns) zE;have es:bU 32 (nP (wk k) ns)=wk k::ns.map λn=>[48+n]:=z9 (oK (EA k)).2.1 h4;refine .cons ⟨h2,?_,?_,h3,h1⟩ (Lx.of hp.2 λq hq=>⟨hp.1 q hq,(hv q (zC _ hq)).2⟩)
  ·show j6 (nP (wk k) ns)=wk k;unfold j6;rw[es];rfl
  ·show dN (gZ (nP (wk k) ns))=some ns;unfold gZ;rw[es];exact zw h4
def gO{k j:Nat}{α:Type}(f:α->List Nat)(L:List α):kf j (L.map λp=>(k,f p))=if k=j then L.map f else []:=by
 unfold kf;by_cases h:k=j
 ·rw[yH h,List.filter_eq_self.mpr,zM]
  ·rfl
  ·intro q hq;let⟨p,_,rfl⟩:=List.mem_map.mp hq;exact zX h
 ·rw[yJ h,List.filter_eq_nil_iff.mpr,yQ];intro q hq;let⟨p,_,rfl⟩:=List.mem_map.mp hq;simp[h]
def xt(h:Wd G T W)(g:Ge (pY G T W)):bp [sD (pY G T W)]=some (gq G T W):=by
 let ps:List (Nat×List Nat):=G.map (λp=>(0,pN p))++(T.map (λp=>(1,pN p))++W.map λw=>(2,wN w))
 have em:ps.map LJ=(lS G T W).map ju:=by
  show (G.map (λp=>(0,pN p))++(T.map (λp=>(1,pN p))++W.map λw=>(2,wN w))).map LJ=_;unfold lS;simp?[qU,zM];rfl
 have lx:Lx 0 (ps.map LJ) ps:=by
  refine Lx.of ?_ λq hq=>?_
  ·refine List.pairwise_append.mpr ⟨List.pairwise_map.mpr (List.pairwise_of_forall λ_ _=>yI _),List.pairwise_append.mpr ⟨List.pairwise_map.mpr (List.pairwise_of_forall λ_ _=>yI _),List.pairwise_map.mpr (List.pairwise_of_forall λ_ _=>yI _),λa ha b hb=>?_⟩,λa ha b hb=>?_⟩
   ·let⟨p,_,rfl⟩:=List.mem_map.mp ha;let⟨q,_,rfl⟩:=List.mem_map.mp hb;exact (by decide:1<=2)
   ·let⟨p,_,rfl⟩:=List.mem_map.mp ha;exact xR _
  ·rcases List.mem_append.mp hq with hq|hq
   ·let⟨p,hp,rfl⟩:=List.mem_map.mp hq;exact⟨xR _,(by decide:0<=2),by simp[pN],(LN h hp).1.d⟩
   ·rcases List.mem_append.mp hq with hq|hq
    ·let⟨p,hp,rfl⟩:=List.mem_map.mp hq;exact⟨xR _,(by decide:1<=2),by simp[pN],(LW h hp).1.d⟩
    ·let⟨w,hw,rfl⟩:=List.mem_map.mp hq;exact⟨xR _,(by decide:2<=2),by simp[wN],(LO h hw).1.d⟩
 have e:bU 10 (pY G T W)=(lS G T W).map ju++[[]]:=m6 λl hl=>by
  let⟨q,hm,rfl⟩:=List.mem_map.mp hl;let⟨a,b⟩:=jt h q hm;exact (mf a b).2.1
 rw[em] at lx;rcases zx g e with ⟨qs,hr,ed⟩|⟨hr,_⟩
 ·obtain rfl:=lx.det hr;have k0:kf 0 ps=G.map pN:=by
   show kf 0 (G.map (λp=>(0,pN p))++(T.map (λp=>(1,pN p))++W.map λw=>(2,wN w)))=_;rw[gE,gE,gO,gO,gO];simp
  have k1:kf 1 ps=T.map pN:=by
   show kf 1 (G.map (λp=>(0,pN p))++(T.map (λp=>(1,pN p))++W.map λw=>(2,wN w)))=_;rw[gE,gE,gO,gO,gO];simp
  have k2:kf 2 ps=W.map wN:=by
   show kf 2 (G.map (λp=>(0,pN p))++(T.map (λp=>(1,pN p))++W.map λw=>(2,wN w)))=_;rw[gE,gE,gO,gO,gO];simp
  have pe:∀ {p:Pl},(pN p).map (λn=>((n:Nat):Int))=p.1::p.2->hJ (pN p)=ba p:=λ{p} hp=>by
   unfold pN at hp ⊢;rw[zI] at hp;injection hp with e1 e2
   unfold ba;show PyData.tuple [.int ((p.1.toNat:Nat):Int),hU (p.2.map Int.toNat)]=_;rw[m5,e2,e1]
  have ew:dW (kf 0 ps) (kf 1 ps) (kf 2 ps)=gq G T W:=by
   rw[k0,k1,k2];unfold dW gq;rw[zM,zM,zM,yF (f:=hJ ∘ pN) (g:=ba) (l:=G) λp hp=>pe (LN h hp).2,yF (f:=hJ ∘ pN) (g:=ba) (l:=T) λp hp=>pe (LW h hp).2,yF (f:=hU ∘ wN) (g:=bL) (l:=W) λw hw=>by
    show hU (wN w)=bL w;rw[m5,(LO h hw).2];rfl]
  rw[ed,ew,h.Yp];rfl
 ·exact absurd lx (hr _)
def Dd(g:Ge t):∃d,aX [sD t]=some d/\bp [sD t]=some d/\(d=.none\/∃G T W,d=gq G T W/\Wd G T W):=by
 by_cases hp:∃G T W,Wd G T W/\t=pY G T W
 ·let⟨G,T,W,h,rfl⟩:=hp;exact⟨_,EH h,xt h g,.inr ⟨G,T,W,rfl,h⟩⟩
 ·have hn:∀G T W,Wd G T W->t≠pY G T W:=λG T W h e=>hp ⟨G,T,W,h,e⟩;exact⟨_,Ha g hn,J7 g hn,.inl rfl⟩
end
open  Ex
section
variable {ρ:Dl.Env}{f g:Dl.Env->Option D}{n m a b:Nat}
structure Tb(t:List Nat)(n:Nat):Prop where
 s:∀c∈t,c < 1114112
 n:t.length<=n
def Tb.gd{t:List Nat}(h:Tb t n)(hn:n<=900):Ge t:=⟨h.s,yA h.n hn⟩
def Tc(f:Dl.Env->Option D)(ρ:Dl.Env)(n:Nat):Prop:=∃t,f ρ=some (sD t)/\Tb t n
def wg{α:Type}{xs:List α}{lo hi:Option Int}{x:α}(h:x∈cut xs lo hi):x∈xs:=List.mem_of_mem_drop (List.mem_of_mem_take h)
def Ag{α β:Type}(k:α->β)(xs:List α)(lo hi:Option Int):cut (xs.map k) lo hi=(cut xs lo hi).map k:=by
 unfold cut;rw[zD,List.map_take,List.map_drop]
def Tc.cut{fl fh:Dl.Env->Option (Option Int)}{lo hi:Option Int}(h:Tc f ρ n)(hl:fl ρ=some lo)(hh:fh ρ=some hi)(hn:n<=20000:=by decide):Tc (aP d4 f fl fh) ρ n:=by
 let⟨t,e,b⟩:=h;refine⟨Dl.cut t lo hi,?_,λc hc=>b.s c (wg hc),yA (mU _ _ _) b.n⟩;unfold aP;rw[e,zA,hl,zA,hh,zA];exact Jj (yA b.n hn) lo hi
def Tc.cat(h:Tc f ρ a)(h':Tc g ρ b)(hn:a+b<=20000:=by decide):Tc (f2 d0 f g) ρ (a+b):=by
 let⟨t,e,z⟩:=h;let⟨u,e',z'⟩:=h';have h1:=z.n;have h2:=z'.n;refine⟨t++u,ax (D2 (by lia)) e e',λc hc=>?_,by rw[zN];lia⟩;rcases List.mem_append.mp hc with hc|hc
 ·exact z.s c hc
 ·exact z'.s c hc
def iz{i:Int}(h:f ρ=some (.int i)):cm f ρ=some (some i):=by
 unfold cm;rw[h];rfl
def Lc(f:Dl.Env->Option D)(ρ:Dl.Env)(m:Nat):Prop:=∃ps:List (List Nat),f ρ=some (.list (ps.map sD))/\(∀p∈ps,Tb p 15)/\ps.length<=m
def Lc.cut{fl fh:Dl.Env->Option (Option Int)}{lo hi:Option Int}(h:Lc f ρ m)(hl:fl ρ=some lo)(hh:fh ρ=some hi):Lc (aP aI f fl fh) ρ m:=by
 let⟨ps,e,b,hm⟩:=h;refine⟨Dl.cut ps lo hi,?_,λp hp=>b p (wg hp),yA (mU _ _ _) hm⟩;unfold aP;rw[e,zA,hl,zA,hh,zA];show some (PyData.list (Dl.cut (ps.map sD) lo hi))=_;rw[Ag]
def Gf{α:Type}(xs:List α)(b:Nat):(Dl.cut xs (some ((b:Nat):Int)) (some (((b:Nat):Int)+2))).length<=2:=by
 unfold Dl.cut;rw[show ((b:Nat):Int)+2=((b+2:Nat):Int) by lia,HT.m4,HT.m4,jO];lia
def Lc.Yt{fl fh:Dl.Env->Option (Option Int)}{k:Nat}(h:Lc f ρ m)(hl:fl ρ=some (some ((k:Nat):Int)))(hh:fh ρ=some (some (((k:Nat):Int)+2))):Lc (aP aI f fl fh) ρ 2:=by
 let⟨ps,e,b,hm⟩:=h;refine⟨Dl.cut ps (some ((k:Nat):Int)) (some (((k:Nat):Int)+2)),?_,λp hp=>b p (wg hp),Gf ps k⟩;unfold aP;rw[e,zA,hl,zA,hh,zA];show some (PyData.list (Dl.cut (ps.map sD) _ _))=_;rw[Ag]
def Lc.We(h:Lc f ρ a)(h':Lc g ρ b)(hn:a+b<=1000:=by decide):∃ps:List (List Nat),dv b8 f g ρ=some (ps.map sD)/\(∀p∈ps,Tb p 15)/\ps.length<=a+b:=by
 let⟨ps,e,z,hp⟩:=h;let⟨qs,e',z',hq⟩:=h';refine⟨ps++qs,?_,λp hp=>?_,by rw[zN];lia⟩
 ·unfold dv;rw[e,zA,e',zA];show small _=_;rw[bA (by rw[zN,zD,zD];lia),qU]
 ·rcases List.mem_append.mp hp with hp|hp
  ·exact z p hp
  ·exact z' p hp
def Lc.cat(h:Lc f ρ a)(h':Lc g ρ b)(hn:a+b<=1000:=by decide):Lc (bI (dv b8 f g)) ρ (a+b):=by
 let⟨ps,e,z⟩:=h.We h' hn;exact⟨ps,bq e,z⟩
def Lc.rev(h:Lc f ρ m):Lc (f1 zl f) ρ m:=by
 let⟨ps,e,b,hm⟩:=h;refine⟨ps.reverse,?_,λp hp=>b p (List.mem_reverse.mp hp),by rw[List.length_reverse];exact hm⟩;unfold f1;rw[e,List.map_reverse];rfl
def Lc.one(h:Tc f ρ 15):Lc (bI (cC (aa f ah))) ρ 1:=by
 let⟨t,e,b⟩:=h;exact⟨[t],bq (iC (ds:=[sD t]) (cons_of e rfl) (by simp)),λp hp=>by rw[List.mem_singleton.mp hp];exact b,yI _⟩
def Dp:∀ {ps:List (List Nat)},(∀p∈ps,p.length<=15)->(jn [10] ps).length<=16 * ps.length
 | [],_=>yI _
 | [p],h=>by have:=h p zE;show p.length<=16 * 1;lia
 | p::q::r,h=>by
  have:=h p zE;have ih:=Dp (ps:=q::r) λz hz=>h z (zC _ hz);show (p++([10]++jn [10] (q::r))).length<=_;rw[zN,zN,yY,zL];lia
def Lc.join(h:Lc f ρ m)(hn:m<=100):Tc (f2 il (fC (.str "\n")) f) ρ (16 * m):=by
 let⟨ps,e,b,hm⟩:=h;have ht:tl "\n"=[10]:=by rw[sQ]
 refine⟨jn [10] ps,ax (a:=.str "\n") (b:=.list (ps.map sD)) ?_ rfl e,λc hc=>?_,yA (Dp λp hp=>(b p hp).n) (by lia)⟩
 ·rw[rC,ht]
  ·have:("\n":Str).length=1:=by decide +kernel
   rw[this];lia
  ·exactλp hp=>yA (b p hp).n (by decide)
 ·rcases B5 hc with hc|⟨p,hp,hc⟩
  ·rw[List.mem_singleton.mp hc];decide
  ·exact (b p hp).s c hc
def Lm{i:Nat}{fz:List Nat}{f:Dl.Env->Option D}{ρ:au}{d:D}{ds:List D}(hA:f (aL ρ)=some d)(hs:Dl.mM d=true)(ho:ρ[i]?=some (.own ds))(hl:ds.length < 4000):j1 i fz f ρ=some (.nx (ρ.set i (.own (ds++[d])))):=by
 have hz:ds.length < sizeLine:=zP hl (by decide);have hi:mj fz f ρ=some (d,ρ):=by
  unfold mj;rw[hA,zA,yH hs]
 unfold j1;rw[hi,zA];unfold o8;rw[ho];show ((if ds.length < sizeLine then some (ds++[d]) else none).map _)=_;rw[yH hz];rfl
def uV(ds:List D)(n:Nat):Prop:=(∀d∈ds,∃t,d=sD t/\Ge t)/\ds.length<=n
def uV.app{ds es:List D}(h:uV ds a)(h':uV es b):uV (ds++es) (a+b):=⟨λd hd=>by
 rcases List.mem_append.mp hd with hd|hd
 ·exact h.1 d hd
 ·exact h'.1 d hd,by rw[zN];have:=h.2;have:=h'.2;lia⟩
def uV.nil:uV [] 0:=⟨λ_ h=>(by cases h),yI _⟩
def uV.cons{d:D}{ds:List D}{t:List Nat}(e:d=sD t)(g:Ge t)(h:uV ds n):uV (d::ds) (n+1):=⟨λx hx=>by
 rcases List.mem_cons.mp hx with rfl|hx
 ·exact⟨t,e,g⟩
 ·exact h.1 x hx,by rw[zL];have:=h.2;lia⟩
def Ac(fs:Dl.Env->Option (List D))(ρ:Dl.Env)(n:Nat):Prop:=∃ds,fs ρ=some ds/\uV ds n
def Ac.nil:Ac ah ρ 0:=⟨[],rfl,.nil⟩
def Ac.cons{fs:Dl.Env->Option (List D)}(h:Tc f ρ m)(h':Ac fs ρ n)(hm:m<=900:=by decide):Ac (aa f fs) ρ (n+1):=by
 let⟨t,e,b⟩:=h;let⟨ds,e',z⟩:=h';exact⟨sD t::ds,cons_of e e',.cons rfl (b.gd hm) z⟩
def Ac.lst{fs:Dl.Env->Option (List D)}(h:Ac fs ρ n)(hn:n<=1000:=by decide):∃ds,cC fs ρ=some ds/\uV ds n:=by
 let⟨ds,e,z⟩:=h;exact⟨ds,iC e (yA z.2 hn),z⟩
def Ac.add{fs:Dl.Env->Option (List D)}{ds:List D}(h0:f ρ=some (.list ds))(z0:uV ds a)(h:Ac fs ρ n)(hn:a+n<=1000:=by decide):∃es,dv b8 f (bI (cC fs)) ρ=some es/\uV es (a+n):=by
 let⟨es,e,z⟩:=h.lst (by lia);refine⟨ds++es,?_,z0.app z⟩;unfold dv;rw[h0,zA,bq e,zA];show small _=_;have h1:=z0.2;have h2:=z.2;exact bA (by rw[zN];lia)
end
section
variable {G T:List Pl}{W:List Wy}
def MX(h:Wd G T W){p:Pl}(hp:p∈G):p.2.length<=4:=by
 let⟨i,hi⟩:=List.getElem?_of_mem hp;have pr:=h.gl i p hi;rw[pr.length_eq];refine ix 4 (iL h.wp i) λj hj=>?_;unfold mn at hj;let⟨w,hw,rfl⟩:=List.mem_map.mp hj;have:=(h.wr w (List.mem_filter.mp hw).1).2.1;have:=h.t4;lia
def len_T(h:Wd G T W){p:Pl}(hp:p∈T):p.2.length<=4:=by
 let⟨i,hi⟩:=List.getElem?_of_mem hp;have pr:=h.tl i p hi;rw[pr.length_eq];refine ix 4 (i6 h.wp i) λj hj=>?_;unfold ofT at hj;let⟨w,hw,rfl⟩:=List.mem_map.mp hj;have:=(h.wr w (List.mem_filter.mp hw).1).1;have:=h.g4;lia
def Iq(h:Wd G T W){l:List Nat}(hl:l∈(lS G T W).map ju):l.length<=14/\∀c∈l,c < 200:=by
 let⟨q,hq,rfl⟩:=List.mem_map.mp hl;let⟨a,b⟩:=jt h q hq;refine⟨?_,(mf a b).2.2⟩;rw[show ju q=q.1++uq q.2 from rX _ _,zN,tJ];unfold lS at hq;rcases List.mem_append.mp hq with hq|hq
 ·let⟨p,hp,rfl⟩:=List.mem_map.mp hq;have:=MX h hp;show 4+2 * (pN p).length<=14;unfold pN;rw[zL,zD];lia
 ·rcases List.mem_append.mp hq with hq|hq
  ·let⟨p,hp,rfl⟩:=List.mem_map.mp hq;have:=len_T h hp;show 4+2 * (pN p).length<=14;unfold pN;rw[zL,zD];lia
  ·let⟨w,hw,rfl⟩:=List.mem_map.mp hq;exact (by decide:3+2 * 3<=14)
def Lz{ls:List (List Nat)}(h:∀l∈ls,l.length<=14):(xu ls).length<=15 * ls.length:=by
 rw[lh]
 induction ls with
 | nil=>exact yI _
 | cons l r ih =>
  rw[zI,qJ,zN,zN,yY,zL];have:=h l zE;have:=ih λq hq=>h q (zC _ hq);lia
def DC(h:Wd G T W):Tb (pY G T W) 360:=by
 refine⟨(rD h).s,?_⟩;have:=Lz (ls:=(lS G T W).map ju) λl hl=>(Iq h hl).1;rw[zD] at this;have:=kc h;show (xu ((lS G T W).map ju)).length<=360;lia
end
open  Ex
namespace K81M
section
variable {ns:List Int}{G T:List Pl}{W:List Wy}{t:List Nat}{a c:Nat}
abbrev sF(ns:List Int)(G T:List Pl)(W:List Wy)(t:List Nat)(a c:Nat)(x5 x6 x7 x8 x9 x10 x11:Slot):au:=[.val (pM ns),.val (gq G T W),.val (sD t),.val (nD a),.val (sD [c]),x5,x6,x7,x8,x9,x10,x11]
def MM(h:Wd G T W):cc (gq G T W) (gq G T W)=some (.bool true):=by
 have z:=zy h;unfold cS HU at z;unfold cc GN;split at z
 ·rename_i hs;rw[yH hs];have:=PyData.bool.inj (yZ z);rw[Bool.not_eq_false'] at this;show some (PyData.bool _)=_;rw[this]
 ·cases z
def Pa:au->Option Out:=iW (fB (f2 cS (ai 1 aX (aa (ae 11) ah)) (ai 1 bp (aa (ae 11) ah)))) (bh (fC (.bool false))) hV
def Dm{x5 x6 x7 x8 x9 x10:Slot}:∀ (ds:List D) (x11:Slot),(∀d∈ds,∃u,d=sD u/\Ge u)->∃y,g9 (uz 11) Pa ds (sF ns G T W t a c x5 x6 x7 x8 x9 x10 x11)=some (.nx (sF ns G T W t a c x5 x6 x7 x8 x9 x10 y))
 | [],x11,_=>⟨x11,rfl⟩
 | d::r,x11,hd=>by
  let⟨u,rfl,gu⟩:=hd d zE;let⟨y,ih⟩:=Dm r (.val (sD u)) (λe he=>hd e (zC _ he)) (x5:=x5) (x6:=x6) (x7:=x7) (x8:=x8) (x9:=x9) (x10:=x10);refine⟨y,?_⟩;let⟨q,e1,e2,hq⟩:=Dd gu;have en:cS q q=some (.bool false):=by
   rcases hq with rfl|⟨G,T,W,rfl,h⟩
   ·exact As
   ·exact zy h
  have st:Pa (sF ns G T W t a c x5 x6 x7 x8 x9 x10 (.val (sD u)))=some (.nx (sF ns G T W t a c x5 x6 x7 x8 x9 x10 (.val (sD u)))):=cZ (cn (ax en (call_of e1 rfl rfl) (call_of e2 rfl rfl)));rw[g9,show uz 11 (sF ns G T W t a c x5 x6 x7 x8 x9 x10 x11) (sD u)=some (sF ns G T W t a c x5 x6 x7 x8 x9 x10 (.val (sD u))) from rfl,zA,st];exact ih
def O4:au->Option Out:=aA (aS 10 [0,6,9] (f2 d0 (aP d4 (f2 bz (ae 6) (ae 9)) aJ (cm (f1 gx (fC (.int 1))))) (aY lD (aa (ai 3 ak (aa (ae 0) (aa (f2 aK (fC (.int 80)) (ae 9)) (aa (fC (.int 10)) ah)))) ah)))) (j1 5 [6,9,10] (f2 il (fC (.str "\n")) (bI (dv b8 (bI (dv b8 (aP aI (ae 6) aJ (cm (ae 9))) (bI (cC (aa (ae 10) ah))))) (aP aI (ae 6) (cm (f2 aK (ae 9) (fC (.int 1)))) aJ)))))
def GJ(hl:ns.length<=63){ps:List (List Nat)}(hp:∀p∈ps,Tb p 14)(hm:ps.length<=25){ds:List D}{n k:Nat}(hk:k < ps.length)(z:uV ds n)(hn:n<=1000){x7 x8 x10 x11:Slot}:∃es y,O4 (sF ns G T W t a c (.own ds) (.val (.list (ps.map sD))) x7 x8 (.val (nD k)) x10 x11)=some (.nx (sF ns G T W t a c (.own es) (.val (.list (ps.map sD))) x7 x8 (.val (nD k)) y x11))/\uV es (n+1):=by
 let⟨d1,p1,q1⟩:=dB (ns:=ns) (80+((k:Nat):Int)) 10 hl (by decide);obtain⟨v,hv⟩:∃v:Nat,dr ns (80+((k:Nat):Int)) 10=((v:Nat):Int):=⟨_,(Int.toNat_of_nonneg p1).symm⟩
 rw[hv] at d1 q1;let ρ:=aL (sF ns G T W t a c (.own ds) (.val (.list (ps.map sD))) x7 x8 (.val (nD k)) x10 x11);have hx:ps[k]?=some ps[k]:=zK hk;have tk:Tc (f2 bz (ae 6) (ae 9)) ρ 14:=⟨ps[k],ax (Fh hx) rfl rfl,hp _ (xX hk)⟩
 have ts:Tc (aY lD (aa (ai 3 ak (aa (ae 0) (aa (f2 aK (fC (.int 80)) (ae 9)) (aa (fC (.int 10)) ah)))) ah)) ρ 1:=⟨[48+v],(bS (call_of d1 (cons_of rfl (cons_of (ax (aN _ _) rfl rfl) (cons_of rfl rfl))) rfl)).trans (EV (by lia)),λx hx=>by rw[List.mem_singleton.mp hx];lia,yI _⟩
 let⟨u,eu,bu⟩:=(tk.cut (fl:=aJ) (fh:=cm (f1 gx (fC (.int 1)))) rfl (iz (i:=-1) rfl)).cat ts;have s1:aS 10 [0,6,9] (f2 d0 (aP d4 (f2 bz (ae 6) (ae 9)) aJ (cm (f1 gx (fC (.int 1))))) (aY lD (aa (ai 3 ak (aa (ae 0) (aa (f2 aK (fC (.int 80)) (ae 9)) (aa (fC (.int 10)) ah)))) ah))) (sF ns G T W t a c (.own ds) (.val (.list (ps.map sD))) x7 x8 (.val (nD k)) x10 x11)=some (.nx (sF ns G T W t a c (.own ds) (.val (.list (ps.map sD))) x7 x8 (.val (nD k)) (.val (sD u)) x11)):=bH (d:=sD u) eu rfl;let RC:=aL (sF ns G T W t a c (.own ds) (.val (.list (ps.map sD))) x7 x8 (.val (nD k)) (.val (sD u)) x11);have L:Lc (ae 6) RC 25:=⟨ps,rfl,λp h=>⟨(hp p h).s,yA (hp p h).n (by decide)⟩,hm⟩
 have U:Tc (ae 10) RC 15:=⟨u,rfl,bu⟩
 let⟨w,ew,bw⟩:=((((L.cut (fl:=aJ) (fh:=cm (ae 9)) rfl (iz rfl)).cat (.one U)).cat (L.cut (fl:=cm (f2 aK (ae 9) (fC (.int 1)))) (fh:=aJ) (iz (ax (aN _ _) rfl rfl)) rfl))).join (by decide);refine⟨ds++[sD w],.val (sD u),?_,z.app (.cons rfl (bw.gd (by decide)) .nil)⟩;unfold O4;exact (ao s1).trans (Lm ew rfl rfl (by have:=z.2;lia))
def J8{l:List Nat}(hl:l.length<=20000)(i:Int):Bu (sD l) (.int i)=(jh l i).map λc=>sD [c]:=by
 show (if (tS l).length<=sizeLine then (jh (tl (tS l)) i).map λc=>PyData.str ⟨#[c]⟩ else none)=_;rw[yH (by rw[<- cR,bj];exact yA hl HN),bj];rfl
def Qf{r:Int}(h0:0<=r)(h1:r < 9):∃c,Bu (.str "0123 \nag-") (.int r)=some (sD [c])/\c < 200:=by
 have e:("0123 \nag-":Str)=tS [48,49,50,51,32,10,97,103,45]:=by decide +kernel
 rw[e,J8 (by simp)];have:r=0\/r=1\/r=2\/r=3\/r=4\/r=5\/r=6\/r=7\/r=8:=by lia
 rcases this with rfl|rfl|rfl|rfl|rfl|rfl|rfl|rfl|rfl<;>exact⟨_,rfl,by decide⟩
def Jv{l:List Nat}(hl:l.length<=20000){f:Dl.Env->Option D}{ρ:Dl.Env}(h:f ρ=some (sD l)):aY ft (aa f ah) ρ=some (.int ((l.length:Nat):Int)):=by
 refine (bS h).trans ?_;show (if (tS l).length<=sizeLine then some (PyData.int (((tS l).length:Nat):Int)) else none)=_;rw[<- cR,bj,yH (yA hl HN)]
def cst{n:Nat}(x:Str)(l:List Nat)(e:x=tS l)(b:Tb l n)(ρ:Dl.Env):Tc (fC (.str x)) ρ n:=⟨l,by rw[e];rfl,b⟩
def main(ns:List Int)(hl:ns.length<=63):eB [.list (ns.map PyData.int)]=some (.bool true):=by
 let⟨G,T,W,ew,h⟩:=Jt (ns:=ns) hl 0;obtain⟨t,ht⟩:∃t,t=pY G T W:=⟨_,rfl⟩
 have tb:Tb t 360:=by rw[ht];exact DC h
 have tl':=tb.n;have gp:Gd t:=by rw[ht];exact rD h
 have et:d8 [gq G T W]=some (sD t):=by
  rw[ht];unfold d8 kn;refine bF ?_;exact (ao (ρ:=[.val (gq G T W)]) (wG (call_of (o6 h) rfl rfl))).trans (bY (call_of (lT h) rfl rfl))
 obtain⟨ps,Yu⟩:∃ps,ps=(lS G T W).map ju++[[]]:=⟨_,rfl⟩
 have Vb:bU 10 t=ps:=by
  rw[ht,Yu];refine m6 λl hl=>?_;let⟨q,hm,rfl⟩:=List.mem_map.mp hl;let⟨a,b⟩:=jt h q hm;exact (mf a b).2.1
 have Wa:∀q∈ps,Tb q 14:=λq hq=>by
  rw[Yu] at hq;rcases List.mem_append.mp hq with hq|hq
  ·have z:=Iq h hq;exact⟨λc hc=>by have:=z.2 c hc;lia,z.1⟩
  ·rw[List.mem_singleton.mp hq];exact⟨λc hc=>(by cases hc),xR _⟩
 have Rb:1<=ps.length/\ps.length<=25:=by
  rw[Yu,zN,zD,yY];have:=kc h;lia
 let⟨d1,p1,q1⟩:=dB (ns:=ns) 70 (((t.length:Nat):Int)+1) hl (by lia);obtain⟨a,ha⟩:∃v:Nat,dr ns 70 (((t.length:Nat):Int)+1)=((v:Nat):Int):=⟨_,(Int.toNat_of_nonneg p1).symm⟩
 rw[ha] at d1;let⟨d2,p2,q2⟩:=dB (ns:=ns) 71 9 hl (by decide);let⟨c,ec,hc⟩:=Qf p2 q2;let⟨d3,p3,q3⟩:=dB (ns:=ns) 72 ((ps.length:Nat):Int) hl (by lia);obtain⟨b,hb⟩:∃v:Nat,dr ns 72 ((ps.length:Nat):Int)=((v:Nat):Int):=⟨_,(Int.toNat_of_nonneg p3).symm⟩
 rw[hb] at d3;unfold eB;refine bF ?_;show iQ [.val (pM ns),.Qo,.Qo,.Qo,.Qo,.Qo,.Qo,.Qo,.Qo,.Qo,.Qo,.Qo]=_;unfold iQ;refine (ao (cT (call_of ew rfl rfl) (call_of ew rfl rfl) rfl)).trans ?_;refine (ao (bH (d:=sD t) (call_of et rfl rfl) rfl)).trans ?_;refine (ao (bH (d:=nD a) (call_of d1 (cons_of rfl (cons_of rfl (cons_of (ax (aN _ _) (Jv (by lia) rfl) rfl) rfl))) rfl) rfl)).trans ?_;refine (ao (bH (d:=sD [c]) (ax ec rfl (call_of d2 (cons_of rfl rfl) rfl)) rfl)).trans ?_;have tc:Tb [c] 1:=⟨λx hx=>by rw[List.mem_singleton.mp hx];lia,yI _⟩
 let WH:=bR (sF ns G T W t a c .Qo .Qo .Qo .Qo .Qo .Qo .Qo);have T4:Tc (ae 2) WH 360:=⟨t,rfl,tb⟩
 have T6:Tc (ae 4) WH 1:=⟨[c],rfl,tc⟩
 have a5:cm (ae 3) WH=some (some ((a:Nat):Int)):=iz rfl;have Yv:cm (f2 aK (ae 3) (fC (.int 1))) WH=some (some (((a:Nat):Int)+1)):=iz (ax (aN _ _) rfl rfl);let⟨ds,e7,z7⟩:=(Ac.cons T4 (Ac.cons ((T4.cut (fl:=aJ) rfl a5).cat (T4.cut (fh:=aJ) Yv rfl)) (Ac.cons ((T4.cut (fl:=aJ) rfl Yv).cat (T4.cut (fh:=aJ) a5 rfl)) (Ac.cons (((T4.cut (fl:=aJ) rfl a5).cat T6).cat (T4.cut (fh:=aJ) Yv rfl)) .nil)))).lst;refine (ao (cN e7 rfl)).trans ?_;let ρ1:=bR (sF ns G T W t a c (.val (.list ds)) .Qo .Qo .Qo .Qo .Qo .Qo);have T4:Tc (ae 2) ρ1 360:=⟨t,rfl,tb⟩
 have T6:Tc (ae 4) ρ1 1:=⟨[c],rfl,tc⟩
 have a5:cm (ae 3) ρ1=some (some ((a:Nat):Int)):=iz rfl;let⟨Zt,e72,z72⟩:=Ac.add (f:=ae 5) (ρ:=ρ1) rfl z7 (Ac.cons (((T4.cut (fl:=aJ) rfl a5).cat T6).cat (T4.cut (fh:=aJ) a5 rfl)) (Ac.cons (cst "" [] (by decide +kernel) ⟨by decide,yI 0⟩ ρ1) (Ac.cons (cst "give 0\ntake 0\n" [103,105,118,101,32,48,10,116,97,107,101,32,48,10] (by decide +kernel) (n:=14) ⟨by decide,by decide⟩ ρ1) .nil)));refine (ao (k6 (ρ':=sF ns G T W t a c (.val (.list ds)) .Qo .Qo .Qo .Qo .Qo .Qo) rfl e72)).trans ?_;let Vc:=bR (sF ns G T W t a c (.val (.list Zt)) .Qo .Qo .Qo .Qo .Qo .Qo);let⟨Wf,Yw,Yx⟩:=Ac.add (f:=ae 5) (ρ:=Vc) rfl z72 (Ac.cons (cst "give\ntake 0\n" [103,105,118,101,10,116,97,107,101,32,48,10] (by decide +kernel) (n:=12) ⟨by decide,by decide⟩ Vc) (Ac.cons (cst "give 0\ntake 0\nway 0 0\n" [103,105,118,101,32,48,10,116,97,107,101,32,48,10,119,97,121,32,48,32,48,10] (by decide +kernel) (n:=22) ⟨by decide,by decide⟩ Vc) .nil));refine (ao (k6 (ρ':=sF ns G T W t a c (.val (.list Zt)) .Qo .Qo .Qo .Qo .Qo .Qo) rfl Yw)).trans ?_;have Zu:∀ρ:Dl.Env,ae 2 ρ=some (sD t)->bI (dv aR (ae 2) (fC (.str "\n"))) ρ=some (.list (ps.map sD)):=λρ h1=>by
  have:dv aR (ae 2) (fC (.str "\n")) ρ=some (ps.map sD):=by
   unfold dv;rw[h1];show aR (sD t) (.str "\n")=_;rw[sQ,gn gp.zt,eN,bj,Vb,zM];rfl
  exact bq this
 refine (ao (cT (Zu _ rfl) (Zu _ rfl) rfl)).trans ?_;have e9:∀ρ:Dl.Env,ae 6 ρ=some (.list (ps.map sD))->aY cB (aa (ae 6) ah) ρ=some (.int ((ps.length:Nat):Int)):=λρ h8=>by
  rw[bS h8];show some (PyData.int (((ps.map sD).length:Nat):Int))=_;rw[zD]
 refine (ao (bH (d:=nD b) (call_of d3 (cons_of rfl (cons_of rfl (cons_of (e9 _ rfl) rfl))) rfl) rfl)).trans ?_;have Zv:∀q∈ps,Tb q 15:=λq hq=>⟨(Wa q hq).s,yA (Wa q hq).n (by decide)⟩
 let RC:=bR (sF ns G T W t a c (.val (.list Wf)) (.val (.list (ps.map sD))) (.val (nD b)) .Qo .Qo .Qo .Qo);have L:Lc (ae 6) RC 25:=⟨ps,rfl,Zv,Rb.2⟩
 have b9:cm (ae 7) RC=some (some ((b:Nat):Int)):=iz rfl;have Zw:cm (f2 aK (ae 7) (fC (.int 1))) RC=some (some (((b:Nat):Int)+1)):=iz (ax (aN _ _) rfl rfl);let⟨Yy,e73,z73⟩:=Ac.add (f:=ae 5) (ρ:=RC) rfl Yx (Ac.cons (((L.cut (fl:=aJ) rfl b9).cat (L.cut (fh:=aJ) Zw rfl)).join (by decide)) (Ac.cons (((L.cut (fl:=aJ) rfl Zw).cat (L.cut (fh:=aJ) b9 rfl)).join (by decide)) .nil));refine (ao (k6 (ρ':=sF ns G T W t a c (.val (.list Wf)) (.val (.list (ps.map sD))) (.val (nD b)) .Qo .Qo .Qo .Qo) rfl e73)).trans ?_;let Sw:=bR (sF ns G T W t a c (.own Yy) (.val (.list (ps.map sD))) (.val (nD b)) .Qo .Qo .Qo .Qo);have L:Lc (ae 6) Sw 25:=⟨ps,rfl,Zv,Rb.2⟩
 have b9:cm (ae 7) Sw=some (some ((b:Nat):Int)):=iz rfl;have Zx:cm (f2 aK (ae 7) (fC (.int 2))) Sw=some (some (((b:Nat):Int)+2)):=iz (ax (aN _ _) rfl rfl);let⟨xs,e10,bx,lx⟩:=((L.cut (fl:=aJ) rfl b9).cat (L.Yt b9 Zx).rev).We (L.cut (fh:=aJ) Zx rfl);refine (ao (cN (ds:=xs.map sD) e10 rfl)).trans ?_;let WJ:=bR (sF ns G T W t a c (.val (.list Yy)) (.val (.list (ps.map sD))) (.val (nD b)) (.val (.list (xs.map sD))) .Qo .Qo .Qo);have L10:Lc (ae 8) WJ 52:=⟨xs,rfl,bx,lx⟩
 have T4:Tc (ae 2) WJ 360:=⟨t,rfl,tb⟩
 let⟨Zy,e74,z74⟩:=Ac.add (f:=ae 5) (ρ:=WJ) rfl z73 (Ac.cons (L10.join (by decide)) (Ac.cons (T4.cat (cst "way 0 0 1\n" [119,97,121,32,48,32,48,32,49,10] (by decide +kernel) (n:=10) ⟨by decide,by decide⟩ WJ)) (Ac.cons (T4.cut (fl:=aJ) (fh:=cm (f1 gx (fC (.int 1)))) rfl (iz (i:=-1) rfl)) .nil)));refine (ao (k6 (ρ':=sF ns G T W t a c (.val (.list Yy)) (.val (.list (ps.map sD))) (.val (nD b)) (.val (.list (xs.map sD))) .Qo .Qo .Qo) rfl e74)).trans ?_;let⟨ρ',f,YA,n5,x9,x10,rfl,z5,Zk⟩:=j3 (tgt:=uz 9) (gb:=O4) nD (λk ρ=>∃es n x9 x10,ρ=sF ns G T W t a c (.own es) (.val (.list (ps.map sD))) (.val (nD b)) (.val (.list (xs.map sD))) x9 x10 .Qo/\uV es n/\n<=20+k) (ps.length - 1) 0 (sF ns G T W t a c (.own Zy) (.val (.list (ps.map sD))) (.val (nD b)) (.val (.list (xs.map sD))) .Qo .Qo .Qo)
  (λk ρ _ hk U9=>by
   let⟨es,n,x9,x10,rfl,z,hn⟩:=U9;let⟨TC,y,e,z'⟩:=GJ (G:=G) (T:=T) (W:=W) (t:=t) (a:=a) (c:=c) hl Wa Rb.2 (k:=k) (by lia) z (by lia) (x7:=.val (nD b)) (x8:=.val (.list (xs.map sD))) (x10:=x10) (x11:=.Qo);exact⟨_,_,rfl,e,TC,_,_,_,rfl,z',by lia⟩) ⟨_,_,_,_,rfl,z74,by lia⟩
 rw[<- yE] at f;have hr:fK (aa (f2 Dl.mO (aY cB (aa (ae 6) ah)) (fC (.int 1))) ah) (bR (sF ns G T W t a c (.own Zy) (.val (.list (ps.map sD))) (.val (nD b)) (.val (.list (xs.map sD))) .Qo .Qo .Qo))=some ((List.range (ps.length - 1)).map nD):=by
  refine rL (n:=ps.length - 1) (cons_of (ax ((nq _ _).trans ?_) (e9 _ rfl) rfl) rfl) (by lia);rw[show ((ps.length:Nat):Int) - 1=((ps.length - 1:Nat):Int) by lia]
 refine (ao (gD f hr rfl)).trans ?_;let⟨y,fa⟩:=Dm (ns:=ns) (G:=G) (T:=T) (W:=W) (t:=t) (a:=a) (c:=c) (x5:=.val (.list YA)) (x6:=.val (.list (ps.map sD))) (x7:=.val (nD b)) (x8:=.val (.list (xs.map sD))) (x9:=x9) (x10:=x10) YA .Qo z5.1;refine (ao (gD (ρ1:=sF ns G T W t a c (.val (.list YA)) (.val (.list (ps.map sD))) (.val (nD b)) (.val (.list (xs.map sD))) x9 x10 .Qo) fa (bK rfl) rfl)).trans ?_;have du:bp [sD t]=some (gq G T W):=by
  rw[ht];exact xt h ((DC h).gd (by decide))
 exact bY (ax (MM h) (call_of du rfl rfl) rfl)
end
end K81M
end Wm
namespace K81
open PySem L2 Dl PySem.Spec PyProof.Rows Pg Hd PySem.W Rg
def main(ns:List Int)(h:ns.length<=63):eB [.list (ns.map PyData.int)]=some (.bool true):=Wm.K81M.main ns h
def ins(P:Params){h:Heap}{mg:Str->Option Value}(X:(Kf P).In h)(G:h.Ns mainGlobals mg):KI (Kf P) mg:=⟨λ_ _ _=>by
 have B:∀x∈cU,mg x=none:=λx hx=>mg_none_of X G (Dl.JY (by kernel_rfl) x hx);have M:Ex.qu (Kf P) mg Qb PF:=Ex.F1 X G (by kernel_rfl);refine on (top 36) (f1 221 220 BG) ?_;refine Qd (top 35) (f1 216 215 BG) M ?_;refine on (top 34) (f2 209 208 BG) ?_;refine on (top 33) (f3 204 203 BG) ?_;refine on (top 32) (f2 197 196 BG) ?_;refine ox (top 30) (f1 190 189 oO) ?_;refine ox (top 29) (f2 183 182 oO) ?_;refine ox (top 28) (f2 178 177 oO) ?_;refine on (top 27) (f1 173 172 oO) ?_;refine on (top 26) (f1 166 165 oO) ?_;refine on (top 25) (f2 161 160 oO) ?_;refine ox (top 24) (f1 154 153 oO) ?_;refine ox (top 23) (f1 149 148 oO) ?_;refine on (top 22) (f1 142 141 oO) ?_;refine ox (top 21) (f1 137 136 oO) ?_;refine on (top 20) (f1 130 129 oO) ?_;refine on (top 17) (f1 125 124 p5) ?_;refine on (top 16) (f1 118 117 p5) ?_;refine on (top 15) (f1 113 112 p5) ?_;refine on (top 14) (f3 108 107 p5) ?_;refine on (top 13) (f3 103 102 p5) ?_;refine on (top 12) (f2 96 95 p5) ?_;refine on (top 11) (f2 89 88 p5) ?_;refine on (top 10) (f3 84 83 p5) ?_;refine on (top 9) (f2 77 76 p5) ?_;refine on (top 8) (f3 70 69 p5) ?_;exact⟨Rf.N6,Ex.Oh,(Rf.HY ⟨257,mg_of X G (by kernel_rfl)⟩ (Rf.HY ⟨259,mg_of X G (by kernel_rfl)⟩ (Rf.JP ⟨337,mg_of X G (by kernel_rfl)⟩ Rf.Oy))),B,M.ok (by decide +kernel),⟨_,X,G⟩⟩,gU.mg (f1 228 227 BG) X G⟩
def P1(w:World):lu (Kf w.params) []=true:=by kernel_rfl
end K81
open PySem PySem.W PyProof.Rows
theorem PySem.Challenge.cw_stillflow_k81_whole_worlds_read_holds : PySem.Challenge.rw_stillflow_k81_whole_worlds_read.Holds := by
 refine holds_law K81.N4 λk1=>?_
 refine holds_open (XP:=XL K81.vw []) (YP:=K81.hk.says) K81.left K81.hk.of K81.hk.keeps (λs e=>xl_of s (Bool.and_eq_true_iff.mp e).1) XL.keeps (by rfl) (by rfl) (by rfl) (λs e=>recFacts_of (Bool.and_eq_true_iff.mp e).2) (by rfl) k1 (by decide +kernel) ⟨rfl,rfl,rfl,rfl,rfl,by decide +kernel⟩ ?hw ?hc
 case hw=>w_witness2
 case hc=>exact K81.walk (l:=PySem.Challenge.rw_stillflow_k81_whole_worlds_read) (K:=K81.Kf) (ts:=[]) rfl rfl rfl (λw h Y=>⟨Y.1,Y.2⟩) K81.P1 (λw=>K81.ins w.params) K81.main
