import PyProof.Rows.All
import Wide.All
import OpenK.AllK
import Wide.FinOn
import PyProof.EqAt
import PyProof.EqKinds
import PyProof.TupleCall
import Lean
import PyProof.Draws
import PyProof.ListRange
import PyProof.StrCalls2
import PyProof.StrCalls6
import PyProof.SliceStr2
import KE.KIntText
import KE.KIsAll
import PySem.Challenge.RW_stillflow_k80_texts
set_option Elab.async false
set_option linter.all false
set_option maxRecDepth 100000
set_option maxHeartbeats 4000000
abbrev _root_.zA:=@Option.bind_some
abbrev _root_.zB:=@Option.map_some
abbrev _root_.zC:=@List.mem_cons_of_mem
abbrev _root_.zD:=@List.length_map
abbrev _root_.zE:=@List.mem_cons_self
abbrev _root_.zF:=@Bool.and_eq_true
abbrev _root_.zG:=@List.getD_eq_getElem?_getD
abbrev _root_.zH:=@List.size_toArray
abbrev _root_.zI:=@List.map_cons
abbrev _root_.zJ:=@decide_eq_true_eq
abbrev _root_.zK:=@List.getElem?_eq_getElem
abbrev _root_.zL:=@List.length_cons
abbrev _root_.zM:=@List.map_map
abbrev _root_.zN:=@List.length_append
abbrev _root_.zO:=@List.getElem?_map
abbrev _root_.zP:=@Nat.lt_of_lt_of_le
abbrev _root_.zQ:=@List.mem_cons
abbrev _root_.zR:=@List.length_range
abbrev _root_.zS:=@PySem.Heap.get?_push_of_some
abbrev _root_.zT:=@PySem.wpAny_bind
abbrev _root_.zU:=@PySem.wpAny_pure
abbrev _root_.zV:=@PySem.Heap.get?_push_size
abbrev _root_.zW:=@PySem.Heap.lt_size
abbrev _root_.zX:=@decide_eq_false
abbrev _root_.zY:=@decide_eq_true
abbrev _root_.zZ:=@List.lookup_cons
abbrev _root_.yA:=@List.length_set
abbrev _root_.yB:=@Nat.le_trans
abbrev _root_.yC:=@List.mem_append_right
abbrev _root_.yD:=@List.not_mem_nil
abbrev _root_.yE:=@Int.toNat_natCast
abbrev _root_.yF:=@List.range_eq_range'
abbrev _root_.yG:=@List.map_congr_left
abbrev _root_.yH:=@List.mem_singleton
abbrev _root_.yI:=@if_pos
abbrev _root_.yJ:=@Nat.le_refl
abbrev _root_.yK:=@if_neg
abbrev _root_.yL:=@Bool.false_eq_true
abbrev _root_.yM:=@Bool.not_eq_true'
abbrev _root_.yN:=@of_decide_eq_true
abbrev _root_.yO:=@Nat.ne_of_lt
abbrev _root_.yP:=@List.getElem?_append_left
abbrev _root_.yQ:=@List.getElem?_append_right
abbrev _root_.yR:=@List.map_nil
abbrev _root_.yS:=@List.set_cons_zero
abbrev _root_.yT:=@List.set_cons_succ
abbrev _root_.yU:=@List.getElem?_replicate
abbrev _root_.yV:=@List.getElem?_cons_succ
abbrev _root_.yW:=@Bool.false_ne_true
abbrev _root_.yX:=@PySem.wpAny_mono
abbrev _root_.yY:=@decide_eq_false_iff_not
abbrev _root_.yZ:=@List.length_singleton
abbrev _root_.xA:=@Option.some.inj
abbrev _root_.xB:=@List.replicate_succ
abbrev _root_.xC:=@List.cons_append
abbrev _root_.xD:=@List.all_eq_true
abbrev _root_.xE:=@if_true
abbrev _root_.xF:=@List.getElem?_set
abbrev _root_.xG:=@PySem.Heap.size_push
abbrev _root_.xH:=@List.length_nil
abbrev _root_.xI:=@List.length_replicate
abbrev _root_.xJ:=@PySem.Heap.get?_update_other
abbrev _root_.xK:=@List.nil_append
abbrev _root_.xM:=@List.length_filter_le
abbrev _root_.xN:=@List.getElem?_cons_zero
abbrev _root_.xO:=@PySem.wpAny_pyIter_tuple
abbrev _root_.xP:=@List.all_cons
abbrev _root_.xQ:=@or_false
abbrev _root_.xR:=@Nat.zero_le
abbrev _root_.xS:=@PySem.wpAny_truthy_bool
abbrev _root_.xU:=@PySem.wpAny_holding
abbrev _root_.xV:=@Bool.not_true
abbrev _root_.xW:=@Int.le_refl
abbrev _root_.xX:=@List.getElem_mem
abbrev _root_.xY:=@List.mem_of_getElem?
abbrev _root_.xZ:=@PySem.wpAny_callSpecial?_slot
abbrev _root_.qA:=@Array.getD_eq_getD_getElem?
abbrev _root_.qB:=@Nat.lt_irrefl
abbrev _root_.qC:=@List.append_nil
abbrev _root_.qD:=@Option.getD_some
abbrev _root_.qE:=@List.length_drop
abbrev _root_.qF:=@List.mem_append_left
abbrev _root_.qG:=@PySem.wpAny_pyIter_list
abbrev _root_.qH:=@PySem.wpAny_newObj_type
abbrev _root_.qJ:=@List.flatten_cons
abbrev _root_.qK:=@PySem.F.plainAttrs_list
abbrev _root_.qL:=@if_false
abbrev _root_.qM:=@List.getElem_of_mem
abbrev _root_.qN:=@PyProof.Rows.callWith_type1
abbrev _root_.qP:=@PySem.wpAny_field
abbrev _root_.qQ:=@PySem.wpAny_call_entry
abbrev _root_.qS:=@PySem.call_meets
abbrev _root_.qT:=@PySem.wpAny_Call_Name_kw
abbrev _root_.qU:=@List.map_append
abbrev _root_.qV:=@Bool.or_eq_true
abbrev _root_.qX:=@congrArg
abbrev _root_.qY:=@Nat.zero_add
abbrev _root_.qZ:=@List.pairwise_map
abbrev _root_.jA:=@PyProof.Rows.slot_tuple_getitem
abbrev _root_.jB:=@List.filterMap_cons
abbrev _root_.jC:=@List.ext_getElem
abbrev _root_.jD:=@Nat.ne_of_gt
abbrev _root_.jE:=@PySem.Calls.spliced_cons
abbrev _root_.jF:=@PySem.wpAny_passesOwn
abbrev _root_.jG:=@Bool.true_and
abbrev _root_.jH:=@List.getElem?_eq_none
abbrev _root_.jI:=@Ne.symm
abbrev _root_.jJ:=@Nat.lt_succ_of_lt
abbrev _root_.jK:=@and_self
abbrev _root_.jL:=@decide_true
abbrev _root_.jM:=@PySem.F.slot_tuple_iterator_next
abbrev _root_.jN:=@PySem.codeAny_mono
abbrev _root_.jO:=@Nat.le_of_lt
abbrev _root_.jP:=@Int.le_trans
abbrev _root_.jQ:=@Nat.le_add_right
abbrev _root_.jR:=@List.length_take
abbrev _root_.jS:=@List.filter_cons
abbrev _root_.jT:=@Array.getElem?_eq_getElem
abbrev _root_.jU:=@PySem.mem_of_lookup
abbrev _root_.jV:=@PySem.codeAny_builtin
abbrev _root_.jW:=@PySem.wpAny_seqItems
abbrev _root_.jX:=@PySem.Calls.spliced_nil
abbrev _root_.jY:=@PySem.SeqAt.canLay_of_shaped
abbrev _root_.jZ:=@List.take_of_length_le
abbrev _root_.kA:=@List.find?_cons_of_neg
abbrev _root_.kC:=@Option.getD_none
abbrev _root_.kE:=@Nat.lt_succ_self
abbrev _root_.kF:=@PySem.wpAny_attempt
abbrev _root_.kG:=@List.getElem?_set_ne
abbrev _root_.kH:=@List.cons.injEq
abbrev _root_.kJ:=@Bool.eq_iff_iff
abbrev _root_.kK:=@Bool.and_false
abbrev _root_.kL:=@PySem.wpAny_setField_rec
abbrev _root_.kM:=@Int.emod_lt_of_pos
abbrev _root_.kN:=@List.drop_eq_getElem_cons
abbrev _root_.kO:=@List.reverse_cons
abbrev _root_.kP:=@List.any_cons
abbrev _root_.kR:=@PySem.F.args_tuple_add_2
abbrev _root_.kS:=@PySem.wpAny_execs_cons
abbrev _root_.kU:=@PySem.F.entry_tuple_add
abbrev _root_.kW:=@Int.eq_ofNat_of_zero_le
abbrev _root_.kX:=@PySem.wpAny_call
abbrev _root_.kY:=@beq_iff_eq
abbrev _root_.kZ:=@PySem.F.slot_tuple_add
abbrev _root_.vA:=@List.range_succ_eq_map
abbrev _root_.vB:=@List.find?_cons_of_pos
abbrev _root_.vC:=@PySem.wpAny_execs_nil
abbrev _root_.vD:=@Nat.not_lt_zero
abbrev _root_.vE:=@List.of_mem_zip
abbrev _root_.vF:=@Int.emod_nonneg
abbrev _root_.vG:=@PySem.F.slot_zip_next
abbrev _root_.vH:=@PySem.F.slot_int_rmul
abbrev _root_.vI:=@List.getElem?_toArray
abbrev _root_.vJ:=@Nat.mul_le_mul
abbrev _root_.vK:=@Bool.false_and
abbrev _root_.vL:=@PySem.wpAny_loadName_local
abbrev _root_.vM:=@PySem.codeAny_call_builtin
abbrev _root_.vN:=@List.getD_cons_zero
abbrev _root_.vO:=@List.getD_cons_succ
abbrev _root_.vP:=@Array.length_toList
abbrev _root_.vQ:=@PySem.wpAny_Name
abbrev _root_.vR:=@PySem.typeIs_int
abbrev _root_.vS:=@PySem.F.args_tuple_mul_2
abbrev _root_.vT:=@PySem.Code.quiet_builtin
abbrev _root_.vU:=@PySem.Calls.Constant_str
abbrev _root_.vV:=@PySem.wpAny_typeOf
abbrev _root_.vW:=@PySem.concat_meets
abbrev _root_.vX:=@Nat.lt_trans
abbrev _root_.vY:=@PySem.wpAny_pyIter_enum
abbrev _root_.vZ:=@Function.comp_def
abbrev _root_.wA:=@PySem.F.entry_tuple_mul
local macro_rules|`(tactic|simp?[$t,*] $[$l:location]?)=>`(tactic|simp only[$t,*] $[$l]?)
local macro_rules|`(tactic|let ⟨$a,*⟩:=$e)=>do
 let rec f(n:Nat)(t:Lean.Syntax):Lean.MacroM (Lean.TSyntax `rcasesPat):=match n with
 |0=>Lean.Macro.throwUnsupported
 |n+1=>match t with
  |`(⟨$b,*⟩)=>do
    let c<-b.getElems.mapM fun x=>do `(Lean.Parser.Tactic.rcasesPatLo|$(<-f n x):rcasesPat)
    `(rcasesPat|⟨$c,*⟩)
  |`($x:ident)=>`(rcasesPat|$x:ident)
  |_=>`(rcasesPat|_)
 `(tactic|obtain $(<-f 9 (<-`(⟨$a,*⟩))):rcasesPat:=$e)
local macro_rules|`(tactic|lia)=>`(tactic|omega)
local macro_rules|`(def $i:declId $s:optDeclSig $v:declVal)=>`(noncomputable def $i:declId $s:optDeclSig $v:declVal)
local macro_rules|`(abbrev $i:declId $s:optDeclSig $v:declVal)=>`(noncomputable abbrev $i:declId $s:optDeclSig $v:declVal)
namespace L2
open PySem
def fF(s:Stmt):Arguments:=match s with
 | .FunctionDef _ a _ _ _ _ _ _ _ _=>a
 | _=>{ posonlyargs:=[],args:=[],vararg:=none,kwonlyargs:=[],kw_defaults:=[],kwarg:=none,defaults:=[] }
def bc(s:Stmt):List Stmt:=match s with
 | .FunctionDef _ _ b _ _ _ _ _ _ _=>b
 | _=>[]
def ai(s:Stmt):Scope:=match s with
 | .FunctionDef _ _ _ _ _ _ sc _ _ _=>sc
 | _=>{ kind:=.function,names:=[],isGenerator:=false,isCoroutine:=false }
end L2
namespace Hd
open PySem L2 PySem.Spec PyProof.Rows
variable {N:Nat}
def en(P:Params)(x:String)(t:Nat)(v:Value):DictEntry:=⟨PyData.keyHash P (Str.ofString x),.str (Str.ofString x) t,v⟩
def fo(x:Str)(st:Stmt)(pm:Value)(c:Addr):Obj:=⟨.type "function",none,.func (W.fnOf x x (fF st) (bc st) (ai st) .none .none .none pm none (.ref c) .none),#[]⟩
def co(vs:List Value):Obj:=⟨.type "code",none,.fields vs.toArray,#[]⟩
def L7(n:Nat):Value:=if n=0 then .none else .ref n
def fW(x:Str)(t l n a b c d e f u:Nat):Obj:=co [.str x t,.str x (t+1),.str "/claim/cut.py" (t+2),.int l 0,.int n 0,.int 0 0,.int 0 0,.int 3 0,L7 a,.bool true,.int 181 0,L7 b,L7 c,L7 d,L7 e,L7 f,.int u 0,.int l 0,.str "/claim/cut.py" (u+1)]
def K6(x:Str)(C ns m t u:Nat)(bs up subs:List Value):Obj:=⟨.type "type",none,.cls { name:=x,bases:=bs,mro:=.ref C::(up++[.type "ValueError",.type "Exception",.type "BaseException",.type "object"]),ns:=ns,qualname:=x,subclasses:=subs },#[some (.ref m),none,some (.str x t),some (.str x u),some (.builtin "ValueError.__new__"),some (.bool true)]⟩
open PySem PySem.W L2
structure Acc where
 a:Nat
 t:Nat
 nm:Value
 es:List DictEntry
 ts:List Value
 os:List Obj
def Ip(q:NameKind)(sc:Scope):List Str:=sc.names.filterMap λ(x,k)=>if k=q then some x else none
def LL:Nat->List Str->List Value
 | _,[]=>[]
 | t,x::l=>.str x t::LL (t+1) l
def Ge(vs:List Value):Obj:=⟨.type "tuple",none,.seq vs.toArray,#[]⟩
def Mt:Obj:=⟨.none,none,.fields #[],#[]⟩
def My(x:Str)(st:Stmt):Obj:=⟨.none,none,.func { name:=x,qualname:=x,params:=fF st,body:=.stmts (bc st),scope:=ai st,globals:=0,closure:=[],defaults:=.none,kwdefaults:=.none },#[]⟩
def Qs(P:Params)(k:Nat)(st:Stmt):Acc->Acc
 | ⟨a,t,nm,es,ts,os⟩=>match st with
  | .FunctionDef x args _ _ _ _ sc _ _ pos =>
   if k=0 then ⟨a+5,t+6,nm,⟨PyData.keyHash P x,.str x (t+5),.ref (a+4)⟩::es,.ref (a+3)::.int 0 0::.int pos.line 0::ts,
    fo x st nm (a+3)::fW x t pos.line args.args.length a (a+1) 0 0 0 (a+2) (t+3)::My x st::Mt::Ge []::os⟩
   else
    let m:=(Ip .local sc).length;let n:=m+(Ip .cell sc).length
    ⟨a+7,t+6+n,nm,⟨PyData.keyHash P x,.str x (t+5+n),.ref (a+6)⟩::es,.ref (a+5)::.int 0 0::.int pos.line 0::ts,
    fo x st nm (a+5)::fW x t pos.line args.args.length a (a+1) 0 (a+2) (a+3) (a+4) (t+3+n)::My x st::Ge (LL (t+3+m) (Ip .cell sc))::Ge (LL (t+3) (Ip .local sc))::Mt::Ge []::os⟩
  | .Assign [.Name x _] (.Constant c _ _) _ =>
   let v:=match c with|.int i=>Value.int i t|.str y=>.str y t|_=>.none
   if k=2 then ⟨a,t+2,v,es,ts,os⟩ else ⟨a,t+2,nm,⟨PyData.keyHash P x,.str x (t+1),v⟩::es,ts,os⟩
  | _=>⟨a,t,nm,es,ts,os⟩
def NB(P:Params):List Nat->List Stmt->Acc->Acc
 | k::ks,st::r,A=>NB P ks r (Qs P k st A)
 | _,_,A=>A
def OW:Heap->Acc->Heap
 | ⟨⟨o0::o1::o2::⟨c3,d3,.dict ⟨e0::es⟩ n,s3⟩::r⟩,lf⟩,A=>⟨⟨o0::o1::o2::⟨c3,d3,.dict ⟨{ e0 with val:=A.nm }::(es++A.es.reverse)⟩ (n+A.es.length),s3⟩ ::
   (r.modify 8 (fun|⟨c,d,.fields ⟨vs⟩,s⟩=>⟨c,d,.fields ⟨vs++A.ts.reverse⟩,s⟩|o=>o)++A.os.reverse)⟩,lf⟩
 | h,_=>h
def nh(s:Shared)(A:Acc):Shared:={ s with heap:=OW s.heap A,toks:=A.t }
section
variable (p:Program) (w:World)
abbrev uN:=behindTheImports p
abbrev FB:PySem.Env:={ scope:=p.main.scope,locals:=3,globals:=3,cells:=[],code:=.ref 13,frame:=some 14 }
abbrev yf:Code:=.body (uN p) (FB p)
def FL(i:Nat):Pos:=if i=0 then default else ((uN p).getD (i - 1) (.Pass default)).pos
abbrev Gy:List Frame:=[topFrame default]
def S0:Shared:=(fencedOpening treeTable p w 6000).getD {}
def Sb:Shared:=((topGo treeTable p w 11 (some (.ref 6)) 12 (S0 p w) (topStub p)).map (·.1)).getD {}
abbrev NK(n i j:Nat)(s:Shared):=segRun treeTable p w 11 (some (.ref 6)) 1 n s (piecesOf (((uN p).drop i).take (j - i)) (FB p) (yf p) (FL p i) Gy)
def Sc(n j:Nat):Shared:=((NK p w n 0 j (Sb p w)).map (·.2.1)).getD {}
def SA(n j:Nat)(A:Acc)(ks:List Nat)(m:Nat):Shared:=nh (Sc p w n j) (NB w.params (ks.take m) ((uN p).drop j) A)
end
def Ht{p q:Program}{loose:List Str}{Xt:Shared->Bool}{α:Type}{Yf:Shared->α}{Ya:World->α}{g0:Bool}{s1:World->Shared}{M:Nat}
  (ho:∀w,fencedOpening treeTable p w 6000=some (S0 p w)) (hs:∀w,((S0 p w).heap.isNs mainGlobals&&(S0 p w).gens.size == 0,(S0 p w).heap.objs.size,(S0 p w).heap.nsMap mainGlobals "__annotations__")=(true,11,some (.ref 6)))
  (hr:∀w,topRun treeTable p w 11 (some (.ref 6)) M (S0 p w) (topStub p)=some (s1 w)) (hM:M<=6000)
  (hl:∀w,(staticsOk (importedModules p.main.body) (S0 p w).heap (s1 w).heap&&namesBound p (s1 w).heap&&gensDone (s1 w)&&laidKept (S0 p w).heap (s1 w).heap)=true)
  (hk:∀w,openSeen q loose (importedModules p.main.body) Xt g0 (s1 w)=openGood q loose) (hy:∀w,Yf (s1 w)=Ya w):LeftO p q loose Xt Yf Ya 6000 g0:=λw=>by
 have r:=topRun_mono (6000 - M) _ _ _ _ (hr w);rw[show M+(6000 - M)=6000 by lia] at r;have e:=hs w;simp?[Prod.mk.injEq] at e;have t:openEnds treeTable p w 6000=some (s1 w):=by
  unfold openEnds;rw[ho w,zA];unfold topFrom;rw[e.1,e.2.1,e.2.2];dsimp only;rw[r,zA,hl w]
 rw[t,zB,hk w,hy w]
def Ld{p:Program}{w:World}{r:Shared}(a:topGo treeTable p w 11 (some (.ref 6)) 12 (S0 p w) (topStub p)=some (Sb p w,⟨denote treeTable (.body (uN p) (FB p)),yf p,default,Gy⟩))
  (b:segRun treeTable p w 11 (some (.ref 6)) 1 1 (Sb p w) (blockOf (uN p) (FB p) (yf p) default Gy)=some (.next,Sb p w,yf p,FL p 0))
  (k:topRun treeTable p w 11 (some (.ref 6)) N (Sb p w) (restOf (uN p) (FB p) (yf p) (FL p 0) Gy)=some r):topRun treeTable p w 11 (some (.ref 6)) (12+(1+N)) (S0 p w) (topStub p)=some r:=go_top a (piece_block b k)
def Pv{p:Program}{w:World}{n N i j:Nat}{s s' r:Shared}(h:NK p w n i j s=some (.next,s',yf p,FL p j))(hij:i<=j)(k:topRun treeTable p w 11 (some (.ref 6)) N s' (restOf ((uN p).drop j) (FB p) (yf p) (FL p j) Gy)=some r) :
  topRun treeTable p w 11 (some (.ref 6)) (n+N) s (restOf ((uN p).drop i) (FB p) (yf p) (FL p i) Gy)=some r:=by
 have e:(uN p).drop i=((uN p).drop i).take (j - i)++(uN p).drop j:=by
  have:=List.take_append_drop (j - i) ((uN p).drop i);rw[List.drop_drop,show i+(j - i)=j by lia] at this;exact this.symm
 rw[e];exact piece_app h k
end Hd
namespace K80
open PySem L2 PySem.Spec PyProof.Rows Hd PySem.W
abbrev top(i:Nat):Stmt:=PySem.Challenge.pw_stillflow_k80_texts.main.body.getD i (.Pass ⟨0,0,0,0⟩)
def vw:Program:=W.view PySem.Challenge.pw_stillflow_k80_texts [1,2,3,4,5,6,7,9,10,11,12,13,14,15,16,17,18,19,20,21,22,23,24,26,27,28,29,30,31,32,33,34,35,36,37,38,39,40,41,42,44,45,46,47,48,49,50,51,52,53]
abbrev Qp:Addr:=24
abbrev PU:List (Str×Addr):=[("NoWorld",37),("NoPlan",49),("NoPlace",61),("TooMany",73),("Nothing",85)]
def lj:Value:=(.str "stillflow.worlds" 303)
def jb:Value:=(.str "stillflow.texts" 409)
def p5:Value:=(.str "law_stillflow_k80_texts" 529)
def Kf(P:Params):W.Frag:=[(3,⟨.type "dict",none,.dict #[en P "__name__" 165 (.str "law_stillflow_k80_texts" 529),en P "__doc__" 166 .none,en P "__package__" 167 .none,en P "__loader__" 168 (.builtin "__main__.__loader__#opaque"),en P "__spec__" 169 .none,en P "__annotations__" 170 (.ref 6),en P "__builtins__" 171 (.ref 4),en P "__file__" 173 (.str "/claim/cut.py" 172),en P "__cached__" 174 .none,en P "FlowError" 206 (.ref 24),en P "NoWorld" 222 (.ref 37),en P "NoPlan" 238 (.ref 49),en P "NoPlace" 254 (.ref 61),en P "TooMany" 270 (.ref 73),en P "Nothing" 286 (.ref 85),en P "NoText" 302 (.ref 97),en P "MOST_PLACES" 306 (.int 4 305),en P "MOST" 308 (.int 9 307),en P "is_whole" 317 (.ref 106),en P "is_number" 325 (.ref 113),en P "is_long" 334 (.ref 120),en P "are_likes" 340 (.ref 125),en P "is_end" 348 (.ref 132),en P "is_way" 357 (.ref 139),en P "are_parts" 363 (.ref 144),en P "liked_pairs" 369 (.ref 149),en P "is_world" 375 (.ref 154),en P "through" 381 (.ref 159),en P "keeps_amounts" 387 (.ref 164),en P "is_plan" 393 (.ref 169),en P "check_world" 400 (.ref 176),en P "check_plan" 408 (.ref 183),en P "DIGITS" 412 (.str "0123456789" 411),en P "text_of_lines" 418 (.ref 188),en P "lines_of" 426 (.ref 195),en P "line_of" 432 (.ref 200),en P "number_of" 439 (.ref 207),en P "numbers_of" 445 (.ref 212),en P "end_line" 453 (.ref 219),en P "written_world" 459 (.ref 224),en P "flow_line" 469 (.ref 231),en P "written_plan" 475 (.ref 236),en P "world_text" 482 (.ref 243),en P "plan_text" 490 (.ref 250),en P "rows_of" 496 (.ref 255),en P "ends_of" 502 (.ref 260),en P "read_world" 511 (.ref 267),en P "known_lines" 522 (.ref 274),en P "read_plan" 528 (.ref 279),en P "_law_cell" 538 (.ref 286),en P "_law_drawn" 548 (.ref 293),en P "_law_wide" 554 (.ref 298),en P "_law_used" 560 (.ref 303),en P "_law_fits" 571 (.ref 310),en P "_law_plans" 577 (.ref 315),en P "_law_plan" 591 (.ref 322),en P "_law_refused" 599 (.ref 329),en P "_law_told" 609 (.ref 336),en P "law" 615 (.ref 341)] 59,#[]⟩),
 (23,⟨.type "dict",none,.dict #[en P "__module__" 196 (.str "stillflow.errors" 187),en P "__firstlineno__" 200 (.int 2 199),en P "__static_attributes__" 201 (.ref 22),en P "__weakref__" 203 (.ref 25),en P "__doc__" 204 .none] 3,#[]⟩),
 (24,K6 "FlowError" 24 23 15 189 197 [(.type "ValueError")] [] [(.ref 37),(.ref 49),(.ref 61),(.ref 73),(.ref 85),(.ref 97)]),
 (36,⟨.type "dict",none,.dict #[en P "__module__" 214 (.str "stillflow.errors" 187),en P "__firstlineno__" 218 (.int 4 217),en P "__static_attributes__" 219 (.ref 35),en P "__doc__" 220 .none] 2,#[]⟩),
 (37,K6 "NoWorld" 37 36 28 207 215 [(.ref 24)] [(.ref 24)] []),
 (48,⟨.type "dict",none,.dict #[en P "__module__" 230 (.str "stillflow.errors" 187),en P "__firstlineno__" 234 (.int 6 233),en P "__static_attributes__" 235 (.ref 47),en P "__doc__" 236 .none] 2,#[]⟩),
 (49,K6 "NoPlan" 49 48 40 223 231 [(.ref 24)] [(.ref 24)] []),
 (60,⟨.type "dict",none,.dict #[en P "__module__" 246 (.str "stillflow.errors" 187),en P "__firstlineno__" 250 (.int 8 249),en P "__static_attributes__" 251 (.ref 59),en P "__doc__" 252 .none] 2,#[]⟩),
 (61,K6 "NoPlace" 61 60 52 239 247 [(.ref 24)] [(.ref 24)] []),
 (72,⟨.type "dict",none,.dict #[en P "__module__" 262 (.str "stillflow.errors" 187),en P "__firstlineno__" 266 (.int 10 265),en P "__static_attributes__" 267 (.ref 71),en P "__doc__" 268 .none] 2,#[]⟩),
 (73,K6 "TooMany" 73 72 64 255 263 [(.ref 24)] [(.ref 24)] []),
 (84,⟨.type "dict",none,.dict #[en P "__module__" 278 (.str "stillflow.errors" 187),en P "__firstlineno__" 282 (.int 12 281),en P "__static_attributes__" 283 (.ref 83),en P "__doc__" 284 .none] 2,#[]⟩),
 (85,K6 "Nothing" 85 84 76 271 279 [(.ref 24)] [(.ref 24)] []),
 (96,⟨.type "dict",none,.dict #[en P "__module__" 294 (.str "stillflow.errors" 187),en P "__firstlineno__" 298 (.int 14 297),en P "__static_attributes__" 299 (.ref 95),en P "__doc__" 300 .none] 2,#[]⟩),
 (97,K6 "NoText" 97 96 88 287 295 [(.ref 24)] [(.ref 24)] []),
 (105,fW "is_whole" 309 19 3 100 101 0 102 103 104 315),
 (106,fo "is_whole" (top 11) lj 105),
 (112,fW "is_number" 318 23 2 107 108 0 109 110 111 323),
 (113,fo "is_number" (top 12) lj 112),
 (119,fW "is_long" 326 25 3 114 115 0 116 117 118 332),
 (120,fo "is_long" (top 13) lj 119),
 (124,fW "are_likes" 335 27 2 121 122 0 0 0 123 338),
 (125,fo "are_likes" (top 14) lj 124),
 (131,fW "is_end" 341 33 2 126 127 0 128 129 130 346),
 (132,fo "is_end" (top 15) lj 131),
 (138,fW "is_way" 349 35 3 133 134 0 135 136 137 355),
 (139,fo "is_way" (top 16) lj 138),
 (143,fW "are_parts" 358 39 3 140 141 0 0 0 142 361),
 (144,fo "are_parts" (top 17) lj 143),
 (148,fW "liked_pairs" 364 47 1 145 146 0 0 0 147 367),
 (149,fo "liked_pairs" (top 18) lj 148),
 (153,fW "is_world" 370 52 1 150 151 0 0 0 152 373),
 (154,fo "is_world" (top 19) lj 153),
 (158,fW "through" 376 59 4 155 156 0 0 0 157 379),
 (159,fo "through" (top 20) lj 158),
 (163,fW "keeps_amounts" 382 61 3 160 161 0 0 0 162 385),
 (164,fo "keeps_amounts" (top 21) lj 163),
 (168,fW "is_plan" 388 63 2 165 166 0 0 0 167 391),
 (169,fo "is_plan" (top 22) lj 168),
 (175,fW "check_world" 394 70 1 170 171 0 172 173 174 398),
 (176,fo "check_world" (top 23) lj 175),
 (182,fW "check_plan" 401 73 2 177 178 0 179 180 181 406),
 (183,fo "check_plan" (top 24) lj 182),
 (187,fW "text_of_lines" 413 79 1 184 185 0 0 0 186 416),
 (188,fo "text_of_lines" (top 27) jb 187),
 (194,fW "lines_of" 419 81 1 189 190 0 191 192 193 424),
 (195,fo "lines_of" (top 28) jb 194),
 (199,fW "line_of" 427 86 1 196 197 0 0 0 198 430),
 (200,fo "line_of" (top 29) jb 199),
 (206,fW "number_of" 433 88 1 201 202 0 203 204 205 437),
 (207,fo "number_of" (top 30) jb 206),
 (211,fW "numbers_of" 440 92 1 208 209 0 0 0 210 443),
 (212,fo "numbers_of" (top 31) jb 211),
 (218,fW "end_line" 446 94 2 213 214 0 215 216 217 451),
 (219,fo "end_line" (top 32) jb 218),
 (223,fW "written_world" 454 96 1 220 221 0 0 0 222 457),
 (224,fo "written_world" (top 33) jb 223),
 (230,fW "flow_line" 460 101 2 225 226 0 227 228 229 467),
 (231,fo "flow_line" (top 34) jb 230),
 (235,fW "written_plan" 470 105 2 232 233 0 0 0 234 473),
 (236,fo "written_plan" (top 35) jb 235),
 (242,fW "world_text" 476 107 1 237 238 0 239 240 241 480),
 (243,fo "world_text" (top 36) jb 242),
 (249,fW "plan_text" 483 110 2 244 245 0 246 247 248 488),
 (250,fo "plan_text" (top 37) jb 249),
 (254,fW "rows_of" 491 113 2 251 252 0 0 0 253 494),
 (255,fo "rows_of" (top 38) jb 254),
 (259,fW "ends_of" 497 116 2 256 257 0 0 0 258 500),
 (260,fo "ends_of" (top 39) jb 259),
 (266,fW "read_world" 503 118 1 261 262 0 263 264 265 509),
 (267,fo "read_world" (top 40) jb 266),
 (273,fW "known_lines" 512 124 1 268 269 0 270 271 272 520),
 (274,fo "known_lines" (top 41) jb 273),
 (278,fW "read_plan" 523 130 2 275 276 0 0 0 277 526),
 (279,fo "read_plan" (top 42) jb 278),
 (285,fW "_law_cell" 531 144 2 280 281 0 282 283 284 536),
 (286,fo "_law_cell" (top 44) p5 285),
 (292,fW "_law_drawn" 539 148 3 287 288 0 289 290 291 546),
 (293,fo "_law_drawn" (top 45) p5 292),
 (297,fW "_law_wide" 549 152 2 294 295 0 0 0 296 552),
 (298,fo "_law_wide" (top 46) p5 297),
 (302,fW "_law_used" 555 170 4 299 300 0 0 0 301 558),
 (303,fo "_law_used" (top 47) p5 302),
 (309,fW "_law_fits" 561 172 2 304 305 0 306 307 308 569),
 (310,fo "_law_fits" (top 48) p5 309),
 (314,fW "_law_plans" 572 178 1 311 312 0 0 0 313 575),
 (315,fo "_law_plans" (top 49) p5 314),
 (321,fW "_law_plan" 578 186 3 316 317 0 318 319 320 589),
 (322,fo "_law_plan" (top 50) p5 321),
 (328,fW "_law_refused" 592 193 1 323 324 0 325 326 327 597),
 (329,fo "_law_refused" (top 51) p5 328),
 (335,fW "_law_told" 600 199 3 330 331 0 332 333 334 607),
 (336,fo "_law_told" (top 52) p5 335),
 (340,fW "law" 610 206 1 337 338 0 0 0 339 613),
 (341,fo "law" (top 53) p5 340)]
def hk:W.Hook:=W.kmHook Kf [3,23,24,36,37,48,49,60,61,72,73,84,85,96,97,105,106,112,113,119,120,124,125,131,132,138,139,143,144,148,149,153,154,158,159,163,164,168,169,175,176,182,183,187,188,194,195,199,200,206,207,211,212,218,219,223,224,230,231,235,236,242,243,249,250,254,255,259,260,266,267,273,274,278,279,285,286,292,293,297,298,302,303,309,310,314,315,321,322,328,329,335,336,340,341] (λ_=>rfl) []
abbrev pp:=PySem.Challenge.pw_stillflow_k80_texts
abbrev A0:Acc:=⟨100,303,.str "stillflow.errors" 187,[],[],[]⟩
abbrev ks:List Nat:=[2,3,3,1,1,1,0,1,1,0,0,0,0,0,0,1,1,2,3,0,1,0,1,0,1,0,1,0,1,1,0,0,1,1,0,2,1,1,0,0,1,0,1,1,1,0]
abbrev cs(w:World):Shared:=Sc pp w 1474 8
abbrev sa(w:World)(m:Nat):Shared:=SA pp w 1474 8 A0 ks m
def o0(w:World):fencedOpening treeTable pp w 6000=some (S0 pp w):=by kernel_rfl
def o1(w:World):((S0 pp w).heap.isNs mainGlobals&&(S0 pp w).gens.size == 0,(S0 pp w).heap.objs.size,(S0 pp w).heap.nsMap mainGlobals "__annotations__")=(true,11,some (.ref 6)):=by kernel_rfl
def o2(w:World):topGo treeTable pp w 11 (some (.ref 6)) 12 (S0 pp w) (topStub pp)=some (Sb pp w,⟨denote treeTable (.body (uN pp) (FB pp)),yf pp,default,Gy⟩):=by kernel_rfl
def o3(w:World):segRun treeTable pp w 11 (some (.ref 6)) 1 1 (Sb pp w) (blockOf (uN pp) (FB pp) (yf pp) default Gy)=some (.next,Sb pp w,yf pp,FL pp 0):=by kernel_rfl
def q0(w:World):NK pp w 1474 0 8 (Sb pp w)=some (.next,cs w,yf pp,FL pp 8):=by kernel_rfl
def q1(w:World):cs w=sa w 0:=by kernel_rfl
def r0(w:World):NK pp w 1198 8 54 (sa w 0)=some (.next,sa w 46,yf pp,FL pp 54):=by kernel_rfl
abbrev fs(w:World):Shared:=sa w 46
def q2(w:World):topRun treeTable pp w 11 (some (.ref 6)) 3 (fs w) (restOf ((uN pp).drop 54) (FB pp) (yf pp) (FL pp 54) Gy)=some (fs w):=by kernel_rfl
def rl(w:World):topRun treeTable pp w 11 (some (.ref 6)) (12+(1+(1474+(1198+3)))) (S0 pp w) (topStub pp)=some (fs w):=Ld (o2 w) (o3 w) (Pv (i:=0) (q0 w) (by decide) (by rw[q1 w];exact (Pv (r0 w) (by decide) (q2 w))))
abbrev sn(w:World):=openSeen vw [] (importedModules pp.main.body) (λs=>xlAt vw [] s&&recOk [] s) true (fs w)
abbrev gd:=openGood vw []
def l0(w:World):(staticsOk (importedModules pp.main.body) (S0 pp w).heap (fs w).heap&&namesBound pp (fs w).heap&&gensDone (fs w)&&laidKept (S0 pp w).heap (fs w).heap)=true:=by kernel_rfl
def PM(w:World):(sn w).1=gd.1:=by kernel_rfl
def PZ(w:World):(sn w).2.1=gd.2.1:=by kernel_rfl
def P7(w:World):(sn w).2.2.1=gd.2.2.1:=by kernel_rfl
def Qa(w:World):(sn w).2.2.2.1=gd.2.2.2.1:=by kernel_rfl
def PR(w:World):(sn w).2.2.2.2.1=gd.2.2.2.2.1:=by kernel_rfl
def Qb(w:World):(sn w).2.2.2.2.2.1=gd.2.2.2.2.2.1:=by kernel_rfl
def Qq(w:World):(sn w).2.2.2.2.2.2=gd.2.2.2.2.2.2:=by kernel_rfl
def P2(w:World):hk.obs (fs w)=hk.val w:=by kernel_rfl
def left:LeftO pp vw [] (λs=>xlAt vw [] s&&recOk [] s) hk.obs hk.val 6000:=Ht o0 o1 rl (by decide) l0 (λw=>Prod.ext (PM w) (Prod.ext (PZ w) (Prod.ext (P7 w) (Prod.ext (Qa w) (Prod.ext (PR w) (Prod.ext (Qb w) (Qq w))))))) P2
def Oe:PySem.Challenge.rw_stillflow_k80_texts.wellSaid=true:=by kernel_rfl
end K80
namespace L2
open PySem PySem.Spec PyProof.Rows
abbrev fj:=Sum Int Str
def Je:fj->Value->Bool
 | .inl k,v=>Value.isInt k v
 | .inr x,v=>Value.isStrOf x v
def Pa(w:World):fj->Int
 | .inl k=>hashInt k
 | .inr x=>hashStr w x
def bF:∀ {k:fj}{v:Value},Je k v=true->(∃i t,k=Sum.inl i/\v=Value.int i t)\/(∃x t,k=Sum.inr x/\v=Value.str x t)
 | .inl i,v,h=>by
  let⟨t,e⟩:=Value.isInt_shape (k:=i) (v:=v) h;exact .inl ⟨i,t,rfl,e⟩
 | .inr x,v,h=>by
  let⟨t,e⟩:=Value.isStrOf_shape (x:=x) (v:=v) h;exact .inr ⟨x,t,rfl,e⟩
def LM(a b:Int):decide ((Sum.inl a:fj)=Sum.inl b)=(a == b):=by
 by_cases e:a=b
 ·subst e;simp
 ·have h:¬ (Sum.inl a:fj)=Sum.inl b:=λq=>e (Sum.inl.inj q);rw[zX h];exact (beq_eq_false_iff_ne.mpr e).symm
def LQ(a b:Str):decide ((Sum.inr a:fj)=Sum.inr b)=decide (a=b):=by
 by_cases e:a=b
 ·subst e;simp
 ·have h:¬ (Sum.inr a:fj)=Sum.inr b:=λq=>e (Sum.inr.inj q);rw[zX h,zX e]
def Ke(a:Int)(b:Str):decide ((Sum.inl a:fj)=Sum.inr b)=false:=zX (λq=>nomatch q)
def Ko(a:Str)(b:Int):decide ((Sum.inr a:fj)=Sum.inl b)=false:=zX (λq=>nomatch q)
def gS(prog:Program)(w:World):PySem.KeyKind prog w fj where
 is:=Je
 hash:=Pa w
 inj:=λv a b ha hb=>by
  rcases bF ha with ⟨i,t,rfl,rfl⟩|⟨x,t,rfl,rfl⟩
  ·rcases bF hb with ⟨j,u,rfl,e⟩|⟨y,u,rfl,e⟩
   ·injection e with e1 _;rw[e1]
   ·exact nomatch e
  ·rcases bF hb with ⟨j,u,rfl,e⟩|⟨y,u,rfl,e⟩
   ·exact nomatch e
   ·injection e with e1 _;rw[e1]
 byValue:=λk v h=>by
  rcases bF h with ⟨i,t,rfl,rfl⟩|⟨x,t,rfl,rfl⟩<;>rfl
 pyHash:=λhv h=>by
  rcases bF hv with ⟨i,t,rfl,rfl⟩|⟨x,t,rfl,rfl⟩
  ·exact wpAny_pyHash_int h
  ·exact wpAny_pyHash_str h
 eqBool:=λhu hv h=>by
  rcases bF hu with ⟨i,t,rfl,rfl⟩|⟨x,t,rfl,rfl⟩
  ·rcases bF hv with ⟨j,u,rfl,rfl⟩|⟨y,u,rfl,rfl⟩
   ·rw[LM] at h;exact wpAny_eqBool_int h
   ·rw[Ke] at h;exact SeqAt.EqAt.int_str i t y u _ _ _ _ h
  ·rcases bF hv with ⟨j,u,rfl,rfl⟩|⟨y,u,rfl,rfl⟩
   ·rw[Ko] at h;exact SeqAt.EqAt.str_int x t j u _ _ _ _ h
   ·rw[LQ] at h;exact wpAny_eqBool_str h
 «strs»:=λk x t v h=>by
  rcases bF h with ⟨i,u,rfl,e⟩|⟨y,u,rfl,e⟩
  ·exact nomatch e
  ·injection e with e1 _
   subst e1;cases v<;>rfl
inductive V where
 | non|bl (b:Bool)|int (i:Int)|str (x:Str)|byt (b:Array UInt8)|flt (b:UInt64)|ref (a:Addr)|ty (n:String)
 deriving DecidableEq
def RelV:V->Value->Prop
 | .non,u=>u=Value.none
 | .bl b,u=>u=Value.bool b
 | .int i,u=>∃t,u=Value.int i t
 | .str x,u=>∃t,u=Value.str x t
 | .byt b,u=>∃t,u=Value.bytes b t
 | .flt b,u=>∃t,u=Value.float b t
 | .ref a,u=>u=Value.ref a
 | .ty n,u=>u=Value.type n
abbrev aE:List V->List Value->Prop:=Paired RelV
def aE.length(r:aE xs us):xs.length=us.length:=Paired.length r
def aE.get:∀ {xs:List V}{us:List Value}{i:Nat}{x:V},aE xs us->xs[i]?=some x->∃u,us[i]?=some u/\RelV x u
 | _,_,_,_,.nil,e=>by simp at e
 | _,_,0,_,.cons r _,e=>by simp at e;subst e;exact⟨_,rfl,r⟩
 | _,_,i+1,x,.cons _ t,e=>by
  let⟨u,h1,h2⟩:=aE.get (i:=i) (x:=x) t (by simpa using e);exact⟨u,by simpa using h1,h2⟩
def aE.set(r:RelV x u):∀ {xs:List V}{us:List Value}(i:Nat),aE xs us->aE (xs.set i x) (us.set i u)
 | _,_,_,.nil=>.nil
 | _,_,0,.cons _ t=>.cons r t
 | _,_,i+1,.cons q t=>.cons q (aE.set r i t)
def aE.append:∀ {xs ys:List V}{us ws:List Value},aE xs us->aE ys ws->aE (xs++ys) (us++ws)
 | _,_,_,_,.nil,s=>s
 | _,_,_,_,.cons r t,s=>.cons r (aE.append t s)
def aE.take:∀ {xs:List V}{us:List Value}(n:Nat),aE xs us->aE (xs.take n) (us.take n)
 | _,_,0,_=>.nil
 | _,_,_+1,.nil=>.nil
 | _,_,n+1,.cons r t=>.cons r (aE.take n t)
def aE.drop:∀ {xs:List V}{us:List Value}(n:Nat),aE xs us->aE (xs.drop n) (us.drop n)
 | _,_,0,r=>r
 | _,_,_+1,.nil=>.nil
 | _,_,n+1,.cons _ t=>aE.drop n t
def NC:Option V->Option Value->Prop
 | some v,some u=>RelV v u
 | none,none=>True
 | _,_=>False
def KV:List (κ×V)->List (κ×Value)->Prop:=Paired λ(p:κ×V) (q:κ×Value)=>p.1=q.1/\RelV p.2 q.2
def kV:fj->V
 | .inl i=>.int i
 | .inr x=>.str x
inductive HO where
  | lst (xs:List V)
  | tup (xs:List V)
  | dK (kvs:List (fj×V))|dT (kvs:List (List fj×V))
  | set (S:Int->Bool) (n:Nat)
  | ins (C dx:Addr) (fs:List (Str×V))
  | own (x:Addr)
  | xd (fs:List (Str×V))
  | met (f x:Addr)
  | rng (lo hi:Int)
  | frz (o:Obj) (u:HO)
  | tab (q:Str)
 | cod (q:Str)
  | ext (φ:Heap->Prop)
abbrev Hp:=Addr->Option HO
def upd(H:Hp)(a:Addr)(o:HO):Hp:=λb=>if b=a then some o else H b
def aD:upd H a o a=some o:=by unfold upd;rw[yI rfl]
def aC(h:b≠a):upd H a o b=H b:=by unfold upd;rw[yK h]
def aK{H:Hp}{a b:Addr}{o:HO}(h:H a=some o)(h':H b=none):a≠b:=by
 intro e;subst e;rw[h] at h';cases h'
def mE(h:Heap)(a:Addr)(its:Array Value):Prop:=IsTup h a its/\∃o,h.get? a=some o/\o.dict=none
def mE.new(h:Heap)(its:Array Value):mE (h.push { cls:=.type "tuple",data:=.seq its }) h.objs.size its:=⟨IsTup.new _ _,_,zV _ rfl,rfl⟩
section
variable (P:Program) (w:World)
def cL(H:Hp)(h:Heap)(a:Addr):HO->Prop
 | .lst xs=>xs.length<=sizeLine/\∃ (its:List Value) (n:Nat),aE xs its/\h.get? a=some { cls:=.type "list",data:=.seq its.toArray n }
 | .tup xs=>xs.length<=sizeLine/\∃its:List Value,aE xs its/\mE h a its.toArray
 | .dK kvs=>kvs.length<=sizeLine/\(a == sysModules)=false/\∃vs,KV kvs vs/\h.DictOf (gS P w) a vs
 | .dT kvs=>kvs.length<=sizeLine/\(a == sysModules)=false/\∃xs:List (List fj×Addr×Value),
   Paired (λ(p:List fj×V) (q:List fj×Addr×Value)=>p.1=q.1/\H q.2.1=some (.tup (p.1.map kV))/\RelV p.2 q.2.2) kvs xs /\
   ∃o es ep,h.get? a=some o/\o.ExactDict/\o.data=.dict es ep/\es.toList=xs.map (entryOfKey (tupleKind (gS P w)))/\(xs.map (·.1)).Nodup
 | .set S n=>h.SetOf (intKind P w) a S n
 | .ins C dx fs=>H dx=some (.own a)/\fs.length<=1000/\dx≠a/\h.get? a=some (W.instObj C dx) /\
   ∃mA,h.Ns1 dx mA/\(∀f,NC (fs.lookup f) (mA f))/\PySem.Within mA (fs.map (·.1))
 | .own _=>∃o,h.get? a=some o
 | .xd fs=>∃mA,h.Ns1 a mA/\∀f,NC (fs.lookup f) (mA f)
 | .rng lo hi=>∃t u v,h.get? a=some { cls:=.type "range",data:=.fields #[.int lo t,.int hi u,.int 1 v] }
 | .frz o u=>h.get? a=some o/\cL H h a u
 | .tab q=>∃ps:Array Value,h.get? a=some { cls:=.none,data:=.fields ps }/\TriplesOk ps.toList/\∀pos v,codeAmong pos ps.toList=some v->∃c,v=.ref c/\H c=some (.cod q)
 | .cod q=>h.CodeRec (.ref a) q
 | .met f x=>h.get? a=some (W.methodObj (.ref f) (.ref x))
 | .ext φ=>φ h/\(∃o,h.get? a=some o)/\∀h1 h2:Heap,φ h1->(∀o,h1.get? a=some o->h2.get? a=some o)->φ h2
def lK(H:Hp)(h:Heap):Prop:=∀a o,H a=some o->cL P w H h a o
end
def cL.lt(x:cL P w H h a o):a < h.objs.size:=by
 cases o with
 | lst xs=>let⟨_,_,_,_,e⟩:=x;exact zW e
 | tup xs=>let⟨_,_,_,p⟩:=x;exact p.1.lt
 | dK kvs=>let⟨_,_,_,_,o,_,_,e,_⟩:=x;exact zW e
 | dT kvs=>let⟨_,_,_,_,o,_,_,e,_⟩:=x;exact zW e
 | set S n=>let⟨o,_,_,_,e,_⟩:=x;exact zW e
 | ins C dx fs=>let⟨_,_,_,e,_⟩:=x;exact zW e
 | own y=>let⟨_,e⟩:=x;exact zW e
 | xd fs=>let⟨_,⟨_,_,_,e,_⟩,_⟩:=x;exact zW e
 | rng lo hi=>let⟨_,_,_,e⟩:=x;exact zW e
 | frz ob u=>let⟨e,_⟩:=x;exact zW e
 | tab q=>let⟨_,e,_⟩:=x;exact zW e
 | cod q=>let⟨_,_,_,_,e0,e,_⟩:=x;cases e0;exact zW e
 | met f y=>exact zW (show h.get? a=some _ from x)
 | ext φ=>let⟨_,⟨_,e⟩,_⟩:=x;exact zW e
def Paired.mapP:∀ {l₁:List α}{l₂:List β},Paired F l₁ l₂->(∀a b,F a b->G a b)->Paired G l₁ l₂
 | _,_,.nil,_=>.nil
 | _,_,.cons r t,f=>.cons (f _ _ r) (Paired.mapP t f)
def PH:HO->Prop
 | .tup _=>True
 | .cod _=>True
 | _=>False
def cL.stay(x:cL P w H h a o)(k:∀b u,(b=a\/H b=some (.own a))->h.get? b=some u->h'.get? b=some u)
  (ho:∀b,H b=some (.own a)->H' b=some (.own a)) (ht:∀b u,H b=some u->PH u->H' b=some u):cL P w H' h' a o:=by
 induction o with
 | lst xs=>let⟨z,its,n,r,e⟩:=x;exact⟨z,its,n,r,k _ _ (.inl rfl) e⟩
 | tup xs=>let⟨z,its,r,⟨ob,e,c⟩,o2,e2,d2⟩:=x;exact⟨z,its,r,⟨ob,k _ _ (.inl rfl) e,c⟩,o2,k _ _ (.inl rfl) e2,d2⟩
 | dK kvs=>let⟨z,y,vs,r,ob,es,ep,e,c⟩:=x;exact⟨z,y,vs,r,ob,es,ep,k _ _ (.inl rfl) e,c⟩
 | dT kvs =>
  let⟨z,y,xs,r,ob,es,ep,e,c⟩:=x;exact⟨z,y,xs,Paired.mapP r λp q z=>⟨z.1,ht _ _ z.2.1 trivial,z.2.2⟩,ob,es,ep,k _ _ (.inl rfl) e,c⟩
 | set S n=>let⟨ob,es,ep,t,e,c⟩:=x;exact⟨ob,es,ep,t,k _ _ (.inl rfl) e,c⟩
 | ins C dx fs =>
  let⟨d,z,ne,e,mA,⟨od,es,ep,e2,c⟩,r⟩:=x;exact⟨ho _ d,z,ne,k _ _ (.inl rfl) e,mA,⟨od,es,ep,k _ _ (.inr d) e2,c⟩,r⟩
 | own y=>let⟨ob,e⟩:=x;exact⟨ob,k _ _ (.inl rfl) e⟩
 | xd fs=>let⟨mA,⟨od,es,ep,e,c⟩,r⟩:=x;exact⟨mA,⟨od,es,ep,k _ _ (.inl rfl) e,c⟩,r⟩
 | rng lo hi=>let⟨t,u,v,e⟩:=x;exact⟨t,u,v,k _ _ (.inl rfl) e⟩
 | frz ob u ih=>let⟨e,q⟩:=x;exact⟨k _ _ (.inl rfl) e,ih q⟩
 | tab q=>let⟨ps,e,t,c⟩:=x;exact⟨ps,k a _ (.inl rfl) e,t,λpos v z=>let ⟨c0,z1,z2⟩:=c pos v z;⟨c0,z1,ht _ _ z2 trivial⟩⟩
 | cod q=>let⟨c,oc,vs,t,e0,e,r⟩:=x;cases e0;exact⟨_,oc,vs,t,rfl,k _ _ (.inl rfl) e,r⟩
 | met f y =>
  have e:h.get? a=some (W.methodObj (.ref f) (.ref y)):=x;show h'.get? a=some (W.methodObj (.ref f) (.ref y));exact k a _ (.inl rfl) e
 | ext φ=>let⟨p,⟨o,e⟩,st⟩:=x;exact⟨st _ _ p λo q=>k _ _ (.inl rfl) q,⟨o,k _ _ (.inl rfl) e⟩,st⟩
def lK.lt(x:lK P w H h)(e:H a=some o):a < h.objs.size:=(x a o e).lt
def lK.fresh(x:lK P w H h)(e:h.objs.size<=a):H a=none:=by
 cases q:H a with
 | none=>rfl
 | some u=>exact absurd (zP (x.lt q) e) (qB _)
def lK.kept(x:lK P w H h)(k:∀b u,h.get? b=some u->h'.get? b=some u):lK P w H h':=λa o e =>
 (x a o e).stay (λb u _ q=>k b u q) (λ_ q=>q) λ_ _ q _=>q
def lK.laid(x:lK P w H h)(k:∀b u,h.get? b=some u->h'.get? b=some u)(hp:h.objs.size<=a)(new:cL P w (upd H a o) h' a o):lK P w (upd H a o) h':=λb u e=>by
 have hn:=x.fresh hp;by_cases hb:b=a
 ·subst hb;rw[aD] at e;cases e;exact new
 ·rw[aC hb] at e;exact (x b u e).stay (λc v _ q=>k c v q) (λc q=>by rw[aC (aK q hn)];exact q) λc xs q _=>by rw[aC (aK q hn)];exact q
def Rd(H:Hp)(a:Addr)(u:HO):Prop:=H a=some u\/∃o,H a=some (.frz o u)
def Rd.ok(r:Rd H a u)(x:lK P w H h):cL P w H h a u:=by
 rcases r with r|⟨o,r⟩
 ·exact x a u r
 ·let⟨_,q⟩:=x a _ r;exact q
def MG:Option HO->Prop
 | some (.lst _)=>True
 | some (.dK _)=>True
 | some (.dT _)=>True
 | some (.set _ _)=>True
 | some (.ins _ _ _)=>True
 | some (.ext _)=>True
 | _=>False
def lK.write(ok:lK P w H h)(mu:MG (H x))(he:e=x\/H e=some (.own x))(k:∀b u,b≠e->h.get? b=some u->h'.get? b=some u)(heo:∃u,h'.get? e=some u)
  (new:cL P w (upd H x o') h' x o'):lK P w (upd H x o') h':=λb u q=>by
 have nown:∀c y,H c=some (.own y)->c≠x:=λc y r z=>by subst z;rw[r] at mu;exact mu
 have ntup:∀c u,H c=some u->PH u->c≠x:=λc u r hr z=>by subst z;rw[r] at mu;cases u<;>first|exact mu|exact hr
 by_cases hb:b=x
 ·subst hb;rw[aD] at q;cases q;exact new
 ·rw[aC hb] at q;by_cases hbe:b=e
  ·have q':H b=some (.own x):=by
    rcases he with z|z
    ·exact absurd (hbe.trans z) hb
    ·rw[hbe];exact z
   rw[q] at q';cases q';let⟨v,hv⟩:=heo;exact⟨v,by rw[hbe];exact hv⟩
  ·refine (ok b u q).stay (λc v hc r=>k c v ?_ r) (λc r=>by rw[aC (nown c b r)];exact r) λc xs r hr=>by rw[aC (ntup c xs r hr)];exact r
   rcases hc with rfl|hc
   ·exact hbe
   ·rintro rfl;rcases he with z|z
    ·exact nown c b hc z
    ·rw[hc] at z;cases z;exact hb rfl
def NS:HO->Prop
 | .tab _=>True
 | .cod _=>True
 | _=>False
def NS.not_mut(h:NS u):¬ MG (some u):=by cases u<;>first|exactλz=>z|exact h.elim
structure IZ(H H':Hp)(h h':Heap):Prop where
 st:∀b u,H b=some u->NS u->H' b=some u
 gr:∀b q ps,H b=some (.tab q)->h.get? b=some { cls:=.none,data:=.fields ps }->∃more:Array Value,h'.get? b=some { cls:=.none,data:=.fields (ps++more) }
def IZ.kept(k:∀b u,(∃q,H b=some (.tab q))->h.get? b=some u->h'.get? b=some u)(st:∀b u,H b=some u->NS u->H' b=some u):IZ H H' h h' :=
 ⟨st,λb q ps e z=>⟨#[],by rw[Array.append_empty];exact k b _ ⟨q,e⟩ z⟩⟩
def IZ.trans(a:IZ H H1 h h1)(b:IZ H1 H2 h1 h2):IZ H H2 h h2 :=
 ⟨λc u q t=>b.st c u (a.st c u q t) t,λc q ps e z=>by
  let⟨m1,z1⟩:=a.gr c q ps e z;let⟨m2,z2⟩:=b.gr c q _ (a.st c _ e trivial) z1;exact⟨m1++m2,by rw[z2,Array.append_assoc]⟩⟩
structure Un(fs ex:List Addr)(H H':Hp)(h h':Heap):Prop where
 keep:∀b o,h.get? b=some o->H b=none->b∉fs->b∉ex->h'.get? b=some o
 slot:∀b o,h.get? b=some o->H b=none->b∈fs->b∉ex->∃sl,h'.get? b=some { o with slots:=sl }
 free:∀b o,h.get? b=some o->H b=none->b∉ex->H' b=none
 there:∀b o,h.get? b=some o->b∉ex->∃o',h'.get? b=some o'
 tups:∀b xs,H b=some (.tup xs)->H' b=some (.tup xs)
 frzs:∀b o u,H b=some (.frz o u)->H' b=some (.frz o u)
 tbls:IZ H H' h h'
def Un.any(u:Un fs ex H H1 h h1)(q:h.get? b=some ob)(n:H b=none)(hx:b∉ex):∃sl,h1.get? b=some { ob with slots:=sl }:=by
 by_cases hb:b∈fs
 ·exact u.slot b ob q n hb hx
 ·exact⟨ob.slots,u.keep b ob q n hb hx⟩
def Un.kept(k:∀b u,h.get? b=some u->h'.get? b=some u):Un fs ex H H h h' :=
 ⟨λb ob q _ _ _=>k b ob q,λb ob q _ _ _=>⟨ob.slots,k b ob q⟩,λ_ _ _ n _=>n,λb ob q _=>⟨ob,k b ob q⟩,λ_ _ q=>q,λ_ _ _ q=>q,.kept (λb u _ e=>k b u e) λ_ _ e _=>e⟩
def Un.refl:Un fs ex H H h h:=Un.kept λ_ _ q=>q
def Un.laid(k:∀b u,h.get? b=some u->h'.get? b=some u)(hp:h.objs.size<=a)(hn:H a=none):Un fs ex H (upd H a o) h h' where
 keep:=λb u q _ _ _=>k b u q
 slot:=λb u q _ _ _=>⟨u.slots,k b u q⟩
 free:=λb u q n _=>by rw[aC (yO (zP (zW q) hp))];exact n
 there:=λb u q _=>⟨u,k b u q⟩
 tups:=λb xs q=>by rw[aC (aK q hn)];exact q
 frzs:=λb u xs q=>by rw[aC (aK q hn)];exact q
 tbls:=.kept (λb u _ e=>k b u e) λb u q _=>by rw[aC (aK q hn)];exact q
def Un.write(mu:MG (H x))(he:e=x\/H e=some (.own x))(k:∀b u,b≠e->h.get? b=some u->h'.get? b=some u)(heo:∃u,h'.get? e=some u):Un fs ex H (upd H x o) h h':=by
 have hx:∀b,H b=none->b≠x:=λb n z=>by subst z;rw[n] at mu;exact mu
 have hb:∀b,H b=none->b≠e:=λb n z=>by
  subst z;rcases he with r|r
  ·exact hx b n r
  ·rw[n] at r;cases r
 have hm:∀b u,H b=some u->¬ MG (some u)->b≠x:=λb u q nm z=>by subst z;rw[q] at mu;exact nm mu
 refine⟨λb u q n _ _=>k b u (hb b n) q,λb u q n _ _=>⟨u.slots,k b u (hb b n) q⟩,λb u q n _=>by rw[aC (hx b n)];exact n,λb u q _=>?_,
  λb xs q=>by rw[aC (hm b _ q λz=>z)];exact q,λb u xs q=>by rw[aC (hm b _ q λz=>z)];exact q,.kept (λb u z e=>k b u (λr=>by subst r;rcases he with r|r<;>first|(subst r;rcases z with ⟨q,z⟩;rw[z] at mu;exact mu)|(rcases z with ⟨q,z⟩;rw[z] at r;cases r)) e) λb u q nm=>by rw[aC (hm b _ q (nm.not_mut))];exact q⟩
 by_cases hbe:b=e
 ·subst hbe;exact heo
 ·exact⟨u,k b u hbe q⟩
def FJ(h:Heap)(H:Hp):List Addr:=(List.range h.objs.size).filter λa=>(H a).isSome
def rR(h:Heap)(H:Hp):Heap:=W.hideAll h (FJ h H)
def Am(h:Heap)(H:Hp):(rR h H).objs.size=h.objs.size:=W.hideAll_size _ _
def DK(e:h.get? b=some o)(n:H b=none):(rR h H).get? b=some o :=
 W.hideAll_get _ e λhm=>by
  have q:(H b).isSome=true:=(List.mem_filter.mp hm).2;rw[n] at q;simp at q
def Iz(e:(rR h H).get? b=some o):h.get? b=some o/\H b=none:=by
 have e':h.get? b=some o:=W.of_hideAll (FJ h H) e;refine⟨e',?_⟩;cases q:H b with
 | none=>rfl
 | some x =>
  have hm:b∈FJ h H:=List.mem_filter.mpr ⟨List.mem_range.mpr (zW e'),by simp[q]⟩;have z:(rR h H).get? b=none:=W.hideAll_none (FJ h H) hm;rw[z] at e;cases e
def OH(mg:Str->Option Value)(base:Heap):Prop:=∃bm o,mg "__builtins__"=some (.ref bm)/\bm≠builtinsNs/\bm≠mainGlobals/\base.get? bm=some o/\o.cls=.type "module"/\o.dict=some builtinsNs/\o.data=.plain
structure Mod(K:W.Frag)(mg:Str->Option Value)(base:Heap):Prop where
 kin:K.In base
 glob:base.Ns mainGlobals mg
 blt:∃mb,base.Ns builtinsNs mb/\∀x:Str,x≠"__name__"->mb x=bootBuiltins x
 nolimit:base.NoLimit
 bmd:OH mg base
structure Cx where
 prog:Program
 w:World
 K:W.Frag
 mg:Str->Option Value
 base:Heap
 A:Around
 N:List Str
 s₀:Shared
 H₀:Hp
 env:Env
 outer:List Env
 stack:List Env
 ex:List Addr
 fn:Str->Bool
 calm:Bool
 pn:List (Addr×Obj)
 xe:Value->Shared->Prop
def fP(l:List Env):List Addr:=l.filterMap (·.frame)
abbrev Cx.fs(X:Cx):List Addr:=fP X.outer
def FA(sc:Scope)(x:Str):Prop:=sc.names.lookup x=some .local \/ sc.names.lookup x=some .cell\/sc.names.lookup x=some .free
def Loc(sc:Scope)(x:Str):Prop:=sc.names.lookup x=some .local \/ sc.names.lookup x=some .cell
def Look(env:Env)(h:Heap)(m:Str->Option Value)(x:Str)(u:Value):Prop :=
 (env.kindOf x=some .local /\ m x=some u)\/((env.kindOf x=some .cell\/env.kindOf x=some .free)/\∃c,env.cells.lookup x=some c/\h.IsCell c (some u))
structure Cx.Ok(X:Cx):Prop where
 mod:Mod X.K X.mg X.base
 kind:X.env.scope.kind=.function
 glob:X.env.globals=mainGlobals
 blt:X.env.builtins=builtinsNs
 above:X.s₀.heap.objs.size<=X.env.locals
 inj:∀x y c,X.env.cells.lookup x=some c->X.env.cells.lookup y=some c->x=y
 has:∀x,(X.env.kindOf x=some .cell\/X.env.kindOf x=some .free)->∃c,X.env.cells.lookup x=some c
 cab:∀x c,X.fn x=true->X.env.cells.lookup x=some c->X.s₀.heap.objs.size<=c
 hd:X.calm=true->X.A.handled=none
 frames:X.A.frames=some X.stack
 stk:X.stack=X.outer\/(X.stack=X.env::X.outer/\X.env.frame=some X.env.locals)
 exf:∀b∈X.ex,b≠X.env.locals/\∀x c,X.env.cells.lookup x=some c->c≠b
 bs:∀b o,X.base.get? b=some o->X.s₀.heap.get? b=some o/\X.H₀ b=none
 bsz:X.base.objs.size<=X.s₀.heap.objs.size
 noex:∀b o,X.base.get? b=some o->b∉X.ex
 exfs:∀b∈X.ex,b∉X.fs
 funs:X.s₀.heap.FunFrames X.base X.outer
 frf:∀b∈X.fs,X.H₀ b=none
structure Inv(X:Cx)(pins:List (Addr×Obj))(σ:List (Option V))(H:Hp)(s:Shared):Prop where
 ok:X.Ok
 os:s.os=X.s₀.os
 bare:AllBare s.gens
 base:Un X.fs X.ex X.H₀ H X.s₀.heap s.heap
 loc:∃m,s.heap.Ns X.env.locals m/\∀ (i:Nat) (x:Str) (v:V),X.N[i]?=some x->σ[i]?=some (some v)->FA X.env.scope x->∃u,RelV v u/\Look X.env s.heap m x u
 cell:∀x c,X.env.cells.lookup x=some c->∃v,s.heap.IsCell c v
 free:H X.env.locals=none
 freeC:∀x c,X.env.cells.lookup x=some c->H c=none
 pin:∀p∈X.pn++pins,s.heap.get? p.1=some p.2/\H p.1=none/\p.1≠X.env.locals/\p.1∉X.fs/\∀v,p.2.data≠.cell v
 hok:lK X.prog X.w H s.heap
 len:σ.length=X.N.length
def Cx.Ok.nofr{X:Cx}(ok:X.Ok)(e:X.base.get? b=some o):b∉X.fs:=λhb=>by
 have:=(ok.funs.mem hb).1;rw[e] at this;cases this
def Inv.bs{X:Cx}{s:Shared}(I:Inv X pins σ H s):∀b o,X.base.get? b=some o->s.heap.get? b=some o/\H b=none:=λb o e =>
 ⟨I.base.keep b o (I.ok.bs b o e).1 (I.ok.bs b o e).2 (I.ok.nofr e) (I.ok.noex b o e),I.base.free b o (I.ok.bs b o e).1 (I.ok.bs b o e).2 (I.ok.noex b o e)⟩
def Inv.bk(I:Inv X pins σ H s):∀b o,X.base.get? b=some o->s.heap.get? b=some o:=λb o e=>(I.bs b o e).1
def Inv.mod(I:Inv X pins σ H s):Mod X.K X.mg X.base:=I.ok.mod
def Inv.kIn(I:Inv X pins σ H s):X.K.In s.heap:=I.ok.mod.kin.keeps I.bk
def Inv.lt(I:Inv X pins σ H s):X.env.locals < s.heap.objs.size:=let ⟨_,hn,_⟩:=I.loc;hn.lt
def Inv.sz(I:Inv X pins σ H s):X.s₀.heap.objs.size<=s.heap.objs.size:=yB I.ok.above (jO I.lt)
def Inv.nofs(I:Inv X pins σ H s)(h:s.heap.objs.size<=a):a∉X.fs:=λhb=>by
 let⟨_,o,ho,_⟩:=I.ok.funs.mem hb;exact absurd (zP (zW ho) (yB I.sz h)) (qB _)
def Inv.cne(I:Inv X pins σ H s):∀x c,X.env.cells.lookup x=some c->c≠X.env.locals:=λx c e z=>by
 let⟨v,o,ho,hd⟩:=I.cell x c e;let⟨m,⟨o',es,ep,ho',hd',_⟩,_⟩:=I.loc;rw[z,ho'] at ho;cases ho;rw[hd'] at hd;cases hd
def Inv.funs(I:Inv X pins σ H s):s.heap.FunFrames X.base X.outer:=by
 have all:∀ (l:List Env),(∀b∈fP l,b∈X.fs)->X.s₀.heap.FunFrames X.base l->s.heap.FunFrames X.base l:=by
  intro l
  induction l with
  | nil=>intro _ _;trivial
  | cons env r ih =>
   intro hs hl;let⟨hk,⟨L,o,hf,hn,ho,hd⟩,hr⟩:=hl;have hL:L∈X.fs:=hs L (by unfold fP;rw[jB,hf];exact zE);let⟨sl,e⟩:=I.base.slot L o ho (I.ok.frf L hL) hL λz=>I.ok.exfs L z hL;exact⟨hk,⟨L,_,hf,hn,e,hd⟩,ih (λb hb=>hs b (by unfold fP;rw[jB,hf];exact zC _ hb)) hr⟩
 exact all X.outer (λ_ hb=>hb) I.ok.funs
def Inv.stack(I:Inv X pins σ H s):s.heap.FunFrames X.base X.stack:=by
 rcases I.ok.stk with e|⟨e,hf⟩
 ·rw[e];exact I.funs
 ·rw[e];let⟨m,hn,_⟩:=I.loc;refine .cons (by rw[I.ok.kind];decide) hf hn ?_ I.funs;exact Heap.get?_none_of_le (yB I.ok.bsz I.ok.above)
def Inv.stkSub(I:Inv X pins σ H s):∀b∈fP X.stack,b∈X.env.locals::X.fs:=λb hb=>by
 rcases I.ok.stk with e|⟨e,hf⟩
 ·rw[e] at hb;exact zC _ hb
 ·rw[e] at hb;unfold fP at hb;rw[jB,hf] at hb;exact hb
def Inv.stkFree(I:Inv X pins σ H s):∀b∈fP X.stack,H b=none:=λb hb=>by
 rcases List.mem_cons.mp (I.stkSub b hb) with e|hb
 ·rw[e];exact I.free
 ·let⟨_,o,ho,_⟩:=I.ok.funs.mem hb;exact I.base.free b o ho (I.ok.frf b hb) λz=>I.ok.exfs b z hb
def Inv.step{g':Array GenState}{t':Nat}{d':Drawn}{ch:List Addr}(I:Inv X pins σ H s)
  (hch:∀b∈ch,(b∈X.ex\/X.s₀.heap.objs.size<=b)/\b≠X.env.locals/\(∀x c,X.env.cells.lookup x=some c->c≠b)/\∀p∈X.pn++pins,p.1≠b)
  (keep:∀b o,b≠X.env.locals->b∉X.fs->b∉ch->s.heap.get? b=some o->H b=none->h'.get? b=some o)
  (slot:∀b o,b≠X.env.locals->b∈X.fs->b∉ch->s.heap.get? b=some o->H b=none->∃sl,h'.get? b=some { o with slots:=sl }) (free:∀b o,b∉ch->s.heap.get? b=some o->H b=none->H' b=none)
  (there:∀b o,b∉ch->s.heap.get? b=some o->∃o',h'.get? b=some o')
  (tups:∀b xs,H b=some (.tup xs)->H' b=some (.tup xs)) (frzs:∀b o u,H b=some (.frz o u)->H' b=some (.frz o u)) (tbls:IZ H H' s.heap h')
  (ns:∀m,s.heap.Ns X.env.locals m->h'.Ns X.env.locals m) (hok:lK X.prog X.w H' h') (hg:AllBare g') :
  Inv X pins σ H' { s with heap:=h',gens:=g',drawn:=d',toks:=t' }:=by
 have neL:∀b o,X.s₀.heap.get? b=some o->b≠X.env.locals:=λb o e=>yO (zP (zW e) I.ok.above);have neC:∀b o,X.s₀.heap.get? b=some o->b∉X.ex->b∉ch:=λb o e hx hb=>by
  rcases (hch b hb).1 with z|z
  ·exact hx z
  ·exact absurd (zP (zW e) z) (qB _)
 have cellK:∀x c,X.env.cells.lookup x=some c->∀v,s.heap.IsCell c v->h'.IsCell c v:=λx c e v ⟨o,ho,hd⟩=>by
  have nch:c∉ch:=λz=>(hch c z).2.2.1 x c e rfl;by_cases hc:c∈X.fs
  ·let⟨sl,q⟩:=slot c o (I.cne x c e) hc nch ho (I.freeC x c e);exact⟨_,q,hd⟩
  ·exact⟨o,keep c o (I.cne x c e) hc nch ho (I.freeC x c e),hd⟩
 refine⟨I.ok,I.os,hg,⟨λb o e n hb hx=>?_,λb o e n hb hx=>?_,λb o e n hx=>?_,λb o e hx=>?_,λb xs e=>tups b xs (I.base.tups b xs e),λb o xs e=>frzs b o xs (I.base.frzs b o xs e),I.base.tbls.trans tbls⟩,?_,λx c e=>?_,?_,λx c e=>?_,λp hp=>?_,hok,I.len⟩
 ·exact keep b o (neL b o e) hb (neC b o e hx) (I.base.keep b o e n hb hx) (I.base.free b o e n hx)
 ·let⟨sl,e1⟩:=I.base.slot b o e n hb hx;let⟨sl',e2⟩:=slot b _ (neL b o e) hb (neC b o e hx) e1 (I.base.free b o e n hx);exact⟨sl',e2⟩
 ·let⟨o',e1⟩:=I.base.there b o e hx;exact free b o' (neC b o e hx) e1 (I.base.free b o e n hx)
 ·let⟨o',e1⟩:=I.base.there b o e hx;exact there b o' (neC b o e hx) e1
 ·let⟨m,hn,hl⟩:=I.loc;refine⟨m,ns m hn,λi x v e1 e2 e3=>?_⟩;let⟨u,r,l⟩:=hl i x v e1 e2 e3;refine⟨u,r,?_⟩;rcases l with l|⟨k,c,e,z⟩
  ·exact .inl l
  ·exact .inr ⟨k,c,e,cellK x c e _ z⟩
 ·let⟨v,z⟩:=I.cell x c e;exact⟨v,cellK x c e v z⟩
 ·let⟨m,⟨o,_,_,ho,_⟩,_⟩:=I.loc;exact free _ o (λz=>(hch _ z).2.1 rfl) ho I.free
 ·let⟨v,o,ho,hd⟩:=I.cell x c e;exact free c o (λz=>(hch c z).2.2.1 x c e rfl) ho (I.freeC x c e)
 ·let⟨e,n,ne,nf,d⟩:=I.pin p hp;have nch:p.1∉ch:=λz=>(hch p.1 z).2.2.2 p hp rfl;exact⟨keep p.1 p.2 ne nf nch e n,free p.1 p.2 nch e n,ne,nf,d⟩
def Inv.un{t':Nat}(I:Inv X pins σ H s)(u:Un X.fs [] H H' s.heap h')(hok:lK X.prog X.w H' h'):Inv X pins σ H' { s with heap:=h',toks:=t' }:=by
 let⟨m,⟨o,es,ep,ho,r⟩,_⟩:=id I.loc;let⟨sl,hL⟩:=u.any ho I.free (by simp);exact I.step (g':=s.gens) (d':=s.drawn) (ch:=[]) (λ_ z=>nomatch z) (λb o _ hb _ e n=>u.keep b o e n hb (by simp)) (λb o _ hb _ e n=>u.slot b o e n hb (by simp)) (λb o _ e n=>u.free b o e n (by simp)) (λb o _ e=>u.there b o e (by simp)) u.tups u.frzs u.tbls (λm' hm=>by
  let⟨o',es',ep',ho',r'⟩:=hm;rw[ho] at ho';cases ho';exact⟨_,es',ep',hL,r'⟩) hok I.bare
def Inv.call{t':Nat}{d':Drawn}{ch:List Addr}(I:Inv X pins σ H s)(u:Un (fP X.stack) ch H H' s.heap h')(hok:lK X.prog X.w H' h')(hg:AllBare g')
  (hch:∀b∈ch,(b∈X.ex\/X.s₀.heap.objs.size<=b)/\b≠X.env.locals/\(∀x c,X.env.cells.lookup x=some c->c≠b)/\∀p∈X.pn++pins,p.1≠b) :
  Inv X pins σ H' { s with heap:=h',gens:=g',drawn:=d',toks:=t' }:=by
 let⟨m,⟨o,es,ep,ho,r⟩,_⟩:=id I.loc;let⟨sl,hL⟩:=u.any ho I.free λz=>(hch _ z).2.1 rfl;exact I.step (ch:=ch) hch (λb o hL hb hc e n=>u.keep b o e n (λz=>(List.mem_cons.mp (I.stkSub b z)).elim hL hb) hc) (λb o _ _ hc e n=>u.any e n hc) (λb o hc e n=>u.free b o e n hc) (λb o hc e=>u.there b o e hc) u.tups u.frzs u.tbls (λm' hm=>by
  let⟨o',es',ep',ho',r'⟩:=hm;rw[ho] at ho';cases ho';exact⟨_,es',ep',hL,r'⟩) hok hg
def Inv.turned{t':Nat}(I:Inv X pins σ H s)(k:∀b o,b≠it->s.heap.get? b=some o->h'.get? b=some o)(hn:H it=none)(hL:it≠X.env.locals)
  (h1:it∈X.ex\/X.s₀.heap.objs.size<=it) (h2:∀x c,X.env.cells.lookup x=some c->c≠it) (h3:∀p∈X.pn++pins,p.1≠it):Inv X pins σ H { s with heap:=h',toks:=t' }:=by
 have nit:∀b u,H b=some u->b≠it:=λb u e z=>by rw[z,hn] at e;cases e
 refine I.step (g':=s.gens) (d':=s.drawn) (ch:=[it]) (λb hb=>?_) (λb o _ _ hc e _=>k b o (λz=>hc (by simp[z])) e) (λb o _ _ hc e _=>⟨o.slots,k b o (λz=>hc (by simp[z])) e⟩) (λ_ _ _ _ n=>n)
  (λb o hc e=>⟨o,k b o (λz=>hc (by simp[z])) e⟩) (λ_ _ e=>e) (λ_ _ _ e=>e) (.kept (λb u z e=>k b u (λr=>by subst r;rcases z with ⟨q,z⟩;rw[hn] at z;cases z) e) λ_ _ e _=>e) (λm hm=>?_) (λb u e=>?_) I.bare
 ·have e:b=it:=by simpa using hb
  subst e;exact⟨h1,hL,h2,h3⟩
 ·let⟨o,es,ep,ho,r⟩:=hm;exact⟨o,es,ep,k _ o (jI hL) ho,r⟩
 ·refine (I.hok b u e).stay (λc v hc q=>k c v ?_ q) (λ_ q=>q) λ_ _ q _=>q;rcases hc with z|z
  ·rw[z];exact nit b u e
  ·exact nit c _ z
def Inv.tok(I:Inv X pins σ H s)(t:Nat):Inv X pins σ H { s with toks:=t }:=I.un (h':=s.heap) (t':=t) Un.refl I.hok
def Inv.kept{t':Nat}(I:Inv X pins σ H s)(k:∀b u,s.heap.get? b=some u->h'.get? b=some u):Inv X pins σ H { s with heap:=h',toks:=t' }:=I.un (Un.kept k) (I.hok.kept k)
def Inv.laid{t':Nat}(I:Inv X pins σ H s)(k:∀b u,s.heap.get? b=some u->h'.get? b=some u)(hp:s.heap.objs.size<=a)(new:cL X.prog X.w (upd H a o) h' a o) :
  Inv X pins σ (upd H a o) { s with heap:=h',toks:=t' }:=I.un (Un.laid k hp (I.hok.fresh hp)) (I.hok.laid k hp new)
def Inv.write{t':Nat}(I:Inv X pins σ H s)(mu:MG (H x))(he:e=x\/H e=some (.own x))(k:∀b u,b≠e->s.heap.get? b=some u->h'.get? b=some u)(heo:∃u,h'.get? e=some u)
  (new:cL X.prog X.w (upd H x o) h' x o):Inv X pins σ (upd H x o) { s with heap:=h',toks:=t' }:=I.un (Un.write mu he k heo) (I.hok.write mu he k heo new)
def Inv.pins_of(I:Inv X pins σ H s)(h:∀p∈pins',s.heap.get? p.1=some p.2/\H p.1=none/\p.1≠X.env.locals/\p.1∉X.fs/\∀v,p.2.data≠.cell v):Inv X pins' σ H s :=
 ⟨I.ok,I.os,I.bare,I.base,I.loc,I.cell,I.free,I.freeC,λp hp=>(List.mem_append.mp hp).elim (λz=>I.pin p (qF _ z)) (h p),I.hok,I.len⟩
def tm{N:List Str}(hN:N.Nodup){i j:Nat}(a:N[i]?=some x)(b:N[j]?=some x):i=j:=by
 let⟨h1,e1⟩:=List.getElem?_eq_some_iff.mp a;let⟨h2,e2⟩:=List.getElem?_eq_some_iff.mp b;exact (List.getElem_inj hN).mp (e1.trans e2.symm)
def lU{M:Model}{A:Around}{E:Value->Shared->Prop}{i:Nat}{Q:Unit->Shared->Prop}(I:Inv X pins σ H s)(hN:X.N.Nodup)(hi:X.N[i]?=some x)(hx:Loc X.env.scope x)(r:RelV v u)
  (h:∀s',Inv X pins (σ.set i (some v)) H s'->(∃a,Heap.SameBut a s.heap s'.heap/\(a=X.env.locals\/X.env.cells.lookup x=some a))->Q () s') (hf:X.fn x=true\/X.env.scope.names.lookup x=some .local:=by first|exact .inl rfl|exact .inr rfl|assumption):wpAny M A (storeName X.env x u) Q E s:=by
 let⟨m,hn,hl⟩:=id I.loc;have hcls:(X.env.scope.kind == .class||(X.env.scope.kind == .module&&X.env.locals != X.env.globals))=false:=by rw[I.ok.kind];rfl
 have hiσ:i < σ.length:=by rw[I.len];exact (List.getElem?_eq_some_iff.mp hi).1
 have cne:=I.cne;have tracked:∀ {a:Addr}{h':Heap},(∃o,s.heap.get? a=some o/\H a=none)->Heap.SameBut a s.heap h'->lK X.prog X.w H h':=λ{a h'} ha hs b ob e=>by
  let⟨_,_,hfree⟩:=ha;refine (I.hok b ob e).stay (λc w' hc q=>(hs.2 c ?_).trans q) (λ_ q=>q) λ_ _ q _=>q;rintro rfl;rcases hc with rfl|hc
  ·rw[hfree] at e;cases e
  ·rw[hfree] at hc;cases hc
 rcases hx with hk|hk
 ·refine wpAny_storeName_local hk hn (λh' hn' hs=>?_) hcls;let⟨oL,_,_,hoL,_⟩:=id hn;refine h _ ⟨I.ok,I.os,I.bare,⟨λb o e n hb hx=>?_,λb o e n hb hx=>?_,I.base.free,λb o e hx=>?_,I.base.tups,I.base.frzs,I.base.tbls.trans (.kept (λb u z e=>(hs.2 b (λr=>by rcases z with ⟨q,z⟩;rw[r,I.free] at z;cases z)).trans e) λ_ _ e _=>e)⟩,⟨_,hn',λj y v' e1 e2 e3=>?_⟩,λy c e=>?_,I.free,I.freeC,λp hp=>?_,tracked ⟨oL,hoL,I.free⟩ hs,by simpa using I.len⟩ ⟨_,hs,.inl rfl⟩
  ·exact (hs.2 b (yO (zP (zW e) I.ok.above))).trans (I.base.keep b o e n hb hx)
  ·let⟨sl,e1⟩:=I.base.slot b o e n hb hx;exact⟨sl,(hs.2 b (yO (zP (zW e) I.ok.above))).trans e1⟩
  ·let⟨o',e1⟩:=I.base.there b o e hx;exact⟨o',(hs.2 b (yO (zP (zW e) I.ok.above))).trans e1⟩
  ·by_cases hj:j=i
   ·subst hj;rw[hi] at e1;cases e1;rw[List.getElem?_set_self hiσ] at e2;cases e2;exact⟨u,r,.inl ⟨hk,by simp⟩⟩
   ·rw[kG (jI hj)] at e2;let⟨u',r',q⟩:=hl j y v' e1 e2 e3;refine⟨u',r',?_⟩;rcases q with ⟨k,e⟩|⟨k,c,e,z⟩
    ·refine .inl ⟨k,?_⟩;have:y≠x:=λe=>hj (tm hN e1 (e ▸ hi));simp[this,e]
    ·exact .inr ⟨k,c,e,z.sameBut hs (cne y c e)⟩
  ·let⟨w',z⟩:=I.cell y c e;exact⟨w',z.sameBut hs (cne y c e)⟩
  ·let⟨e,n,ne,nf,d⟩:=I.pin p hp;exact⟨(hs.2 p.1 ne).trans e,n,ne,nf,d⟩
 ·have hfn:X.fn x=true:=by
   rcases hf with z|z
   ·exact z
   ·rw[z] at hk;cases hk
  let⟨c,hc⟩:=I.ok.has x (.inl hk);let⟨w',z⟩:=I.cell x c hc;refine wpAny_storeName_cell I.ok.kind hk hc z (λh' hc' hs=>?_);let⟨oc,hoc,hocd⟩:=id z;refine h { s with heap:=h' } ⟨I.ok,I.os,I.bare,⟨λb o e n hb hx=>?_,λb o e n hb hx=>?_,I.base.free,λb o e hx=>?_,I.base.tups,I.base.frzs,I.base.tbls.trans (.kept (λb u z e=>(hs.2 b (λr=>by rcases z with ⟨q,z⟩;rw[r,I.freeC x c hc] at z;cases z)).trans e) λ_ _ e _=>e)⟩,⟨m,hn.sameBut hs (jI (cne x c hc)),λj y v' e1 e2 e3=>?_⟩,λy c' e=>?_,I.free,I.freeC,λp hp=>?_,tracked ⟨oc,hoc,I.freeC x c hc⟩ hs,by simpa using I.len⟩ ⟨c,hs,.inr hc⟩
  ·exact (hs.2 b (yO (zP (zW e) (I.ok.cab x c hfn hc)))).trans (I.base.keep b o e n hb hx)
  ·let⟨sl,e1⟩:=I.base.slot b o e n hb hx;exact⟨sl,(hs.2 b (yO (zP (zW e) (I.ok.cab x c hfn hc)))).trans e1⟩
  ·let⟨o',e1⟩:=I.base.there b o e hx;exact⟨o',(hs.2 b (yO (zP (zW e) (I.ok.cab x c hfn hc)))).trans e1⟩
  ·by_cases hj:j=i
   ·subst hj;rw[hi] at e1;cases e1;rw[List.getElem?_set_self hiσ] at e2;cases e2;exact⟨u,r,.inr ⟨.inl hk,c,hc,hc'⟩⟩
   ·rw[kG (jI hj)] at e2;let⟨u',r',q⟩:=hl j y v' e1 e2 e3;refine⟨u',r',?_⟩;rcases q with q|⟨k,c',e,z'⟩
    ·exact .inl q
    ·refine .inr ⟨k,c',e,z'.sameBut hs ?_⟩;rintro rfl;exact hj (tm hN e1 (I.ok.inj _ _ _ e hc ▸ hi))
  ·by_cases hcc:c'=c
   ·subst hcc;exact⟨_,hc'⟩
   ·let⟨w2,z2⟩:=I.cell y c' e;exact⟨w2,z2.sameBut hs hcc⟩
  ·let⟨e,n,ne,nf,d⟩:=I.pin p hp;refine⟨(hs.2 p.1 ?_).trans e,n,ne,nf,d⟩;intro q;rw[q,hoc] at e;have q':oc=p.2:=xA e;exact d w' (by rw[<- q'];exact hocd)
def ui{M:Model}{A:Around}{E:Value->Shared->Prop}(I:Inv X pins σ H s)(hN:X.N.Nodup)(hi:X.N[i]?=some x)(hx:Loc X.env.scope x)(r:RelV v u)
  (h:∀s',Inv X pins (σ.set i (some v)) H s'->Q () s') (hf:X.fn x=true\/X.env.scope.names.lookup x=some .local:=by first|exact .inl rfl|exact .inr rfl|assumption):wpAny M A (storeName X.env x u) Q E s :=
 lU I hN hi hx r (λs' I' _=>h s' I') hf
def Inv.call'{ch:List Addr}(I:Inv X pins σ H s)(ho:s'.os=s.os)(u:Un (fP X.stack) ch H H' s.heap s'.heap)(hok:lK X.prog X.w H' s'.heap)(hg:AllBare s'.gens)
  (hch:∀b∈ch,(b∈X.ex\/X.s₀.heap.objs.size<=b)/\b≠X.env.locals/\(∀x c,X.env.cells.lookup x=some c->c≠b)/\∀p∈X.pn++pins,p.1≠b):Inv X pins σ H' s':=by
 let⟨h',g',d',t',o'⟩:=s';have e:o'=s.os:=ho;subst e;exact I.call (g':=g') (t':=t') (d':=d') u hok hg hch
abbrev XK:=Value->Option Addr->Hp->Prop
abbrev St:=List (Option V)
abbrev VK:=V->Hp->Prop
abbrev TE:=St->Hp->VK->Prop
abbrev TT:=St->Hp->(Bool->Hp->Prop)->Prop
abbrev TA:=St->Hp->(List V->Hp->Prop)->Prop
structure Ends where
 nx:St->Hp->Prop
 rt:VK
 bk:St->Hp->Prop:=λ_ _=>False
 ct:St->Hp->Prop:=λ_ _=>False
abbrev TS:=Ends->St->Hp->Prop
def EP(X:Cx)(pins:List (Addr×Obj))(σ:St)(Q:VK)(u:Value)(s':Shared):Prop:=∃v H',Inv X pins σ H' s'/\RelV v u/\Q v H'
def TP(X:Cx)(pins:List (Addr×Obj))(σ:St)(Q:Bool->Hp->Prop)(b:Bool)(s':Shared):Prop:=∃H',Inv X pins σ H' s'/\Q b H'
def AP(X:Cx)(pins:List (Addr×Obj))(σ:St)(Q:List V->Hp->Prop)(us:List Value)(s':Shared):Prop:=∃vs H',Inv X pins σ H' s'/\aE vs us/\Q vs H'
def SP(X:Cx)(pins:List (Addr×Obj))(D:Ends)(f:Flow)(s':Shared):Prop :=
 match f with
 | .next=>∃σ' H',Inv X pins σ' H' s'/\D.nx σ' H'
 | .brk=>∃σ' H',Inv X pins σ' H' s'/\D.bk σ' H'
 | .cont=>∃σ' H',Inv X pins σ' H' s'/\D.ct σ' H'
 | .ret u=>∃v σ' H',Inv X pins σ' H' s'/\RelV v u/\D.rt v H'
def PE(X:Cx)(e:Expr)(t:TE):Prop :=
 ∀ (pins:List (Addr×Obj)) (s:Shared) (σ:St) (H:Hp) (Q:VK),Inv X pins σ H s->t σ H Q->wpAny (model X.prog X.w) X.A (eval e X.env) (EP X pins σ Q) X.xe s
def PT(X:Cx)(e:Expr)(t:TT):Prop :=
 ∀ (pins:List (Addr×Obj)) (s:Shared) (σ:St) (H:Hp) (Q:Bool->Hp->Prop),Inv X pins σ H s->t σ H Q->wpAny (model X.prog X.w) X.A (isTrue e X.env (eval e X.env)) (TP X pins σ Q) X.xe s
def PW(X:Cx)(e:Expr)(t:TT):Prop :=
 ∀ (whole:Sem Value) (pins:List (Addr×Obj)) (s:Shared) (σ:St) (H:Hp) (Q:Bool->Hp->Prop),Inv X pins σ H s->t σ H Q->wpAny (model X.prog X.w) X.A (isTrue e X.env whole) (TP X pins σ Q) X.xe s
def PW.pt(h:PW X e t):PT X e t:=h _
def PA(X:Cx)(es:List Expr)(t:TA):Prop :=
 ∀ (pos:Pos) (pins:List (Addr×Obj)) (s:Shared) (σ:St) (H:Hp) (Q:List V->Hp->Prop),Inv X pins σ H s->t σ H Q->wpAny (model X.prog X.w) X.A (spliced (backTo pos (starEach es X.env))) (AP X pins σ Q) X.xe s
def PS(X:Cx)(st:Stmt)(t:TS):Prop :=
 ∀ (pins:List (Addr×Obj)) (s:Shared) (σ:St) (H:Hp) (D:Ends),Inv X pins σ H s->t D σ H->wpAny (model X.prog X.w) X.A (exec st X.env) (SP X pins D) X.xe s
def so(X:Cx)(st:List Stmt)(t:TS):Prop :=
 ∀ (pins:List (Addr×Obj)) (s:Shared) (σ:St) (H:Hp) (D:Ends),Inv X pins σ H s->t D σ H->wpAny (model X.prog X.w) X.A (execs st X.env) (SP X pins D) X.xe s
def bK(h:wpAny M A t Q E s)(hQ:∀a s,Q a s->Q' a s):wpAny M A t Q' E s:=yX h hQ λ_ _ x=>x
section
def OY(i:Nat):TE:=λσ H Q=>∃v,σ[i]?=some (some v)/\Q v H
def tC(v:V):TE:=λ_ H Q=>Q v H
def gQ(hN:X.N[i]?=some x)(hv:FA X.env.scope x)(hd:(x == ("__debug__":Str))=false:=by decide)(hcd:(x == ("__classdict__":Str))=false:=by decide):PE X (.Name x pos) (OY i):=by
 intro pins s σ H Q I h;let⟨v,e,h⟩:=h;let⟨m,hn,hl⟩:=I.loc;let⟨u,r,l⟩:=hl i x v hN e hv;have fin:EP X pins σ Q u s:=⟨v,H,I,r,h⟩
 rcases l with ⟨hk,hm⟩|⟨hk,c,hc,hcell⟩
 ·exact vQ (vL I.ok.kind hk hn hm fin) hd
 ·rcases hk with hk|hk
  ·exact vQ (wpAny_loadName_cell I.ok.kind hk hc hcell fin) hd
  ·exact vQ (wpAny_loadName_free I.ok.kind hk hc hcell fin hcd) hd
def wM{i j pos}:PE X (.Constant (.int i) j pos) (tC (.int i)):=λ_ _ _ H _ I h=>wpAny_Constant_int ⟨.int i,H,I.tok _,⟨_,rfl⟩,h⟩
def Eb{b j pos}:PE X (.Constant (.bool b) j pos) (tC (.bl b)):=λ_ _ _ H _ I h=>Constant_bool ⟨.bl b,H,I,rfl,h⟩
def Lb{j pos}:PE X (.Constant .none j pos) (tC .non):=λ_ _ _ H _ I h=>Constant_none ⟨.non,H,I,rfl,h⟩
def DU{x j pos}:PE X (.Constant (.str x) j pos) (tC (.str x)):=λ_ _ _ H _ I h=>vU ⟨.str x,H,I.tok _,⟨_,rfl⟩,h⟩
def Gl(X:Cx)(x:Str):Prop:=X.env.kindOf x=some .globalImplicit
def i7{E:Value->Shared->Prop}{pos:Pos}(I:Inv X pins σ H s)(hg:Gl X x)(hm:X.mg x=some u)(h:Q u s)
  (hd:(x == ("__debug__":Str))=false:=by decide):wpAny (model X.prog X.w) X.A (eval (.Name x pos) X.env) Q E s :=
 Calls.Name_function_global I.ok.kind hg (Calls.loadGlobal_global (by rw[I.ok.glob];exact I.mod.glob.keeps I.bk) hm h) hd
def gW{E:Value->Shared->Prop}{pos:Pos}(I:Inv X pins σ H s)(hg:Gl X x)(hm:X.mg x=none)(hv:bootBuiltins x=some u)(h:Q u s)
  (hn:x≠"__name__":=by decide) (hd:(x == ("__debug__":Str))=false:=by decide):wpAny (model X.prog X.w) X.A (eval (.Name x pos) X.env) Q E s:=by
 let⟨mb,h1,h2⟩:=I.mod.blt;exact Calls.Name_function_global I.ok.kind hg (Calls.loadGlobal_builtin (by rw[I.ok.glob];exact I.mod.glob.keeps I.bk) hm (by rw[I.ok.blt];exact h1.keeps I.bk) ((h2 x hn).trans hv) h) hd
def zp(hg:Gl X x)(hm:X.mg x=some u)(r:RelV v u)(hd:(x == ("__debug__":Str))=false:=by decide):PE X (.Name x pos) (tC v) :=
 λ_ _ _ H _ I h=>i7 I hg hm ⟨v,H,I,r,h⟩ hd
def GZ(hg:Gl X x)(hm:X.mg x=none)(hv:bootBuiltins x=some u)(r:RelV v u)(hn:x≠"__name__":=by decide)(hd:(x == ("__debug__":Str))=false:=by decide):PE X (.Name x pos) (tC v) :=
 λ_ _ _ H _ I h=>gW I hg hm hv ⟨v,H,I,r,h⟩ hn hd
def Fn(b:Expr)(h:op≠.In)(h2:op≠.NotIn):behindInMarks op b=false:=by
 have e1:(op == CmpOp.In)=false:=by cases op<;>first|rfl|exact absurd rfl h
 have e2:(op == CmpOp.NotIn)=false:=by cases op<;>first|rfl|exact absurd rfl h2
 cases b<;>simp[behindInMarks,e1,e2]
def tB(t:TE):TT:=λσ H Q=>t σ H λx H1=>∃c,x=.bl c/\Q c H1
def EO(h:PE X e t)(he:∀whole,isTrue e X.env whole=(do let v <- whole;standAt e.pos;holding [v] (truthy v)):=by intro _;rfl):PT X e (tB t):=by
 intro pins s σ H Q I hw;refine isTrue_plain (bK (h pins s σ H _ I hw) λv s1 ⟨x,H1,I1,r1,q1⟩=>?_) (he _);let⟨d,rfl,q⟩:=q1;cases r1;exact xS ⟨H1,I1,q⟩
variable {rest:List Expr}
def N0(t u:TT):TT:=λσ H Q=>t σ H λc H1=>if c=true then u σ H1 Q else Q false H1
def PV(t u:TT):TT:=λσ H Q=>t σ H λc H1=>if c=true then Q true H1 else u σ H1 Q
def O2(t:TT):TT:=λσ H Q=>t σ H λc H1=>Q (!c) H1
def Hr(ha:PT X a tA):PW X (.BoolOp .And [a] pos) tA:=by
 intro wh pins s σ H Q I h;refine isTrue_and (bK (ha pins s σ H Q I h) λc s1 e=>?_);cases c with
 | true=>exact isTrue_and_nil e
 | false=>exact e
def Dx(ha:PT X a tA):PW X (.BoolOp .Or [a] pos) tA:=by
 intro wh pins s σ H Q I h;refine isTrue_or (bK (ha pins s σ H Q I h) λc s1 e=>?_);cases c with
 | false=>exact isTrue_or_nil e
 | true=>exact e
def KD(ha:PT X a tA)(hb:PW X (.BoolOp .And (b::rest) pos) tB'):PW X (.BoolOp .And (a::b::rest) pos) (N0 tA tB'):=by
 intro wh pins s σ H Q I h;refine isTrue_and (bK (ha pins s σ H _ I h) λc s1 ⟨H1,I1,q1⟩=>?_);cases c with
 | true=>exact hb wh pins s1 σ H1 Q I1 q1
 | false=>exact⟨H1,I1,q1⟩
def Jd(ha:PT X a tA)(hb:PW X (.BoolOp .Or (b::rest) pos) tB'):PW X (.BoolOp .Or (a::b::rest) pos) (PV tA tB'):=by
 intro wh pins s σ H Q I h;refine isTrue_or (bK (ha pins s σ H _ I h) λc s1 ⟨H1,I1,q1⟩=>?_);cases c with
 | true=>exact⟨H1,I1,q1⟩
 | false=>exact hb wh pins s1 σ H1 Q I1 q1
def CI(ha:PT X a tA):PT X (.UnaryOp .Not a pos) (O2 tA):=by
 intro pins s σ H Q I h;exact isTrue_not (ha pins s σ H (λc H1=>Q (!c) H1) I h)
def MA(ta tb:TE):TE:=λσ H Q=>ta σ H λx H1=>∃c,x=.bl c/\if c=true then tb σ H1 Q else Q (.bl false) H1
def OO(ta tb:TE):TE:=λσ H Q=>ta σ H λx H1=>∃c,x=.bl c/\if c=true then Q (.bl true) H1 else tb σ H1 Q
def Ks{op}(h:PE X a t):PE X (.BoolOp op [a] pos) t:=λpins s σ H Q I hw=>BoolOp_one (h pins s σ H Q I hw)
def Jz(ha:PE X a ta)(hb:PE X (.BoolOp .And (b::rest) pos) tb):PE X (.BoolOp .And (a::b::rest) pos) (MA ta tb):=by
 intro pins s σ H Q I h;refine BoolOp_and (bK (ha pins s σ H _ I h) λv s1 ⟨x,H1,I1,r1,q1⟩=>?_);let⟨c,rfl,q1⟩:=q1;cases r1;refine xS ?_;cases c with
 | true=>exact hb pins s1 σ H1 Q I1 q1
 | false=>exact⟨.bl false,H1,I1,rfl,q1⟩
def Ef(ha:PE X a ta)(hb:PE X (.BoolOp .Or (b::rest) pos) tb):PE X (.BoolOp .Or (a::b::rest) pos) (OO ta tb):=by
 intro pins s σ H Q I h;refine BoolOp_or (bK (ha pins s σ H _ I h) λv s1 ⟨x,H1,I1,r1,q1⟩=>?_);let⟨c,rfl,q1⟩:=q1;cases r1;refine xS ?_;cases c with
 | false=>exact hb pins s1 σ H1 Q I1 q1
 | true=>exact⟨.bl true,H1,I1,rfl,q1⟩
def Qc(t:TT)(ta tb:TE):TE:=λσ H Q=>t σ H λc H1=>if c=true then ta σ H1 Q else tb σ H1 Q
def tV(hc:PT X c tA)(ha:PE X a ta)(hb:PE X b tb):PE X (.IfExp c a b pos) (Qc tA ta tb):=by
 intro pins s σ H Q I h;refine wpAny_IfExp (bK (hc pins s σ H _ I h) λd s1 ⟨H1,I1,q1⟩=>?_);cases d with
 | true=>exact ha pins s1 σ H1 Q I1 q1
 | false=>exact hb pins s1 σ H1 Q I1 q1
end
def fD(K:W.Frag)(H:Hp)(a:Addr)(xs:List V):Prop :=
 Rd H a (.lst xs) \/
  ∃ (o:Obj) (its:Array Value) (n:Nat),K.lookup a=some o/\o.cls=.type "list"/\o.dict=none/\o.data=.seq its n/\its.size<=sizeLine/\aE xs its.toList
def eZ(K:W.Frag)(H:Hp)(a:Addr)(xs:List V):Prop :=
 Rd H a (.tup xs) \/
  ∃ (o:Obj) (its:Array Value) (n:Nat),K.lookup a=some o/\o.cls=.type "tuple"/\o.dict=none/\o.data=.seq its n/\its.size<=sizeLine/\aE xs its.toList
def Pf:Value->Option V
 | .none=>some .non
 | .bool b=>some (.bl b)
 | .int i _=>some (.int i)
 | .str x _=>some (.str x)
 | .bytes b _=>some (.byt b)
 | .float b _=>some (.flt b)
 | .ref a=>some (.ref a)
 | .type n=>some (.ty n)
 | _=>none
def RelV.abs(r:RelV x u):Pf u=some x:=by
 cases x with
 | non=>cases r;rfl
 | bl _=>cases r;rfl
 | int _=>let⟨t,rfl⟩:=r;rfl
 | str _=>let⟨t,rfl⟩:=r;rfl
 | byt _=>let⟨t,rfl⟩:=r;rfl
 | flt _=>let⟨t,rfl⟩:=r;rfl
 | ref _=>cases r;rfl
 | ty _=>cases r;rfl
def RelV.inj(r:RelV x u)(q:RelV y u):x=y:=xA (r.abs.symm.trans q.abs)
def aE.inj:∀ {xs ys:List V}{us:List Value},aE xs us->aE ys us->xs=ys
 | _,_,_,.nil,.nil=>rfl
 | _,_,_,.cons r t,.cons r' t'=>by rw[r.inj r',aE.inj t t']
def fD.of{K:W.Frag}(h:H a=some (.lst xs)):fD K H a xs:=.inl (.inl h)
def Inv.list(I:Inv X pins σ H s)(h:fD X.K H a xs):∃its:List Value,aE xs its/\PlainL s.heap a its.toArray/\xs.length<=sizeLine:=by
 rcases h with h|⟨o,its,n,hk,hc,hd,hs,hz,r⟩
 ·let⟨z,its,n,r,e⟩:=h.ok I.hok;exact⟨its,r,⟨_,n,e,rfl,rfl,rfl⟩,z⟩
 ·refine⟨its.toList,r,⟨o,n,I.kIn a o hk,hc,hd,by simpa using hs⟩,?_⟩;have e:=r.length;simp?[vP] at e;lia
def Inv.tuple(I:Inv X pins σ H s)(h:eZ X.K H a xs):∃its:List Value,aE xs its/\IsTup s.heap a its.toArray/\xs.length<=sizeLine:=by
 rcases h with h|⟨o,its,n,hk,hc,_,hs,hz,r⟩
 ·let⟨z,its,r,p⟩:=h.ok I.hok;exact⟨its,r,p.1,z⟩
 ·refine⟨its.toList,r,⟨o,I.kIn a o hk,hc,n,by simpa using hs⟩,?_⟩;have e:=r.length;simp?[vP] at e;lia
def Inv.list_inj(I:Inv X pins σ H s)(h:fD X.K H a xs)(h':fD X.K H a ys):xs=ys:=by
 let⟨its,r,⟨o,n,e,_,_,d⟩,_⟩:=I.list h;let⟨its',r',⟨o',n',e',_,_,d'⟩,_⟩:=I.list h';rw[e] at e';cases e';rw[d] at d';injection d' with d1 _
 have:its=its':=by simpa using qX Array.toList d1
 subst this;exact r.inj r'
def Inv.tuple_inj(I:Inv X pins σ H s)(h:eZ X.K H a xs)(h':eZ X.K H a ys):xs=ys:=by
 let⟨its,r,⟨o,e,_,n,d⟩,_⟩:=I.tuple h;let⟨its',r',⟨o',e',_,n',d'⟩,_⟩:=I.tuple h';rw[e] at e';cases e';rw[d] at d';injection d' with d1 _
 have:its=its':=by simpa using qX Array.toList d1
 subst this;exact r.inj r'
abbrev Cx.wish(X:Cx)(E:Value->Shared->Prop):Cx:={ X with xe:=E }
abbrev Cx.nox(X:Cx):Cx:=X.wish λ_ _=>False
def Cx.Ok.wish{X:Cx}(ok:X.Ok)(E:Value->Shared->Prop):(X.wish E).Ok :=
 ⟨ok.mod,ok.kind,ok.glob,ok.blt,ok.above,ok.inj,ok.has,ok.cab,ok.hd,ok.frames,ok.stk,ok.exf,ok.bs,ok.bsz,ok.noex,ok.exfs,ok.funs,ok.frf⟩
def Cx.Ok.unwish{X:Cx}{E:Value->Shared->Prop}(ok:(X.wish E).Ok):X.Ok :=
 ⟨ok.mod,ok.kind,ok.glob,ok.blt,ok.above,ok.inj,ok.has,ok.cab,ok.hd,ok.frames,ok.stk,ok.exf,ok.bs,ok.bsz,ok.noex,ok.exfs,ok.funs,ok.frf⟩
def Inv.wish(I:Inv X pins σ H s)(E:Value->Shared->Prop):Inv (X.wish E) pins σ H s:=⟨I.ok.wish E,I.os,I.bare,I.base,I.loc,I.cell,I.free,I.freeC,I.pin,I.hok,I.len⟩
def Inv.unwish(I:Inv (X.wish E) pins σ H s):Inv X pins σ H s:=⟨I.ok.unwish,I.os,I.bare,I.base,I.loc,I.cell,I.free,I.freeC,I.pin,I.hok,I.len⟩
def SP.unwish{D:Ends}(h:SP (X.wish E) pins D f s'):SP X pins D f s':=by
 cases f with
 | next=>let⟨σ',H',I,q⟩:=h;exact⟨σ',H',I.unwish,q⟩
 | brk=>let⟨σ',H',I,q⟩:=h;exact⟨σ',H',I.unwish,q⟩
 | cont=>let⟨σ',H',I,q⟩:=h;exact⟨σ',H',I.unwish,q⟩
 | ret u=>let⟨v,σ',H',I,r,q⟩:=h;exact⟨v,σ',H',I.unwish,r,q⟩
def PT.nox(h:PT X.nox e t):PT X e t:=λpins s σ H Q I hw =>
 yX (h pins s σ H Q (I.wish _) hw) (λ_ _ ⟨H',I',q⟩=>⟨H',I'.unwish,q⟩) λ_ _ z=>False.elim z
def so.nox{st:List Stmt}(h:so X.nox st t):so X st t:=λpins s σ H D I hw =>
 yX (h pins s σ H D (I.wish _) hw) (λ_ _ q=>q.unwish) λ_ _ z=>False.elim z
section
variable {st:Stmt}{rest:List Stmt}
def De:TS:=λD σ H=>D.nx σ H
def Oc(t u:TS):TS:=λD σ H=>t { D with nx:=u D } σ H
def qy:so X [] De:=λ_ _ σ H _ I h=>vC ⟨σ,H,I,h⟩
def fY(h1:PS X st t)(h2:so X rest u):so X (st::rest) (Oc t u):=by
 intro pins s σ H D I h;refine kS (bK (h1 pins s σ H { D with nx:=u D } I h) λf s1 q=>?_);cases f with
 | next =>
  let⟨σ',H',I',q⟩:=q;exact h2 pins s1 σ' H' D I' q
 | ret v=>exact q
 | brk=>exact q
 | cont=>exact q
def Gf(h1:PS X st t):so X [st] t:=by
 intro pins s σ H D I h;refine kS (bK (h1 pins s σ H D I h) λf s1 q=>?_);cases f with
 | next=>exact vC q
 | ret v=>exact q
 | brk=>exact q
 | cont=>exact q
def Gm:PS X (.Pass pos) De:=λ_ _ σ H _ I h=>wpAny_Pass ⟨σ,H,I,h⟩
def Inv.quiet(I:Inv X pins σ H s):interactive X.env=false:=by simp[interactive,I.ok.kind]
def LA{x j pos pos'}:PS X (.Expr (.Constant (.str x) j pos) pos') De:=λ_ s σ H _ I h=>wpAny_Expr (vU (show SP X _ _ .next { s with toks:=s.toks+1 } from ⟨σ,H,I.tok _,h⟩)) I.quiet
def M4(te:TE):TS:=λD σ H=>te σ H λ_ H1=>D.nx σ H1
def kr(he:PE X e te)(hs:swapsWith e none pos.line X.env=pure false:=by rfl):PS X (.Expr e pos) (M4 te):=by
 intro pins s σ H D I h;exact wpAny_Expr_any (bK (he pins s σ H _ I h) λv s1 ⟨x,H1,I1,r1,q1⟩=>⟨σ,H1,I1,q1⟩) I.quiet hs
def Oz(te:TE):TS:=λD σ H=>te σ H D.rt
def u5(he:PE X e te):PS X (.Return (some e) pos) (Oz te):=by
 intro pins s σ H D I h;exact wpAny_Return_some (bK (he pins s σ H _ I h) λv s1 ⟨x,H1,I1,r1,q1⟩=>⟨x,σ,H1,I1,r1,q1⟩)
def O6(c:TT)(t u:TS):TS:=λD σ H=>c σ H λb H1=>if b=true then t D σ H1 else u D σ H1
def Fc(hc:PT X c tc)(ha:so X a t)(hb:so X b u):PS X (.If c a b pos) (O6 tc t u):=by
 intro pins s σ H D I h;refine wpAny_If (bK (hc pins s σ H _ I h) λd s1 ⟨H1,I1,q1⟩=>?_);cases d with
 | true=>exact ha pins s1 σ H1 D I1 q1
 | false=>exact hb pins s1 σ H1 D I1 q1
end
abbrev TG:=V->St->Hp->(St->Hp->Prop)->Prop
abbrev Nj:=List V->St->Hp->(St->Hp->Prop)->Prop
def PG(X:Cx)(target:Expr)(t:TG):Prop :=
 ∀ (pins:List (Addr×Obj)) (s:Shared) (σ:St) (H:Hp) (v:V) (u:Value) (Q:St->Hp->Prop),Inv X pins σ H s->RelV v u->t v σ H Q ->
  wpAny (model X.prog X.w) X.A (assign target X.env u) (λ_ s'=>∃σ' H',Inv X pins σ' H' s'/\Q σ' H') X.xe s
def NL(X:Cx)(ts:List Expr)(t:Nj):Prop :=
 ∀ (pins:List (Addr×Obj)) (s:Shared) (σ:St) (H:Hp) (vs:List V) (us:List Value) (Q:St->Hp->Prop),Inv X pins σ H s->aE vs us->t vs σ H Q ->
  wpAny (model X.prog X.w) X.A (assignInOrder ((assignEach ts X.env).map (·.2)) us) (λ_ s'=>∃σ' H',Inv X pins σ' H' s'/\Q σ' H') X.xe s
abbrev Ni:=V->V->V->Hp->(Hp->Prop)->Prop
def Lh(X:Cx)(t:Ni):Prop :=
 ∀ (pins:List (Addr×Obj)) (s:Shared) (σ:St) (H:Hp) (o i v:V) (ov iv u:Value) (Q:Hp->Prop),Inv X pins σ H s->RelV o ov->RelV i iv->RelV v u->t o i v H Q ->
  wpAny (model X.prog X.w) X.A (setItem ov iv u) (λ_ s'=>∃H',Inv X pins σ H' s'/\Q H') X.xe s
def td(i:Nat):TG:=λv σ H Q=>Q (σ.set i (some v)) H
def cI(hN:X.N.Nodup)(hi:X.N[i]?=some x)(hx:Loc X.env.scope x)(hf:X.fn x=true\/X.env.scope.names.lookup x=some .local:=by first|exact .inl rfl|exact .inr rfl|assumption):PG X (.Name x pos) (td i):=by
 intro pins s σ H v u Q I r h;exact wpAny_assign_Name (ui I hN hi hx r (λs' I'=>⟨_,H,I',h⟩) hf)
def Ol:Nj:=λvs σ H Q=>vs=[]/\Q σ H
def MR(t:TG)(u:Nj):Nj:=λvs σ H Q=>∃v r,vs=v::r/\t v σ H λσ' H'=>u r σ' H' Q
def mW:NL X [] Ol:=by
 intro pins s σ H vs us Q I r h;let⟨e,h⟩:=h;subst e;cases r;exact assignInOrder_nil ⟨σ,H,I,h⟩
def cE(h1:PG X e t)(h2:NL X es u)
  (hs:(assignEach (e::es) X.env).map (·.2)=assign e X.env::(assignEach es X.env).map (·.2):=by rfl):NL X (e::es) (MR t u):=by
 intro pins s σ H vs us Q I r h;let⟨v,vr,e1,h⟩:=h;subst e1;cases r with
 | cons r rr =>
  rw[hs];refine assignInOrder_cons (bK (h1 pins s σ H _ _ _ I r h) λ_ s1 ⟨σ1,H1,I1,q1⟩=>?_);exact h2 pins s1 σ1 H1 _ _ Q I1 rr q1
def OQ(K:W.Frag)(n:Nat)(t:Nj):TG:=λv σ H Q=>∃a xs,v=.ref a/\eZ K H a xs/\xs.length=n/\t xs σ H Q
def si{k:Nat}(hc:X.calm=true)(h:NL X es t)
  (hn:(assignEach es X.env).length=n:=by rfl) (hst:(assignEach es X.env).findIdx? (·.1)=none:=by rfl):PG X (.Tuple es k pos) (OQ X.K n t):=by
 intro pins s σ H v u Q I r hw;let⟨a,xs,e1,hq,hl,hw⟩:=hw;subst e1;cases r;let⟨its,rv,ht,hz⟩:=I.tuple hq;refine assign_Tuple_tuple (I.ok.hd hc) ht (by simp[hn,<- hl,rv.length]) hst λh' hx=>?_;have I1:Inv X pins σ H { s with heap:=h' }:=I.kept (t':=s.toks) λb o e=>hx b o (yO (zW e)) e;exact h pins _ σ H xs _ Q I1 (by simpa using rv) hw
def jw(to ti:TE)(t:Ni):TG:=λv σ H Q=>to σ H λo H1=>ti σ H1 λi H2=>t o i v H2 λH3=>Q σ H3
def BP(ho:PE X o to)(hi:PE X i ti)(hs:Lh X t)
  (ha:∀v,assign (.Subscript o i pos) X.env v=(do
   let ov <- holding [v] (eval o X.env)
   let iv <- holding [v,ov] (eval i X.env)
   standAt pos
   holding [v,ov,iv] (setItem ov iv v)
   release [v,ov,iv] []):=by intro _;rfl):PG X (.Subscript o i pos) (jw to ti t):=by
 intro pins s σ H v u Q I r h;rw[ha];refine zT (xU (bK (ho pins s σ H _ I h) λov s1 ⟨x,H1,I1,r1,q1⟩=>?_));refine zT (xU (bK (hi pins s1 σ H1 _ I1 q1) λiv s2 ⟨y,H2,I2,r2,q2⟩=>?_));refine zT (wpAny_standAt (zT (xU (bK (hs pins s2 σ H2 x y v ov iv u _ I2 r1 r2 r q2) λ_ s3 ⟨H3,I3,q3⟩=>?_))));exact wpAny_release ⟨σ,H3,I3,q3⟩
def CC(te:TE)(g:TG):TS:=λD σ H=>te σ H λx H1=>g x σ H1 D.nx
def Dv(he:PE X e te)(hg:PG X tg g)(hs:swapsWithSole [tg] e pos.line X.env=pure false:=by rfl)(hw:swappedStores [tg] e X.env=pure none:=by rfl)
  (h1:(assignEach [tg] X.env).map (·.2)=[assign tg X.env]:=by rfl):PS X (.Assign [tg] e pos) (CC te g):=by
 intro pins s σ H D I h;refine wpAny_Assign_stores (bK (he pins s σ H _ I h) λv s1 ⟨x,H1,I1,r1,q1⟩=>?_) hs hw;rw[h1];exact bK (hg pins s1 σ H1 x v _ I1 r1 q1) λ_ s2 q=>q
def lY(hN:X.N.Nodup)(hi:X.N[i]?=some x)(hx:Loc X.env.scope x)(he:PE X e te)(hs:swapsWith e (some (.Name x pos')) pos.line X.env=pure false:=by rfl)(hf:X.fn x=true\/X.env.scope.names.lookup x=some .local:=by first|exact .inl rfl|exact .inr rfl|assumption) :
  PS X (.Assign [.Name x pos'] e pos) (CC te (td i)):=by
 intro pins s σ H D I h;refine wpAny_Assign_Name (bK (he pins s σ H _ I h) λv s1 ⟨y,H1,I1,r1,q1⟩=>?_) hs;exact ui I1 hN hi hx r1 (λs2 I2=>⟨_,H1,I2,q1⟩) hf
def Kj(c:TT)(tb:TS):TS:=λD σ H=>∃W:Nat->St->Hp->Prop,(∃m,W m σ H)/\∀m σ H,W m σ H ->
 c σ H λb H1=>if b=true then ∃N:St->Hp->Prop,(∀σ' H',N σ' H'->∃m',m' < m/\W m' σ' H')/\tb { D with nx:=N,ct:=N,bk:=D.nx } σ H1 else D.nx σ H1
def E6(hp:PassesOwn (model X.prog X.w) X.A X.env X.xe)(hc:PT X c tc)(hb:so X body tb):PS X (.While c body [] pos) (Kj tc tb):=by
 intro pins s σ H D I h;let⟨W,⟨m0,w0⟩,turn⟩:=h;refine wpAny_While (codeAny_whileLoop (λn s'=>∃σ' H',Inv X pins σ' H' s'/\W n σ' H') ?_ m0 ⟨σ,H,I,w0⟩);rintro n s1 ⟨σ1,H1,I1,w1⟩;refine jF hp (bK (hc pins s1 σ1 H1 _ I1 (turn n σ1 H1 w1)) λb s2 ⟨H2,I2,q2⟩=>?_);cases b with
 | true =>
  let⟨N,hN,q2⟩:=q2;rw[yI rfl];refine jF hp (bK (hb pins s2 σ1 H2 _ I2 q2) λf s3 q3=>?_);cases f with
  | next =>
   let⟨σ3,H3,I3,n3⟩:=q3;let⟨m',hm,w3⟩:=hN σ3 H3 n3;exact⟨m',hm,σ3,H3,I3,w3⟩
  | cont =>
   let⟨σ3,H3,I3,n3⟩:=q3;let⟨m',hm,w3⟩:=hN σ3 H3 n3;exact⟨m',hm,σ3,H3,I3,w3⟩
  | brk=>exact q3
  | ret v=>exact q3
 | false =>
  rw[yK yW];exact vC ⟨σ1,H2,I2,q2⟩
structure It where
 go:Nat->Hp->Prop
 yld:Nat->Hp->V->Hp->Prop
 stop:Nat->Hp->Prop
def gZ(X:Cx)(pins:List (Addr×Obj))(H:Hp)(b:Addr):Prop :=
 H b=none/\b≠X.env.locals/\b∉X.fs/\(b∈X.ex\/X.s₀.heap.objs.size<=b)/\(∀x c,X.env.cells.lookup x=some c->c≠b)/\∀p∈X.pn++pins,p.1≠b
def Inv.fpOk(I:Inv X pins σ H s)(hb:s.heap.objs.size<=b)(hn:H' b=none):gZ X pins H' b:=by
 refine⟨hn,jD (zP I.lt hb),I.nofs hb,.inr (yB I.sz hb),λx c e z=>?_,λp hp z=>?_⟩
 ·let⟨v,q⟩:=I.cell x c e;exact absurd (zP q.lt (by rw[z];exact hb)) (qB _)
 ·exact absurd (zP (zW (I.pin p hp).1) (by rw[z];exact hb)) (qB _)
structure Turn(P:Program)(w:World)(K:W.Frag)(tg:Expr)(J:It)(fp:List Addr)(it:Addr)(tn:Nat->Heap->Prop):Prop where
 mem:it∈fp
 obj:∀i h,tn i h->∀b∈fp,∃o,h.get? b=some o/\∀v,o.data≠.cell v
 keep:∀i h h',tn i h->(∀b∈fp,∀o,h.get? b=some o->h'.get? b=some o)->tn i h'
 item:∀ (X:Cx),X.prog=P->X.w=w->X.K=K->X.calm=true->∀ (i:Nat) (pins:List (Addr×Obj)) (s:Shared) (σ:St) (H:Hp) (E:Value->Shared->Prop),Inv X pins σ H s->(∀b∈fp,gZ X pins H b)->tn i s.heap->J.go i H ->
  wpAny (model P w) X.A (pyNext (.ref it)) (λr s1=>∃u,r=some u /\
   wpAny (model P w) X.A (letOwnedTupleGo tg (.ref it) u) (λ_ s2=>∃x H',Inv X pins σ H' s2/\RelV x u/\J.yld i H x H'/\tn (i+1) s2.heap/\∀b∈fp,H' b=none) E s1) E s
 done:∀ (X:Cx),X.prog=P->X.w=w->X.K=K->X.calm=true->∀ (i:Nat) (pins:List (Addr×Obj)) (s:Shared) (σ:St) (H:Hp) (E:Value->Shared->Prop),Inv X pins σ H s->(∀b∈fp,gZ X pins H b)->tn i s.heap->J.stop i H ->
  wpAny (model P w) X.A (pyNext (.ref it)) (λr s1=>r=none/\Inv X pins σ H s1) E s
 self:∀ (A:Around) (i:Nat) (s:Shared) (Q:Value->Shared->Prop) (E:Value->Shared->Prop),tn i s.heap->Q (.ref it) s->wpAny (model P w) A (pyIter (.ref it)) Q E s
abbrev TI:=St->Hp->(It->Hp->Prop)->Prop
def Pi(X:Cx)(pins:List (Addr×Obj))(σ:St)(tg:Expr)(R:It->Hp->Prop)(itv:Value)(s2:Shared):Prop :=
 ∃ (it:Addr) (fp:List Addr) (tn:Nat->Heap->Prop) (J:It) (H':Hp),itv=.ref it/\Inv X pins σ H' s2/\Turn X.prog X.w X.K tg J fp it tn/\tn 0 s2.heap/\(∀b∈fp,gZ X pins H' b)/\R J H'
def PI(X:Cx)(tg iter:Expr)(wi:TI):Prop :=
 ∀ (pins:List (Addr×Obj)) (s:Shared) (σ:St) (H:Hp) (R:It->Hp->Prop),Inv X pins σ H s->wi σ H R ->
  wpAny (model X.prog X.w) X.A (eval iter X.env) (λv s1=>wpAny (model X.prog X.w) X.A (pyIter v) (Pi X pins σ tg R) X.xe s1) X.xe s
def Cg(ho:s.heap.get? it=some o)(hc:o.cls=.type n)(hd:o.data=.fields vs)
  (hn:["enumerate","zip","dict_itemiterator","dict_reverseitemiterator","odict_iterator","itertools.zip_longest","itertools.pairwise"].contains n=false) (hQ:Q () s):wpAny M A (letOwnedTupleGo tg (.ref it) u) Q E s:=by
 unfold letOwnedTupleGo;cases tg<;>first
  | exact zU hQ
  | (cases u<;>first
    | exact zU hQ
    | (refine zT (wpAny_load ho ?_)
       rw[hc,hd];show wpAny M A (if (["enumerate","zip","dict_itemiterator","dict_reverseitemiterator","odict_iterator","itertools.zip_longest","itertools.pairwise"].contains n&&vs[0]? == some (rawInt _))=true then _ else _) Q E s;rw[yK (by intro h;rw[hn,vK] at h;cases h)];exact zU hQ))
def N8(K:W.Frag)(a:Addr):It :=
 ⟨λi H=>∃xs x,fD K H a xs/\xs[i]?=some x,λi H x H'=>H'=H/\∀xs,fD K H a xs->xs[i]?=some x,λi H=>∃xs,fD K H a xs/\xs.length<=i⟩
def OK(K:W.Frag)(a:Addr):It :=
 ⟨λi H=>∃xs x,eZ K H a xs/\xs[i]?=some x,λi H x H'=>H'=H/\∀xs,eZ K H a xs->xs[i]?=some x,λi H=>∃xs,eZ K H a xs/\xs.length<=i⟩
def M1(lo:Int)(n:Nat):It:=⟨λi _=>i < n,λi H x H'=>H'=H/\x=.int (lo+i),λi _=>n<=i⟩
def A6{K:W.Frag}(a it:Addr):Turn P w K tg (N8 K a) [it] it (λi h=>h.IsListIter it a i) where
 mem:=by simp
 obj:=λi h st b hb=>by
  have e:b=it:=by simpa using hb
  subst e;let⟨o,e,c,d⟩:=st;exact⟨o,e,λv z=>by rw[d] at z;cases z⟩
 keep:=λi h h' st k=>st.at λo e=>k it (by simp) o e
 item:=by
  intro X hP hw hK hc i pins s σ H E I hf st hg;subst hP hw hK;let⟨xs,x,hq,hx⟩:=hg;let⟨its,rv,p,hz⟩:=I.list hq;let⟨u,hu,ru⟩:=rv.get hx;let⟨f0,f1,f2,f3,f4,f5⟩:=hf it (by simp);refine wpAny_pyNext_list_item st p.isList (x:=u) (by simpa using hu) λh' st' sb=>?_;have I1:Inv X pins σ H { s with heap:=h' }:=I.turned (t':=s.toks) (λb o hb e=>(sb.2 b hb).trans e) f0 f1 f3 f4 f5;let⟨o,e,c,d⟩:=id st';exact⟨u,rfl,Cg (s:={ s with heap:=h' }) e c d (by decide) ⟨x,H,I1,ru,⟨rfl,λys hy=>by rw[I.list_inj hy hq];exact hx⟩,st',λb hb=>(hf b hb).1⟩⟩
 done:=by
  intro X hP hw hK hc i pins s σ H E I hf st hg;subst hP hw hK;let⟨xs,hq,hx⟩:=hg;let⟨its,rv,p,hz⟩:=I.list hq;let⟨f0,f1,f2,f3,f4,f5⟩:=hf it (by simp);have hl:=rv.length;exact wpAny_pyNext_list_end (I.ok.hd hc) st p.isList (by simp;lia) λh' eb=>⟨rfl,I.turned (t':=s.toks) (λb o hb e=>eb b o hb e) f0 f1 f3 f4 f5⟩
 self:=λ_ _ _ _ _ st h=>wpAny_pyIter_listiter st h
def wF{K:W.Frag}(a it:Addr):Turn P w K tg (OK K a) [it] it (λi h=>h.IsTupleIter it a i) where
 mem:=by simp
 obj:=λi h st b hb=>by
  have e:b=it:=by simpa using hb
  subst e;let⟨o,e,c,d⟩:=st;exact⟨o,e,λv z=>by rw[d] at z;cases z⟩
 keep:=λi h h' st k=>st.at λo e=>k it (by simp) o e
 item:=by
  intro X hP hw hK hc i pins s σ H E I hf st hg;subst hP hw hK;let⟨xs,x,hq,hx⟩:=hg;let⟨its,rv,p,hz⟩:=I.tuple hq;let⟨u,hu,ru⟩:=rv.get hx;let⟨f0,f1,f2,f3,f4,f5⟩:=hf it (by simp);refine wpAny_pyNext_tuple_item st (show s.heap.IsTuple a its.toArray from p) (x:=u) (by simpa using hu) λh' st' sb=>?_;have I1:Inv X pins σ H { s with heap:=h' }:=I.turned (t':=s.toks) (λb o hb e=>(sb.2 b hb).trans e) f0 f1 f3 f4 f5;let⟨o,e,c,d⟩:=id st';exact⟨u,rfl,Cg (s:={ s with heap:=h' }) e c d (by decide) ⟨x,H,I1,ru,⟨rfl,λys hy=>by rw[I.tuple_inj hy hq];exact hx⟩,st',λb hb=>(hf b hb).1⟩⟩
 done:=by
  intro X hP hw hK hc i pins s σ H E I hf st hg;subst hP hw hK;let⟨xs,hq,hx⟩:=hg;let⟨its,rv,p,hz⟩:=I.tuple hq;let⟨f0,f1,f2,f3,f4,f5⟩:=hf it (by simp);have hl:=rv.length;exact wpAny_pyNext_tuple_end (I.ok.hd hc) st (show s.heap.IsTuple a its.toArray from p) (by simp;lia) λh' eb=>⟨rfl,I.turned (t':=s.toks) (λb o hb e=>eb b o hb e) f0 f1 f3 f4 f5⟩
 self:=λ_ _ _ _ _ st h=>wpAny_pyIter_tupleiter st h
def vn{K:W.Frag}(it:Addr)(lo:Int)(n:Nat):Turn P w K tg (M1 lo n) [it] it (λi h=>IsRangeIter h it (lo+(i:Nat) * 1) ((n:Int) - (i:Nat)) 1) where
 mem:=by simp
 obj:=λi h st b hb=>by
  have e:b=it:=by simpa using hb
  subst e;exact⟨_,st,λv z=>by
   have z':Data.fields _=Data.cell v:=z;cases z'⟩
 keep:=λi h h' st k=>k it (by simp) _ st
 item:=by
  intro X hP hw hK hc i pins s σ H E I hf st hg;subst hP hw hK;let⟨f0,f1,f2,f3,f4,f5⟩:=hf it (by simp);have W:=Walks.range (prog:=X.prog) (w:=X.w) (I.ok.hd hc) it lo 1 n;refine W.item i s _ _ hg st λv h' tk hv st' kk=>?_;let⟨t,rfl⟩:=hv;have I1:Inv X pins σ H { s with heap:=h',toks:=tk }:=I.turned (λb o hb e=>kk b o (by simpa using hb) e) f0 f1 f3 f4 f5;refine⟨_,rfl,Cg (s:={ s with heap:=h',toks:=tk }) (n:="range_iterator") st' rfl rfl (by decide) ⟨.int (lo+i),H,I1,⟨t,?_⟩,⟨rfl,rfl⟩,st',λb hb=>(hf b hb).1⟩⟩;rw[Int.mul_one]
 done:=by
  intro X hP hw hK hc i pins s σ H E I hf st hg;subst hP hw hK;let⟨f0,f1,f2,f3,f4,f5⟩:=hf it (by simp);exact wpAny_pyNext_range_end (I.ok.hd hc) st (by have:n<=i:=hg;lia) λh' eb=>⟨rfl,I.turned (t':=s.toks) (λb o hb e=>eb b o hb e) f0 f1 f3 f4 f5⟩
 self:=λ_ _ _ _ _ st h=>wpAny_pyIter_rangeiter st h
def sT{lo:Int}{t u v:Tok}{tk:Nat}(I:Inv X pins σ H s)(h1:-(2 ^ 62)<=lo)(h2:lo < 2 ^ 62)(h3:-(2 ^ 62)<=hi)(h4:hi < 2 ^ 62)
  (q:R (M1 lo (hi - lo).toNat) H):wpAny (model X.prog X.w) X.A (pyIter (.ref s.heap.objs.size)) (Pi X pins σ tg R) E { s with heap:=s.heap.push { cls:=.type "range",data:=.fields #[.int lo t,.int hi u,.int 1 v] },toks:=tk }:=by
 refine wpAny_pyIter_range (IsRange.new ..) (small_one h1 h2 h3 h4) ?_;have I1:Inv X pins σ H { s with heap:=s.heap.push { cls:=.type "range",data:=.fields #[.int lo t,.int hi u,.int 1 v] },toks:=tk }:=I.kept λb o e=>zS _ e;refine⟨(s.heap.push { cls:=.type "range",data:=.fields #[.int lo t,.int hi u,.int 1 v] }).objs.size,[(s.heap.push { cls:=.type "range",data:=.fields #[.int lo t,.int hi u,.int 1 v] }).objs.size],_,_,H,rfl,
  I1.kept (t':=tk) λb o e=>zS _ e,vn _ lo (hi - lo).toNat,?_,λb hb=>?_,q⟩
 ·have e1:lo+((0:Nat):Int) * 1=lo:=by simp
  have e2:(((hi - lo).toNat:Nat):Int) - ((0:Nat):Int)=Builtin.Range.rangeSize lo hi 1:=by rw[rangeSize_one];split<;>lia
  show IsRangeIter _ _ (lo+((0:Nat):Int) * 1) ((((hi - lo).toNat:Nat):Int) - ((0:Nat):Int)) 1;rw[e1,e2];exact zV _ rfl
 ·have e:b=(s.heap.push { cls:=.type "range",data:=.fields #[.int lo t,.int hi u,.int 1 v] }).objs.size:=by simpa using hb
  subst e;exact I1.fpOk (yJ _) (I1.hok.fresh (yJ _))
def Mn(ta:TA):TI:=λσ H R=>ta σ H λvs H1=>∃j:Int,vs=[.int j]/\-(2 ^ 62)<=j/\j < 2 ^ 62/\R (M1 0 j.toNat) H1
def ML(ta:TA):TI:=λσ H R=>ta σ H λvs H1=>∃i j:Int,vs=[.int i,.int j]/\(-(2 ^ 62)<=i/\i < 2 ^ 62/\-(2 ^ 62)<=j/\j < 2 ^ 62)/\R (M1 i (j - i).toNat) H1
def BJ(hg:Gl X "range")(hm:X.mg "range"=none)(ha:PA X [a] ta)(hs:starEach [a] X.env=[(false,eval a X.env)]:=by rfl):PI X tg (.Call (.Name "range" p) [a] [] pos) (Mn ta):=by
 intro pins s σ H R I h;refine Call_ (gW I hg hm boot_range (qN (bK (ha pos pins s σ H _ I h) λus s1 ⟨vs,H1,I1,r1,q1⟩=>?_) hs rfl));let⟨j,e,q1,q2,q⟩:=q1;subst e;cases r1 with
 | cons r rr =>
  cases rr;let⟨t,rfl⟩:=r;exact call_range_1 (sT I1 (by lia) (by lia) q1 q2 (by simpa using q))
def AR(hg:Gl X "range")(hm:X.mg "range"=none)(ha:PA X [a,b] ta)(hs:starEach [a,b] X.env=[(false,eval a X.env),(false,eval b X.env)]:=by rfl)(hs2:starEach [b] X.env=[(false,eval b X.env)]:=by rfl) :
  PI X tg (.Call (.Name "range" p) [a,b] [] pos) (ML ta):=by
 intro pins s σ H R I h;refine Call_ (gW I hg hm boot_range (qN (bK (ha pos pins s σ H _ I h) λus s1 ⟨vs,H1,I1,r1,q1⟩=>?_) (by rw[hs,hs2]) (by rw[hs2];rfl)));let⟨i,j,e,⟨q1,q2,q3,q4⟩,q⟩:=q1;subst e;cases r1 with
 | cons r rr =>
  cases rr with
  | cons r' rr =>
   cases rr;let⟨t,rfl⟩:=r;let⟨t',rfl⟩:=r';exact call_range_2 (sT I1 q1 q2 q3 q4 q)
def OU(wi:TI)(g:TG)(tb:TS):TS:=λD σ H=>wi σ H λJ H1=>∃W:Nat->Nat->St->Hp->Prop,(∃m,W 0 m σ H1)/\∀i m σ H,W i m σ H ->
 (J.stop i H/\D.nx σ H)\/(J.go i H/\∃N:St->Hp->Prop,(∀σ' H',N σ' H'->∃m',m' < m/\W (i+1) m' σ' H')/\∀x H',J.yld i H x H'->g x σ H' λσ2 H2=>tb { D with nx:=N,ct:=N,bk:=D.nx } σ2 H2)
def n5(fp:List Addr)(h:Heap):List (Addr×Obj):=fp.filterMap λb=>(h.get? b).map λo=>(b,o)
def gU(hb:b∈fp)(e:h.get? b=some o):(b,o)∈n5 fp h:=List.mem_filterMap.mpr ⟨b,hb,by rw[e];rfl⟩
def AX(hp:p∈n5 fp h):p.1∈fp/\h.get? p.1=some p.2:=by
 let⟨b,hb,e⟩:=List.mem_filterMap.mp hp;cases q:h.get? b with
 | none=>rw[q] at e;cases e
 | some o =>
  rw[q] at e;have e':(b,o)=p:=xA e;subst e';exact⟨hb,q⟩
def Inv.pinned(I:Inv X pins σ H s)(hf:∀b∈fp,gZ X pins H b)(ho:∀b∈fp,∃o,s.heap.get? b=some o/\∀v,o.data≠.cell v):Inv X (pins++n5 fp s.heap) σ H s :=
 I.pins_of λp hp=>(List.mem_append.mp hp).elim (λz=>I.pin p (yC _ z)) λz=>by
  let⟨hb,e⟩:=AX z;let⟨f0,f1,f2,_⟩:=hf p.1 hb;let⟨o,e',d⟩:=ho p.1 hb;rw[e] at e';cases e';exact⟨e,f0,f1,f2,d⟩
def Inv.unpinned(I:Inv X (pins++pl) σ H s):Inv X pins σ H s:=I.pins_of λp hp=>I.pin p (yC _ (qF _ hp))
def KQ{pos:Pos}(hp:PassesOwn (model X.prog X.w) X.A X.env X.xe)(hc:X.calm=true)(hi:PI X tg iter wi)(hg:PG X tg g)(hb:so X body tb)
  (hs:∀x,foldedSetIterable iter X.env x=pure x:=by intro _;rfl):PS X (.For tg iter body [] pos) (OU wi g tb):=by
 intro pins s σ H D I h;refine wpAny_For (bK (hi pins s σ H _ I h) λv s1 h1=>bK h1 λitv s2 h2=>?_) hs;let⟨it,fp,tn,J,H2,e,I2,T,st2,f2,W,⟨m0,w0⟩,turn⟩:=h2;subst e;have stat:∀ {H':Hp},(∀b∈fp,H' b=none)->∀b∈fp,gZ X pins H' b:=λhn b hb=>⟨hn b hb,(f2 b hb).2⟩
 refine codeAny_forLoop_any (λn s'=>∃i σ' H',Inv X pins σ' H' s'/\tn i s'.heap/\(∀b∈fp,H' b=none)/\W i n σ' H') ?_ m0 ⟨0,σ,H2,I2,st2,λb hb=>(f2 b hb).1,w0⟩;rintro n s3 ⟨i,σ3,H3,I3,st3,fr3,w3⟩;rcases turn i n σ3 H3 w3 with ⟨stop,qn⟩|⟨go,N,hN,step⟩
 ·refine jF hp (bK (T.done X rfl rfl rfl hc i pins s3 σ3 H3 X.xe I3 (stat fr3) st3 stop) λr s4 ⟨hr,I4⟩=>?_);subst hr;exact vC ⟨σ3,H3,I4,qn⟩
 ·refine jF hp (bK (T.item X rfl rfl rfl hc i pins s3 σ3 H3 X.xe I3 (stat fr3) st3 go) λr s4 ⟨u,hr,h4⟩=>?_);subst hr;refine jF hp (bK h4 λ_ s5 ⟨x,H5,I5,r5,y5,st5,fr5⟩=>?_);have I5':=I5.pinned (stat fr5) (T.obj _ _ st5);refine jF hp (bK (hg _ s5 σ3 H5 x u _ I5' r5 (step x H5 y5)) λ_ s6 ⟨σ6,H6,I6,q6⟩=>?_);refine jF hp (bK (hb _ s6 σ6 H6 _ I6 q6) λf s7 q7=>?_);have again:∀ {σ7:St}{H7:Hp},Inv X (pins++n5 fp s5.heap) σ7 H7 s7->N σ7 H7->∃m,m < n/\∃i σ' H',Inv X pins σ' H' s7/\tn i s7.heap/\(∀b∈fp,H' b=none)/\W i m σ' H':=λ{σ7 H7} I7 n7=>by
   let⟨m',hm,w7⟩:=hN σ7 H7 n7;refine⟨m',hm,i+1,σ7,H7,I7.unpinned,T.keep _ _ _ st5 λb hb o e=>(I7.pin (b,o) (yC _ (yC _ (gU hb e)))).1,λb hb=>?_,w7⟩;let⟨o,e,d⟩:=T.obj _ _ st5 b hb;exact (I7.pin (b,o) (yC _ (yC _ (gU hb e)))).2.1
  cases f with
  | next=>let⟨σ7,H7,I7,n7⟩:=q7;exact again I7 n7
  | cont=>let⟨σ7,H7,I7,n7⟩:=q7;exact again I7 n7
  | brk=>let⟨σ7,H7,I7,q7⟩:=q7;exact⟨σ7,H7,I7.unpinned,q7⟩
  | ret v=>let⟨x7,σ7,H7,I7,r7,q7⟩:=q7;exact⟨x7,σ7,H7,I7.unpinned,r7,q7⟩
abbrev R2:=V->V->Hp->VK->Prop
def eC(X:Cx)(f:Value->Value->Sem Value)(r:R2):Prop :=
 ∀ (pins:List (Addr×Obj)) (s:Shared) (σ:St) (H:Hp) (x y:V) (v u:Value) (Q:VK),Inv X pins σ H s->RelV x v->RelV y u->r x y H Q ->
  wpAny (model X.prog X.w) X.A (f v u) (EP X pins σ Q) X.xe s
def Pc(X:Cx)(f:Value->Sem Value)(r:V->Hp->VK->Prop):Prop :=
 ∀ (pins:List (Addr×Obj)) (s:Shared) (σ:St) (H:Hp) (x:V) (v:Value) (Q:VK),Inv X pins σ H s->RelV x v->r x H Q ->
  wpAny (model X.prog X.w) X.A (f v) (EP X pins σ Q) X.xe s
def cK(X:Cx)(f:Value)(r:List V->Hp->VK->Prop):Prop :=
 ∀ (pins:List (Addr×Obj)) (s:Shared) (σ:St) (H:Hp) (xs:List V) (us:List Value) (Q:VK),Inv X pins σ H s->aE xs us->r xs H Q ->
  wpAny (model X.prog X.w) X.A (call f us) (EP X pins σ Q) X.xe s
def Mv(r:R2)(ta tb:TE):TE:=λσ H Q=>ta σ H λx H1=>tb σ H1 λy H2=>r x y H2 Q
def Qm(r:V->Hp->VK->Prop)(ta:TE):TE:=λσ H Q=>ta σ H λx H1=>r x H1 Q
def rI(C:Int->Int->Prop)(g:Int->Int->V):R2:=λx y H Q=>∃i j,x=.int i/\y=.int j/\C i j/\Q (g i j) H
def F3(g:Int->Int->V):R2:=λx y H Q=>∃i j,x=.int i/\y=.int j/\Q (g i j) H
def rU(g:Int->V):V->Hp->VK->Prop:=λx H Q=>∃i,x=.int i/\Q (g i) H
def LK(ha:PE X a ta)(hb:PE X b tb){pins:List (Addr×Obj)}{σ:St}{R:V->V->Hp->Prop}(I:Inv X pins σ H s)
  (h:ta σ H λx H1=>tb σ H1 λy H2=>R x y H2) {Q:Value->Shared->Prop}{f:Value->Value->Sem Value}
  (hf:∀v u s2 x y H2,Inv X pins σ H2 s2->RelV x v->RelV y u->R x y H2->wpAny (model X.prog X.w) X.A (f v u) Q X.xe s2) :
  wpAny (model X.prog X.w) X.A (eval a X.env) (λv s₁=>wpAny (model X.prog X.w) X.A (eval b X.env) (λu s₂=>wpAny (model X.prog X.w) X.A (f v u) Q X.xe s₂) X.xe s₁) X.xe s:=by
 refine bK (ha pins s σ H _ I h) λv s1 ⟨x,H1,I1,r1,q1⟩=>?_;refine bK (hb pins s1 σ H1 _ I1 q1) λu s2 ⟨y,H2,I2,r2,q2⟩=>?_;exact hf v u s2 x y H2 I2 r1 r2 q2
def w8(ho:eC X (binaryOp op) r)(ha:PE X a ta)(hb:PE X b tb):PE X (.BinOp a op b pos) (Mv r ta tb):=by
 intro pins s σ H Q I h;exact wpAny_BinOp (LK ha hb I h λv u s2 x y H2 I2 rx ry q=>ho pins s2 σ H2 x y v u Q I2 rx ry q)
def Jm(ho:Pc X (unaryOp op) r)(ha:PE X a ta):PE X (.UnaryOp op a pos) (Qm r ta):=by
 intro pins s σ H Q I h;exact UnaryOp_ (bK (ha pins s σ H _ I h) λv s1 ⟨x,H1,I1,r1,q1⟩=>ho pins s1 σ H1 x v Q I1 r1 q1)
def OM{f:Value->Value->Sem Value}{C:Int->Int->Prop}{g:Int->Int->Int}
  (rule:∀ (i j:Int) (t u:Tok) (s:Shared) (Q:Value->Shared->Prop) (E:Value->Shared->Prop),C i j->Q (.int (g i j) s.toks) { s with toks:=s.toks+1 }->wpAny (model X.prog X.w) X.A (f (.int i t) (.int j u)) Q E s) :
  eC X f (rI C λi j=>.int (g i j)):=by
 intro pins s σ H x y v u Q I rx ry h;let⟨i,j,rfl,rfl,hc,q⟩:=h;let⟨t,rfl⟩:=rx;let⟨t',rfl⟩:=ry;exact rule i j t t' s _ _ hc ⟨.int (g i j),H,I.tok _,⟨_,rfl⟩,q⟩
def MU{f:Value->Value->Sem Value}{g:Int->Int->Int}
  (rule:∀ (i j:Int) (t u:Tok) (s:Shared) (Q:Value->Shared->Prop) (E:Value->Shared->Prop),Q (.int (g i j) s.toks) { s with toks:=s.toks+1 }->wpAny (model X.prog X.w) X.A (f (.int i t) (.int j u)) Q E s) :
  eC X f (F3 λi j=>.int (g i j)):=by
 intro pins s σ H x y v u Q I rx ry h;let⟨i,j,rfl,rfl,q⟩:=h;let⟨t,rfl⟩:=rx;let⟨t',rfl⟩:=ry;exact rule i j t t' s _ _ ⟨.int (g i j),H,I.tok _,⟨_,rfl⟩,q⟩
def L5{f:Value->Value->Sem Value}{g:Int->Int->Bool}
  (rule:∀ (i j:Int) (t u:Tok) (s:Shared) (Q:Value->Shared->Prop) (E:Value->Shared->Prop),Q (.bool (g i j)) s->wpAny (model X.prog X.w) X.A (f (.int i t) (.int j u)) Q E s) :
  eC X f (F3 λi j=>.bl (g i j)):=by
 intro pins s σ H x y v u Q I rx ry h;let⟨i,j,rfl,rfl,q⟩:=h;let⟨t,rfl⟩:=rx;let⟨t',rfl⟩:=ry;exact rule i j t t' s _ _ ⟨.bl (g i j),H,I,rfl,q⟩
def Gs(i j:Int):Prop:=0 < j/\j < 1073741824
def oV(i j:Int):Prop:=(-(2 ^ 64) < i/\i < 2 ^ 64)\/(-(2 ^ 64) < j/\j < 2 ^ 64)
def oV.ok(h:oV i j):IntMulOk i j:=by
 rcases h with ⟨h1,h2⟩|⟨h1,h2⟩
 ·exact .of_left (intBits_le_64 h1 h2)
 ·exact .of_right (intBits_le_64 h1 h2)
def KN:eC X (binaryOp .Add) (F3 λi j=>.int (i+j)):=MU λ_ _ _ _ _ _ _ q=>add_int q
def JJ:eC X (binaryOp .Sub) (F3 λi j=>.int (i - j)):=MU λ_ _ _ _ _ _ _ q=>sub_int q
def JE:eC X (binaryOp .Mult) (rI oV λi j=>.int (i * j)):=OM λ_ _ _ _ _ _ _ hc q=>mul_int q hc.ok
def Il:eC X (binaryOp .FloorDiv) (rI Gs λi j=>.int (i / j)):=OM λi j _ _ _ _ _ hc q=>by
 have h1:(0:Int) < j:=hc.1;have h2:j < 1073741824:=hc.2;exact floordiv_int (by lia) (by rw[Int.fdiv_eq_ediv_of_nonneg i (by lia)];exact q) (.inl (PyProof.noPylong_small (by lia)))
def JY:eC X (binaryOp .Mod) (rI (λ_ j=>0 < j) λi j=>.int (i % j)):=OM λi j _ _ _ _ _ hc q=>by
 have h1:(0:Int) < j:=hc;exact mod_int' (by lia) (by rw[Int.fmod_eq_emod_of_nonneg i (by lia)];exact q)
def PP{f:Value->Sem Value}{g:Int->Int}
  (rule:∀ (i:Int) (t:Tok) (s:Shared) (Q:Value->Shared->Prop) (E:Value->Shared->Prop),Q (.int (g i) s.toks) { s with toks:=s.toks+1 }->wpAny (model X.prog X.w) X.A (f (.int i t)) Q E s) :
  Pc X f (rU λi=>.int (g i)):=by
 intro pins s σ H x v Q I rx h;let⟨i,rfl,q⟩:=h;let⟨t,rfl⟩:=rx;exact rule i t s _ _ ⟨.int (g i),H,I.tok _,⟨_,rfl⟩,q⟩
def C8:Pc X (unaryOp .USub) (rU λi=>.int (-i)):=PP λ_ _ _ _ _ q=>neg_int q
def kz:V->V->Bool
 | .non,.non=>true|.non,.int _=>true|.int _,.non=>true|.non,.bl _=>true|.bl _,.non=>true|.non,.str _=>true|.str _,.non=>true
 | .int _,.int _=>true|.bl _,.bl _=>true|.str _,.str _=>true|.byt _,.byt _=>true
 | .int _,.str _=>true|.str _,.int _=>true|.bl _,.str _=>true|.str _,.bl _=>true
 | _,_=>false
def P9:R2:=λx y H Q=>kz x y=true/\Q (.bl (!decide (x=y))) H
def Hf:decide (V.int i=V.int j)=(i == j):=by
 rw[kJ];simp
def KB:decide (V.bl i=V.bl j)=(i == j):=by
 rw[kJ];simp
def GA:decide (V.str i=V.str j)=(i == j):=by
 rw[kJ];simp
def Iq:decide (V.byt i=V.byt j)=(i.toList == j.toList):=by
 rw[kJ];cases i;cases j;simp
def b0(I:Inv X pins σ H s)(q:Q (.bl k) H)(e:k=k'):EP X pins σ Q (.bool k') s:=by
 subst e;exact⟨.bl k,H,I,rfl,q⟩
def Nv:eC X (compareOp .NotEq) P9:=by
 intro pins s σ H x y v u Q I rx ry h;let⟨hs,q⟩:=h;cases x with
 | non =>
  cases rx;cases y with
  | non=>cases ry;exact PySem.EqNone.ne_none_none (b0 I q (by simp))
  | bl j=>cases ry;exact PySem.EqNone.ne_none_bool (b0 I q (by simp))
  | int j=>let⟨t',rfl⟩:=ry;exact PySem.EqNone.ne_none_int (b0 I q (by simp))
  | str j=>let⟨t',rfl⟩:=ry;exact PySem.EqNone.ne_none_str (b0 I q (by simp))
  | _=>exact absurd (show false=true from hs) yW
 | bl i =>
  cases rx;cases y with
  | non=>cases ry;exact PySem.EqNone.ne_bool_none (b0 I q (by simp))
  | bl j=>cases ry;exact ne_bool (b0 I q (qX not KB))
  | str j=>let⟨t',rfl⟩:=ry;exact PySem.EqMixed.ne_bool_str (b0 I q (by simp))
  | _=>exact absurd (show false=true from hs) yW
 | int i =>
  let⟨t,rfl⟩:=rx;cases y with
  | non=>cases ry;exact PySem.EqNone.ne_int_none (b0 I q (by simp))
  | int j=>let⟨t',rfl⟩:=ry;exact ne_int (b0 I q (qX not Hf))
  | str j=>let⟨t',rfl⟩:=ry;exact PySem.EqMixed.ne_int_str (b0 I q (by simp))
  | _=>exact absurd (show false=true from hs) yW
 | str i =>
  let⟨t,rfl⟩:=rx;cases y with
  | non=>cases ry;exact PySem.EqNone.ne_str_none (b0 I q (by simp))
  | bl j=>cases ry;exact PySem.EqMixed.ne_str_bool (b0 I q (by simp))
  | int j=>let⟨t',rfl⟩:=ry;exact PySem.EqMixed.ne_str_int (b0 I q (by simp))
  | str j=>let⟨t',rfl⟩:=ry;exact ne_str (b0 I q (qX not GA))
  | _=>exact absurd (show false=true from hs) yW
 | byt i =>
  let⟨t,rfl⟩:=rx;cases y with
  | byt j=>let⟨t',rfl⟩:=ry;exact W.ne_bytes (b0 I q (qX not Iq))
  | _=>exact absurd (show false=true from hs) yW
 | _=>cases y<;>exact absurd (show false=true from hs) yW
def EX:eC X (compareOp .Lt) (F3 λi j=>.bl (decide (i < j))):=L5 λ_ _ _ _ _ _ _ q=>lt_int q
def BX:eC X (compareOp .LtE) (F3 λi j=>.bl (decide (i<=j))):=L5 λ_ _ _ _ _ _ _ q=>le_int q
def IU:eC X (compareOp .Gt) (F3 λi j=>.bl (decide (j < i))):=L5 λ_ _ _ _ _ _ _ q=>gt_int q
def AD:eC X (compareOp .In) (λx y H Q=>∃i j,x=.str i/\y=.str j/\Q (.bl (!(Builtin.Str.occurrences j i 0 j.length 1).isEmpty)) H):=by
 intro pins s σ H x y v u Q I rx ry h;let⟨i,j,rfl,rfl,q⟩:=h;let⟨t,rfl⟩:=rx;let⟨t',rfl⟩:=ry;exact in_str (b0 I q rfl)
def BV:eC X (compareOp .Is) (λx y H Q=>y=.non/\Q (.bl (decide (x=.non))) H):=by
 intro pins s σ H x y v u Q I rx ry h;let⟨rfl,q⟩:=h;cases ry;refine is_none_gen (b0 I q ?_);cases x<;>first
  | (cases rx;rfl)
  | (let⟨t,rfl⟩:=rx;rfl)
def yv:eC X (compareOp .IsNot) (λx y H Q=>y=.non/\Q (.bl (!decide (x=.non))) H):=by
 intro pins s σ H x y v u Q I rx ry h;let⟨rfl,q⟩:=h;cases ry;refine isnot_none_gen (b0 I q ?_);cases x<;>first
  | (cases rx;rfl)
  | (let⟨t,rfl⟩:=rx;rfl)
def su:eC X (compareOp .NotIn) (λx y H Q=>∃i j,x=.str i/\y=.str j/\Q (.bl (!(!(Builtin.Str.occurrences j i 0 j.length 1).isEmpty))) H):=by
 intro pins s σ H x y v u Q I rx ry h;let⟨i,j,rfl,rfl,q⟩:=h;let⟨t,rfl⟩:=rx;let⟨t',rfl⟩:=ry;exact notIn_str (b0 I q rfl)
def isObj:HO->Bool
 | .lst _=>true
 | .ins _ _ _=>true
 | _=>false
def pb(I:Inv X pins σ H s)(h:H a=some o)(p:isObj o=true):∃ob,s.heap.get? a=some ob/\ob.cls≠.type "tuple":=by
 cases o with
 | lst xs =>
  obtain⟨_,its,n,_,e⟩:xs.length<=sizeLine/\∃ (its:List Value) (n:Nat),aE xs its/\s.heap.get? a=some { cls:=.type "list",data:=.seq its.toArray n }:=I.hok a _ h;exact⟨_,e,(by show Value.type "list"≠.type "tuple";decide +kernel)⟩
 | ins C dx fs =>
  have x:=I.hok a _ h;let⟨_,_,_,e,_⟩:=x;exact⟨_,e,(by show Value.ref C≠.type "tuple";exactλz=>by cases z)⟩
 | _=>exact absurd (show false=true from p) yW
def eC.or(h:eC X f r)(h':eC X f r'):eC X f (λx y H Q=>r x y H Q\/r' x y H Q):=by
 intro pins s σ H x y v u Q I rx ry q;rcases q with q|q
 ·exact h pins s σ H x y v u Q I rx ry q
 ·exact h' pins s σ H x y v u Q I rx ry q
def cX(b:Expr)(h:op≠.In:=by decide)(h2:op≠.NotIn:=by decide):behindInMarks op b=false:=by
 have e1:(op == CmpOp.In)=false:=by cases op<;>first|rfl|exact absurd rfl h
 have e2:(op == CmpOp.NotIn)=false:=by cases op<;>first|rfl|exact absurd rfl h2
 cases b<;>simp[behindInMarks,e1,e2]
def HK(ho:eC X (compareOp op) r)(ha:PE X a ta)(hb:PE X b tb)(hm:behindInMarks op b=false):PE X (.Compare a [op] [b] pos) (Mv r ta tb):=by
 intro pins s σ H Q I h;exact wpAny_Compare1 (LK ha hb I h λv u s2 x y H2 I2 rx ry q=>ho pins s2 σ H2 x y v u Q I2 rx ry q) hm
def IW(t:TE):TT:=λσ H Q=>t σ H λx H'=>∃k,x=.bl k/\Q k H'
def yu(ho:eC X (compareOp op) r)(ha:PE X a ta)(hb:PE X b tb)(hm:behindInMarks op b=false):PT X (.Compare a [op] [b] pos) (IW (Mv r ta tb)):=by
 intro pins s σ H Q I h;refine wpAny_isTrue_Compare1 (bK (ha pins s σ H _ I h) λv s1 ⟨x,H1,I1,r1,q1⟩=>bK (hb pins s1 σ H1 _ I1 q1) λu s2 ⟨y,H2,I2,r2,q2⟩ =>
  bK (ho pins s2 σ H2 x y v u _ I2 r1 r2 q2) λc s3 ⟨z,H3,I3,r3,k,e,q3⟩=>?_) hm
 subst e;cases r3;exact xS ⟨H3,I3,q3⟩
def u3(r r':R2)(ta tb tc:TE):TE:=λσ H Q=>ta σ H λx H1=>tb σ H1 λy H2=>r x y H2 λz H3=>∃k,z=.bl k /\
 (if k=true then tc σ H3 λw' H4=>r' y w' H4 Q else Q (.bl false) H3)
def Ee(ho:eC X (compareOp op) r)(ho':eC X (compareOp op') r')(ha:PE X a ta)(hb:PE X b tb)(hc:PE X c tc)
  (hm:lastMarks [op,op'] [b,c]=false:=by with_unfolding_all rfl):PE X (.Compare a [op,op'] [b,c] pos) (u3 r r' ta tb tc):=by
 intro pins s σ H Q I h;refine Compare_chain (bK (ha pins s σ H _ I h) λv s1 ⟨x,H1,I1,r1,q1⟩=>chain_link (bK (hb pins s1 σ H1 _ I1 q1) λu s2 ⟨y,H2,I2,r2,q2⟩ =>
  bK (ho pins s2 σ H2 x y v u _ I2 r1 r2 q2) λd s3 ⟨z,H3,I3,r3,k,e,q3⟩=>?_)) hm
 subst e;cases r3;refine xS ?_;cases k with
 | false=>exact ite_ff ⟨.bl false,H3,I3,rfl,q3⟩
 | true=>exact ite_tt (chain_last (bK (hc pins s3 σ H3 _ I3 q3) λw' s4 ⟨z',H4,I4,r4,q4⟩=>ho' pins s4 σ H4 y z' u w' Q I4 r2 r4 q4))
def Eu(ho:eC X (compareOp op) r)(ho':eC X (compareOp op') r')(ha:PE X a ta)(hb:PE X b tb)(hc:PE X c tc)
  (hm:lastMarks [op,op'] [b,c]=false:=by with_unfolding_all rfl):PT X (.Compare a [op,op'] [b,c] pos) (IW (u3 r r' ta tb tc)):=by
 intro pins s σ H Q I h;refine isTrue_chain (bK (ha pins s σ H _ I h) λv s1 ⟨x,H1,I1,r1,q1⟩=>test_link (bK (hb pins s1 σ H1 _ I1 q1) λu s2 ⟨y,H2,I2,r2,q2⟩ =>
  bK (ho pins s2 σ H2 x y v u _ I2 r1 r2 q2) λd s3 ⟨z,H3,I3,r3,k,e,q3⟩=>?_)) hm
 subst e;cases r3;refine xS ?_;cases k with
 | false =>
  let⟨k',e',q'⟩:=q3;cases e';exact ite_ff ⟨H3,I3,q'⟩
 | true =>
  refine ite_tt (test_last (bK (hc pins s3 σ H3 _ I3 q3) λw' s4 ⟨z',H4,I4,r4,q4⟩=>bK (ho' pins s4 σ H4 y z' u w' _ I4 r2 r4 q4) λd' s5 ⟨z2,H5,I5,r5,k2,e2,q5⟩=>?_));subst e2;cases r5;exact xS ⟨H5,I5,q5⟩
def lI:(sizeLine:Nat) < 2 ^ 63:=by rw[sizeLine_eq];decide
def vb:eC X (binaryOp .Add) (λx y H Q=>∃i j,x=.str i/\y=.str j/\i.length+j.length<=sizeLine/\Q (.str (i++j)) H):=by
 intro pins s σ H x y v u Q I rx ry h;let⟨i,j,rfl,rfl,hz,q⟩:=h;let⟨t,rfl⟩:=rx;let⟨t',rfl⟩:=ry;exact add_str (λt' tk=>⟨.str (i++j),H,I.tok _,⟨_,rfl⟩,q⟩) hz
def vals1(r:aE [x] us):∃u,us=[u]/\RelV x u:=by
 cases r with
 | cons r1 r2=>cases r2;exact⟨_,rfl,r1⟩
def vals2(r:aE [x,y] us):∃u w',us=[u,w']/\RelV x u/\RelV y w':=by
 cases r with
 | cons r1 r2 =>
  cases r2 with
  | cons r3 r4=>cases r4;exact⟨_,_,rfl,r1,r3⟩
section
variable {K:W.Frag}
end
structure gu(k:Nat)(A:Around):Prop where
 hd:A.handled=none
 dp:A.depth+3 * k+5 < recursionLimit
 un:A.units+16 * k+200 < cLine
def gu.mono(r:gu k A)(h:j<=k):gu j A:=⟨r.hd,by have:=r.dp;lia,by have:=r.un;lia⟩
def gu.deeper(r:gu (k+1) A)(env:Env):gu k (A.deeper env) :=
 ⟨r.hd,by have:=r.dp;show A.depth+1+3 * k+5 < _;lia,by have:=r.un;show A.units+3+16 * k+200 < _;lia⟩
def gu.depth(r:gu k A):A.depth < recursionLimit:=by have:=r.dp;lia
def gu.units(r:gu k A):A.units+64 < cLine:=by have:=r.un;lia
def Oj:TA:=λ_ H Q=>Q [] H
def ME(ta:TE)(tr:TA):TA:=λσ H Q=>ta σ H λx H1=>tr σ H1 λxs H2=>Q (x::xs) H2
def cA:PA X [] Oj:=λ_ _ _ _ H Q I h=>jX ⟨[],H,I,.nil,h⟩
def bh(ha:PE X e te)(hr:PA X es t)(hs:starEach (e::es) X.env=(false,eval e X.env)::starEach es X.env:=by rfl):PA X (e::es) (ME te t):=by
 intro pos pins s σ H Q I h;rw[hs];show wpAny _ _ (spliced ((false,eval e X.env)::backTo pos (starEach es X.env))) _ _ s;refine jE (bK (ha pins s σ H _ I h) λu s1 ⟨x,H1,I1,r1,q1⟩=>?_);exact bK (hr pos pins s1 σ H1 _ I1 q1) λus s2 ⟨xs,H2,I2,r2,q2⟩=>⟨x::xs,H2,I2,.cons r1 r2,q2⟩
def OA(t:TA):TE:=λσ H Q=>t σ H λxs H1=>xs.length<=sizeLine/\∀p,H1 p=none->Q (.ref p) (upd H1 p (.tup xs))
def N3(t:TA):TE:=λσ H Q=>t σ H λxs H1=>xs.length<=sizeLine/\∀p,H1 p=none->Q (.ref p) (upd H1 p (.lst xs))
def CD{x1}(h:PA X es t):PE X (.Tuple es x1 pos) (OA t):=by
 intro pins s σ H Q I hq;refine wpAny_Tuple_spliced (bK (h pos pins s σ H _ I hq) λus s1 ⟨xs,H1,I1,r,z,q⟩=>⟨by rw[<- r.length];exact z,?_⟩);have hf:H1 s1.heap.objs.size=none:=I1.hok.fresh (yJ _);refine⟨.ref s1.heap.objs.size,upd H1 s1.heap.objs.size (.tup xs),I1.laid (t':=s1.toks) (λb u e=>zS _ e) (yJ _) ?_,rfl,q _ hf⟩;exact⟨z,us,r,⟨_,zV _ rfl,rfl,_,rfl⟩,_,zV _ rfl,rfl⟩
def wJ(h:PA X es t):PE X (.List es pos) (N3 t):=by
 intro pins s σ H Q I hq;refine wpAny_List_spliced (bK (h pos pins s σ H _ I hq) λus s1 ⟨xs,H1,I1,r,z,q⟩=>⟨by rw[<- r.length];exact z,?_⟩);have hf:H1 s1.heap.objs.size=none:=I1.hok.fresh (yJ _);refine⟨.ref s1.heap.objs.size,upd H1 s1.heap.objs.size (.lst xs),I1.laid (t':=s1.toks) (λb u e=>zS _ e) (yJ _) ?_,rfl,q _ hf⟩;exact⟨z,us,0,r,zV _ rfl⟩
abbrev Sp:=List V->Hp->VK->XK->Prop
abbrev FY:=List Env->Hp->Shared->XK->Value->Shared->Prop
structure vg(P:Program)(w:World)(K:W.Frag)(mg:Str->Option Value)(base:Heap)(A:Around)(outer:List Env)(s:Shared)(H:Hp):Prop where
 frames:A.frames=some outer
 mod:Mod K mg base
 bs:∀b o,base.get? b=some o->s.heap.get? b=some o/\H b=none
 bsz:base.objs.size<=s.heap.objs.size
 funs:s.heap.FunFrames base outer
 frf:∀b∈fP outer,H b=none
 hok:lK P w H s.heap
 bare:AllBare s.gens
def CE(outer:List Env)(P:Program)(w:World)(H:Hp)(s:Shared)(Q:VK)(u:Value)(s':Shared):Prop :=
 ∃v H',s'.os=s.os/\AllBare s'.gens/\Un (fP outer) [] H H' s.heap s'.heap/\lK P w H' s'.heap/\RelV v u/\Q v H'
def CR(CX:FY)(outer:List Env)(P:Program)(w:World)(H:Hp)(s:Shared)(Q:VK)(E:XK)(r:Result)(s':Shared):Prop :=
 match r with
 | .ok (.ret u)=>CE outer P w H s Q u s'
 | .ok _=>False
 | .error e=>CX outer H s E e s'
structure mI(P:Program)(w:World)(K:W.Frag)(mg:Str->Option Value)(base:Heap)(CX:FY)(k:Nat)(f:Addr)(fd:FuncData)(ps:List Str)(sp:Sp):Prop where
 len:∀vs H Q E,sp vs H Q E->vs.length=ps.length
 run:∀ (A:Around) (outer:List Env) (s:Shared) (H:Hp) (args:Args) (us:List Value) (vs:List V) (Q:VK) (E:XK),gu k A->vg P w K mg base A outer s H->BindsTo s fd args (ps.zip us)->aE vs us->sp vs H Q E ->
  codeAny (model P w) A (.call (.ref f) args) (CR CX outer P w H s Q E) s
def mI.mono{K:W.Frag}(F:mI P w K mg base CX j f fd ps sp)(h:j<=k) :
  mI P w K mg base CX k f fd ps sp:=⟨F.len,λA outer s H args us vs Q E hr=>F.run A outer s H args us vs Q E (hr.mono h)⟩
def Inv.env0(I:Inv X pins σ H s):vg X.prog X.w X.K X.mg X.base X.A X.stack s H :=
 ⟨I.ok.frames,I.ok.mod,I.bs,yB I.ok.bsz I.sz,I.stack,I.stkFree,I.hok,I.bare⟩
def Inv.after(I:Inv X pins σ H s)(h:CE X.stack X.prog X.w H s Q u s'):EP X pins σ Q u s':=by
 let⟨v,H',os,bare,un,hok,r,q⟩:=h;let⟨hh,g,d,t,os'⟩:=s';obtain rfl:os'=s.os:=os;exact⟨v,H',I.call (h':=hh) (g':=g) (d':=d) (t':=t) (ch:=[]) un hok bare (λb z=>absurd z (by simp)),r,q⟩
def MB(sp:Sp)(dvs:List V)(E:XK)(t:TA):TE:=λσ H Q=>t σ H λvs H1=>sp (vs++dvs) H1 Q E
def Binds(K:W.Frag)(fd:FuncData)(ps:List Str)(ds:List Value):Prop :=
 ∀ (s:Shared) (us:List Value),K.In s.heap->(us++ds).length=ps.length->BindsTo s fd ⟨us,[]⟩ (ps.zip (us++ds))
def Binds.all{K:W.Frag}(h:∀us:List Value,us.length=ps.length->bindArgs fd ⟨us,[]⟩=pure (ps.zip us)):Binds K fd ps []:=λs us _ hl=>by
 rw[qC] at hl ⊢;exact .of_eq (h us hl)
def dW(CX:FY)(X:Cx)(E:XK):Prop:=∀ (pins:List (Addr×Obj)) (σ:St) (H:Hp) (s:Shared) (e:Value) (s':Shared),Inv X pins σ H s->CX X.stack H s E e s'->X.xe e s'
def L4(F:mI X.prog X.w X.K X.mg X.base CX k f fd ps sp)(hr:gu k X.A)(hb:Binds X.K fd ps ds)(hd:aE dvs ds)(hx:dW CX X E)
  (I:Inv X pins σ H s) (r:aE vs us) (h:sp (vs++dvs) H Q E):wpAny (model X.prog X.w) X.A (call (.ref f) us) (EP X pins σ Q) X.xe s:=by
 have r2:aE (vs++dvs) (us++ds):=r.append hd;have hl:(us++ds).length=ps.length:=by rw[<- r2.length];exact F.len _ _ _ _ h
 refine kX (jN (F.run X.A X.stack s H ⟨us,[]⟩ (us++ds) (vs++dvs) Q E hr I.env0 (hb s us I.kIn hl) r2 h) λr s' hq=>?_);cases r with
 | error e=>exact hx pins σ H s e s' I hq
 | ok fl =>
  cases fl with
  | ret u=>exact I.after hq
  | next=>exact False.elim hq
  | brk=>exact False.elim hq
  | cont=>exact False.elim hq
def yj(F:mI X.prog X.w X.K X.mg X.base CX k f fd ps sp)(hr:gu k X.A)(hg:Gl X x)(hm:X.mg x=some (.ref f))(hk:W.keepIn X.K (.ref f)=true)(hb:Binds X.K fd ps ds)(hd:aE dvs ds)(hx:dW CX X E)
  (ha:PA X (e::es) t) (hdb:(x == ("__debug__":Str))=false:=by decide) (he:starEach (e::es) X.env=(false,eval e X.env)::starEach es X.env:=by rfl) (hpl:(backTo pos (starEach es X.env)).any (·.1)=false:=by rfl) :
  PE X (.Call (.Name x p) (e::es) [] pos) (MB sp dvs E t):=by
 intro pins s σ H Q I h;refine qT (i7 I hg hm ?_ hdb);refine W.callWith_K (h₀:=X.base) I.ok.mod.kin hk (bK (ha pos pins s σ H _ I h) λus s1 ⟨vs,H1,I1,r,q⟩=>⟨I1.kIn,?_⟩) he hpl;exact L4 F hr hb hd hx I1 r q
structure b9(N P:List Str)(sc:Scope):Prop where
 kind:sc.kind=.function
 co:sc.isCoroutine=false
 gen:sc.isGenerator=false
 nd:N.Nodup
 pre:N.take P.length=P
 par:∀x∈P,sc.names.lookup x=some .local \/ sc.names.lookup x=some .cell
 nofree:∀y∈sc.names,y.2≠.free
def pW{kindOf:Str->Option NameKind}:∀ {binds:List (Str×Value)}{m:Str->Option Value},(∀v,(x,v)∉binds)->bindL kindOf binds m x=m x
 | [],_,_=>rfl
 | (n,v)::r,m,h=>by
  unfold bindL;rw[pW λw hw=>h w (zC _ hw)];split
  ·have:x≠n:=by rintro rfl;exact h v zE
   simp[this]
  ·rfl
def qk{kindOf:Str->Option NameKind}:∀ {binds:List (Str×Value)}{m:Str->Option Value},(∀v,(x,v)∉binds)->bindC kindOf binds m x=m x
 | [],_,_=>rfl
 | (n,v)::r,m,h=>by
  unfold bindC;rw[qk λw hw=>h w (zC _ hw)];split
  ·rfl
  ·have:x≠n:=by rintro rfl;exact h v zE
   simp[this]
def pA{kindOf:Str->Option NameKind}:∀ {P:List Str}{vs:List Value}{i:Nat}{m:Str->Option Value},P.Nodup->P[i]?=some x->vs[i]?=some v->kindOf x=some .local ->
  bindL kindOf (P.zip vs) m x=some v
 | [],_,_,_,_,h,_,_=>by simp at h
 | _::_,[],_,_,_,_,h,_=>by simp at h
 | p::P,w::vs,0,m,nd,h1,h2,hk=>by
  simp at h1 h2;subst h1;subst h2;show bindL kindOf ((p,w)::P.zip vs) m p=_;unfold bindL;rw[pW λv hv=>(List.nodup_cons.mp nd).1 (vE hv).1,yI hk];simp
 | p::P,w::vs,i+1,m,nd,h1,h2,hk=>by
  show bindL kindOf ((p,w)::P.zip vs) m x=_;unfold bindL;exact pA (i:=i) (List.nodup_cons.mp nd).2 (by simpa using h1) (by simpa using h2) hk
def qh{kindOf:Str->Option NameKind}:∀ {P:List Str}{vs:List Value}{i:Nat}{m:Str->Option Value},P.Nodup->P[i]?=some x->vs[i]?=some v->kindOf x≠some .local ->
  bindC kindOf (P.zip vs) m x=some v
 | [],_,_,_,_,h,_,_=>by simp at h
 | _::_,[],_,_,_,_,h,_=>by simp at h
 | p::P,w::vs,0,m,nd,h1,h2,hk=>by
  simp at h1 h2;subst h1;subst h2;show bindC kindOf ((p,w)::P.zip vs) m p=_;unfold bindC;rw[qk λv hv=>(List.nodup_cons.mp nd).1 (vE hv).1,yK hk];simp
 | p::P,w::vs,i+1,m,nd,h1,h2,hk=>by
  show bindC kindOf ((p,w)::P.zip vs) m x=_;unfold bindC;exact qh (i:=i) (List.nodup_cons.mp nd).2 (by simpa using h1) (by simpa using h2) hk
def start(N:List Str)(vs:List V):St:=vs.map some++List.replicate (N.length - vs.length) none
def nN(CX:FY)(P:Program)(w:World)(K:W.Frag)(mg:Str->Option Value)(base:Heap)(N:List Str)(qual:Str)(scope:Scope)(f:Addr)(cd:Value)(A:Around)(outer:List Env)(s:Shared)(H:Hp)(E:XK):Cx where
 prog:=P
 w:=w
 K:=K
 mg:=mg
 base:=base
 A:=A.deeper (envOfC qual scope s.heap.objs.size f cd)
 N:=N
 s₀:=s
 H₀:=H
 env:=envOfC qual scope s.heap.objs.size f cd
 outer:=outer
 stack:=envOfC qual scope s.heap.objs.size f cd::outer
 ex:=[]
 calm:=true
 fn:=λ_=>true
 pn:=[]
 xe:=λe s'=>wpAny (model P w) (A.deeper (envOfC qual scope s.heap.objs.size f cd)) (leaving (envOfC qual scope s.heap.objs.size f cd) e) (λ_ s''=>CX outer H s E e s'') (λe' s''=>CX outer H s E e' s'') s'
def nu{sc:Scope}{n:Nat}(h:sc.names.lookup x=some .cell):∃c,(cellsFrom n sc.names []).lookup x=some c:=by
 have q:=W.cellsFrom_some sc.names n [] (.inl h);exact Option.isSome_iff_exists.mp q
def pP{CX:FY}{K:W.Frag}{mg:Str->Option Value}{ps:List Str}{scope:Scope}{cd:Value}{A:Around}{outer:List Env}{s:Shared}{E:XK}{us:List Value}{vs:List V}
  (S:b9 N ps scope) (hd:A.handled=none) (e0:vg P w K mg base A outer s H) (hl:vs.length=ps.length) (r:aE vs us)
  (x:InCallC s s.heap.objs.size (bindL (envOfC qual scope s.heap.objs.size f cd).kindOf (ps.zip us) λ_=>none) (cellsFrom (s.heap.objs.size+1) scope.names []) (bindC (envOfC qual scope s.heap.objs.size f cd).kindOf (ps.zip us) λ_=>none) s1) :
  Inv (nN CX P w K mg base N qual scope f cd A outer s H E) [] (start N vs) H s1:=by
 have hpl:ps.length<=N.length:=by have:=qX List.length S.pre;rw[jR] at this;lia
 let⟨h1,tk,rfl,hk⟩:=x.done;have noA:∀b:Addr,b∉(nN CX P w K mg base N qual scope f cd A outer s H E).ex:=λb z=>absurd (show b∈([]:List Addr) from z) (by simp);refine⟨⟨e0.mod,S.kind,rfl,rfl,yJ _,λy z c h1 h2=>?_,λy hy=>?_,λy c _ h=>?_,λ_=>hd,Around.frames_deeper e0.frames,.inr ⟨rfl,rfl⟩,λb z=>absurd z (noA b),e0.bs,e0.bsz,λb _ _=>noA b,λb z=>absurd z (noA b),e0.funs,e0.frf⟩,
  rfl,e0.bare,Un.kept hk,⟨_,x.toInCall.ns,λi y v h1 h2 h3=>?_⟩,λy c h=>⟨_,x.cell y c h⟩,e0.hok.fresh (yJ _),λy c h=>?_,λp hp=>absurd (show p∈([]:List (Addr×Obj)) from hp) (by simp),e0.hok.kept hk,?_⟩
 ·exact name_of_addr x.apart (jU h1) (jU h2)
 ·have hy:scope.names.lookup y=some .cell\/scope.names.lookup y=some .free:=hy;rcases hy with hy|hy
  ·exact nu hy
  ·exact absurd rfl (S.nofree _ (jU hy))
 ·exact jO (x.above y c (jU h))
 ·have hi:i < vs.length:=by
   unfold start at h2;by_cases hi:i < vs.length
   ·exact hi
   ·rw[yQ (by simpa using hi)] at h2;rw[yU] at h2;split at h2<;>cases h2
  have ha:vs[i]?=some v:=by
   unfold start at h2;rw[yP (by simpa using hi),zO] at h2;cases e:vs[i]? with
   | none=>rw[e] at h2;cases h2
   | some a=>rw[e] at h2;cases h2;rfl
  let⟨u,hu,rv⟩:=r.get ha;have hp:ps[i]?=some y:=by
   rw[<- S.pre,List.getElem?_take_of_lt (by lia)];exact h1
  have ndP:ps.Nodup:=by rw[<- S.pre];exact S.nd.sublist (List.take_sublist _ _)
  refine⟨u,rv,?_⟩;rcases S.par y (xY hp) with k|k
  ·exact .inl ⟨k,pA ndP hp hu k⟩
  ·let⟨c,e⟩:=nu (n:=s.heap.objs.size+1) k;refine .inr ⟨.inl k,c,e,?_⟩;have q:=x.cell y c e;rw[qh ndP hp hu (by show scope.names.lookup y≠_;rw[k];decide)] at q;exact q
 ·exact e0.hok.fresh (jO (x.above y c (jU h)))
 ·unfold start;show _=N.length;rw[zN,zD,xI];lia
def B1{K:W.Frag}{kV:Value}
  {osl:Array (Option Value)}{N ps:List Str}{sp:Sp}(lk:K.lookup f=some ⟨oc,od,.func (W.fnOf name qual params body scope dV kV doc pm an cdv ct),osl⟩) (hcd:W.codeIn K cdv qual=true) (S:b9 N ps scope)
  (len:∀vs H Q E,sp vs H Q E->vs.length=ps.length)
  (hbody:∀ (A:Around) (outer:List Env) (s:Shared) (H:Hp) (vs:List V) (Q:VK) (E:XK),gu k (A.deeper (envOfC qual scope s.heap.objs.size f cdv))->sp vs H Q E ->
   ∃t,so (nN CX P w K mg base N qual scope f cdv A outer s H E) body t/\t { nx:=λ_ H'=>Q .non H',rt:=Q } (start N vs) H) :
  mI P w K mg base CX (k+1) f (W.fnOf name qual params body scope dV kV doc pm an cdv ct) ps sp:=by
 refine⟨len,λA outer s H args us vs Q E hr e0 hb r hsp=>?_⟩;have hl:=len _ _ _ _ hsp;have KX:K.In s.heap:=e0.mod.kin.keeps λb o e=>(e0.bs b o e).1;have lim:s.heap.NoLimit:=e0.mod.nolimit.keeps λb o e=>(e0.bs b o e).1;have hkind:∀y∈ps.zip us,scope.names.lookup y.1=some .local \/ (scope.names.lookup y.1=some .cell/\((cellsFrom (s.heap.objs.size+1) scope.names []).lookup y.1).isSome=true):=λ⟨n,v⟩ hy=>by
  rcases S.par n (vE hy).1 with q|q
  ·exact .inl q
  ·exact .inr ⟨q,W.cellsFrom_some _ _ _ (.inl q)⟩
 refine codeAny_call_function hr.depth (KX _ _ lk) rfl S.co S.gen rfl (W.codeRec_of KX hcd) (hb _ _ _ _ ?_);refine wpAny_newFunctionEnv_cells S.kind hkind λenv he s1 x=>?_;subst he;refine⟨lim.keeps x.toInCall.keep,codeAny_func ?_⟩;let⟨t,ht,hq⟩:=hbody A outer s H vs Q E (hr.deeper _) hsp;have I:Inv (nN CX P w K mg base N qual scope f cdv A outer s H E) [] (start N vs) H s1:=pP S hr.hd e0 hl r x;refine yX (ht [] s1 (start N vs) H _ I hq) (λfl s' hs=>?_) λe s' hs=>hs;have fin:∀ {σ':St}{H':Hp}{v:V}{u:Value},Inv (nN CX P w K mg base N qual scope f cdv A outer s H E) [] σ' H' s'->RelV v u->Q v H'->CE outer P w H s Q u s' :=
  λ{σ' H' v u} J rv q=>⟨v,H',J.os,J.bare,J.base,J.hok,rv,q⟩
 cases fl with
 | ret u =>
  let⟨v,σ',H',J,rv,q⟩:=hs;exact fin J rv q
 | next =>
  let⟨σ',H',J,q⟩:=hs;exact fin (v:=V.non) (u:=Value.none) J rfl q
 | brk =>
  let⟨_,_,_,q⟩:=hs;exact False.elim q
 | cont =>
  let⟨_,_,_,q⟩:=hs;exact False.elim q
section
variable {id T:String}
def NU(r:List V->Hp->VK->Prop)(t:TA):TE:=λσ H Q=>t σ H λvs H1=>r vs H1 Q
def lb(hc:cK X (.builtin id) r)(hg:Gl X x)(hm:X.mg x=none)(hv:bootBuiltins x=some (.builtin id))(ha:PA X (e::es) t)(hn:x≠"__name__":=by decide)(hdb:(x == ("__debug__":Str))=false:=by decide)
  (he:starEach (e::es) X.env=(false,eval e X.env)::starEach es X.env:=by rfl) (hpl:(backTo pos (starEach es X.env)).any (·.1)=false:=by rfl):PE X (.Call (.Name x p) (e::es) [] pos) (NU r t):=by
 intro pins s σ H Q I h;refine qT (gW I hg hm hv ?_ hn hdb);exact PyProof.Rows.callWith_builtin1 (bK (ha pos pins s σ H _ I h) λus s1 ⟨vs,H1,I1,r1,q1⟩=>hc pins s1 σ H1 vs us Q I1 r1 q1) he hpl
def lV(hc:cK X (.type T) r)(hg:Gl X x)(hm:X.mg x=none)(hv:bootBuiltins x=some (.type T))(ha:PA X (e::es) t)(hn:x≠"__name__":=by decide)(hdb:(x == ("__debug__":Str))=false:=by decide)
  (he:starEach (e::es) X.env=(false,eval e X.env)::starEach es X.env:=by rfl) (hpl:(backTo pos (starEach es X.env)).any (·.1)=false:=by rfl):PE X (.Call (.Name x p) (e::es) [] pos) (NU r t):=by
 intro pins s σ H Q I h;refine qT (gW I hg hm hv ?_ hn hdb);exact qN (bK (ha pos pins s σ H _ I h) λus s1 ⟨vs,H1,I1,r1,q1⟩=>hc pins s1 σ H1 vs us Q I1 r1 q1) he hpl
end
end L2
namespace HT
open PySem PyProof.Rows
def lexLt:List Int->List Int->Bool
 | [],[]=>false
 | [],_::_=>true
 | _::_,[]=>false
 | x::xs,y::ys=>if x=y then lexLt xs ys else decide (x < y)
def dq(x y:Int)(xs ys:List Int):lexLt (x::xs) (y::ys)=if x=y then lexLt xs ys else decide (x < y):=rfl
section
open PySem.SeqAt
open PySem.AutoSeq1 (wpAny_loadPart')
open PySem.MeetsSeq PySem.MeetsSeq2 PySem.MeetsSeq3
end
def Hq(ht:IsTup s.heap t vs.toArray)(hb:IsTup s.heap b ws.toArray)(hv:vs≠[])
  (h1:ws=[]->Q (.ref t) s) (h2:ws≠[]->Q (.ref s.heap.objs.size) { s with heap:=s.heap.push { cls:=.type "tuple",data:=.seq (vs++ws).toArray } })
  (hsz:vs.length+ws.length<=sizeLine):wpAny (model prog w) A (binaryOp .Add (.ref t) (.ref b)) Q E s:=by
 let⟨⟨cls,dd,data,sl⟩,ho,hc,n,hd⟩:=id ht;let⟨⟨cls2,dd2,data2,sl2⟩,ho2,hc2,n2,hd2⟩:=id hb;simp only at hc hd hc2 hd2;subst hc hd hc2 hd2;have e:vs.toArray++ws.toArray=(vs++ws).toArray:=by simp
 by_cases hw:ws=[]
 ·exact vW ⟨_,ho,rfl⟩ ⟨_,ho2,rfl⟩ noFill_tuple_add seq_tuple_add kZ kU (kR _ _)
   (tuple_addW1 t b vs.toArray ws.toArray n n2 dd dd2 sl sl2 (by simpa using hv) (by simp[hw])) ⟨ho,ho2,h1 hw⟩
 ·refine vW ⟨_,ho,rfl⟩ ⟨_,ho2,rfl⟩ noFill_tuple_add seq_tuple_add kZ kU (kR _ _)
   (tuple_addW2 t b vs.toArray ws.toArray n n2 dd dd2 sl sl2 (by simpa using hv) (by simpa using hw) (by rw[zH,zH];exact hsz)) ⟨ho,ho2,?_⟩
  rw[e];exact h2 hw
def bg(n d:Nat):Option Int->Nat
 | none=>d
 | some v=>if v < 0 then (v+(n:Int)).toNat else min v.toNat n
def tK(n d:Nat):bg n d none=d:=rfl
def yz(n d k:Nat):bg n d (some (k:Int))=min k n:=by
 show (if (k:Int) < 0 then ((k:Int)+(n:Int)).toNat else min (k:Int).toNat n)=min k n;rw[yK (by lia),yE]
def ix(n d:Nat)(hd:d<=n)(o:Option Int):bg n d o<=n:=by
 cases o with
 | none=>exact hd
 | some v =>
  show (if v < 0 then (v+(n:Int)).toNat else min v.toNat n)<=n;by_cases hv:v < 0
  ·rw[yI hv];lia
  ·rw[yK hv];exact Nat.min_le_right _ _
def xx(v:Int)(n d:Nat):(if v < 0 then max (v+(n:Int)) 0 else min v (n:Int))=((bg n d (some v):Nat):Int):=by
 show (if v < 0 then max (v+(n:Int)) 0 else min v (n:Int))=(((if v < 0 then (v+(n:Int)).toNat else min v.toNat n):Nat):Int)
 by_cases hv:v < 0
 ·simp?[yI hv];lia
 ·simp?[yK hv];lia
def vf(lo hi:Option Int)(n:Nat):Builtin.Slice.sliceAdjust lo hi 1 (n:Int)=(((bg n 0 lo:Nat):Int),((bg n n hi:Nat):Int)):=by
 have h1:¬ ((1:Int) < 0):=by lia
 unfold Builtin.Slice.sliceAdjust;simp?[h1,qL];refine Prod.ext ?_ ?_
 ·cases lo with
  | none=>rfl
  | some v=>exact xx v n 0
 ·cases hi with
  | none=>rfl
  | some v=>exact xx v n n
def wg(i j:Nat):Builtin.Slice.slicePlaces (i:Int) (j:Int) 1=j - i:=by
 unfold Builtin.Slice.slicePlaces;have h1:(1:Int) > 0:=by lia
 simp?[h1,xE,Int.ediv_one];split<;>lia
def n8(p:IsPart v o)(h:Q o s):wpAny (model prog w) A (Builtin.Slice.slicePartIndex v) Q E s:=by
 cases p with
 | none=>exact slicePart_none h
 | int i t=>exact slicePart_int h
def gz{vl:Value}{lo hi:Option Int}{n:Nat}{Q:Int×Int×Nat->Shared->Prop}(hs:s.heap.IsSliceOf sl vl vu .none)(pl:IsPart vl lo)(pu:IsPart vu hi)
  (h:Q (((bg n 0 lo:Nat):Int),1,bg n n hi - bg n 0 lo) s):wpAny (model prog w) A (Builtin.Slice.sliceApplied (.ref sl) (pure (n:Int))) Q E s:=by
 let⟨os,hos,hcs,hds⟩:=id hs;unfold Builtin.Slice.sliceApplied Builtin.Slice.sliceFields;refine zT (zT (qP hos hds (x:=vl) rfl (zT (qP hos hds (x:=vu) rfl (zT (qP hos hds (x:=.none) rfl (zU ?_)))))));refine zT (slicePart_none ?_);show wpAny _ _ (if ((1:Int) == 0)=true then _ else _) _ _ s;rw[yK (by decide)];refine zT (n8 pl (zT (n8 pu (zT (zU ?_)))));show wpAny _ _ (match Builtin.Slice.sliceAdjust lo hi 1 (n:Int) with|(lo,hi)=>pure (lo,(1:Int),Builtin.Slice.slicePlaces lo hi 1)) _ _ s;rw[vf lo hi n];show wpAny _ _ (pure (((bg n 0 lo:Nat):Int),(1:Int),Builtin.Slice.slicePlaces ((bg n 0 lo:Nat):Int) ((bg n n hi:Nat):Int) 1)) _ _ s;rw[wg];exact zU h
def D7(xs:Array Value)(i k:Nat):((List.range k).filterMap λ(m:Nat)=>xs[((i:Int)+(m:Int) * 1).toNat]?).toArray=((xs.toList.drop i).take k).toArray:=by
 have e:(λ(m:Nat)=>xs[((i:Int)+(m:Int) * 1).toNat]?)=λm=>xs[i+m]?:=by
  funext m;have:((i:Int)+(m:Int) * 1).toNat=i+m:=by lia
  rw[this]
 rw[e];have:=pick_run xs i k;rw[List.filterMap_map] at this;have e2:((λx=>xs[x]?) ∘ λx=>i+x)=λm=>xs[i+m]?:=rfl;rw[e2] at this;rw[this]
def ki{items:Array Value}{vl:Value}{lo:Option Int}(ht:IsTup s.heap t items)(hs:s.heap.IsSliceOf sl vl vu .none)(pl:IsPart vl lo)(pu:IsPart vu hi)
  (hw:¬ (bg items.size 0 lo=0/\bg items.size items.size hi=items.size))
  (h:Q (.ref s.heap.objs.size) { s with heap:=s.heap.push { cls:=.type "tuple",data:=.seq ((items.toList.drop (bg items.size 0 lo)).take (bg items.size items.size hi - bg items.size 0 lo)).toArray } })
  (hsz:items.size<=sizeLine):wpAny (model prog w) A (getItem (.ref t) (.ref sl)) Q E s:=by
 have htake:sizeOk (.seq ((items.toList.drop (bg items.size 0 lo)).take (bg items.size items.size hi - bg items.size 0 lo)).toArray):=by
  show ((items.toList.drop (bg items.size 0 lo)).take (bg items.size items.size hi - bg items.size 0 lo)).toArray.size<=sizeLine;rw[zH,jR,qE,vP];lia
 have hj:bg items.size items.size hi<=items.size:=ix _ _ (yJ _) hi;let⟨os,hos,hcs,hds⟩:=id hs;have hTs:s.TypeIs (.ref sl) "slice":=⟨os,hos,hcs⟩
 unfold getItem
 try with_reducible refine xU ?_
 first|refine zT (zU ?_)|skip
 refine zT (wpAny_sequenceKey ht.typeIs (by decide) ?_);refine zT (xZ (name:=Str.ofString "__getitem__") ht.typeIs jA
  (qQ jA ht.typeIs entry_tuple_getitem ?_ (args_tuple_getitem _ _)))
 show wpAny _ _ (Builtin.Tuple.tupleItemsOf (.ref t) >>= _) _ _ s;refine zT (tupleItemsOf_ ht ?_);refine zT (vV hTs ?_);rw[yI (by decide)];refine zT (gz hs pl pu ?_);have hno:¬ ((((bg items.size 0 lo:Nat):Int) == 0&&(1:Int) == 1&&(bg items.size items.size hi - bg items.size 0 lo) == items.size)=true):=by
  intro q;rw[zF,zF] at q;have q1:((bg items.size 0 lo:Nat):Int)=0:=eq_of_beq q.1.1;have q2:bg items.size items.size hi - bg items.size 0 lo=items.size:=eq_of_beq q.2;exact hw ⟨by lia,by lia⟩
 show wpAny _ _ (if (((bg items.size 0 lo:Nat):Int) == 0&&(1:Int) == 1&&(bg items.size items.size hi - bg items.size 0 lo) == items.size)=true then _ else _) _ _ s;rw[yK hno,D7]
 first
  | exact zT (m:=Builtin.Tuple.tupleExact _) (qH (zU ⟨_,rfl,zU h⟩) htake)
  | exact zT (m:=Builtin.Tuple.tupleExact _) (qH (zT (zU (zU ⟨_,rfl,zU h⟩))) htake)
  | exact zT (zT (m:=Builtin.Tuple.tupleExact _) (qH (zU (zU ⟨_,rfl,zU h⟩)) htake))
  | exact zT (zT (m:=Builtin.Tuple.tupleExact _) (qH (zU ⟨_,rfl,zU h⟩) htake))
end HT
namespace L2
open PySem PySem.Spec PyProof.Rows
abbrev TO:=St->Hp->(Option Int->Hp->Prop)->Prop
def PO(X:Cx)(e:Option Expr)(t:TO):Prop :=
 ∀ (pins:List (Addr×Obj)) (s:Shared) (σ:St) (H:Hp) (Q:Option Int->Hp->Prop),Inv X pins σ H s->t σ H Q ->
  wpAny (model X.prog X.w) X.A (evalPart e X.env) (λu s'=>∃o H',Inv X pins σ H' s'/\IsPart u o/\Q o H') X.xe s
def HV:TO:=λ_ H Q=>Q none H
def MC(t:TE):TO:=λσ H Q=>t σ H λx H1=>∃i,x=.int i/\Q (some i) H1
def intsAre_of:∀ {us:List Value},aE (ns.map V.int) us->IntsAre us ns:=by
 induction ns with
 | nil=>intro us r;rw[yR] at r;cases r;exact .nil
 | cons n ns ih =>
  intro us r;rw[zI] at r;cases r with
  | cons r1 r2 =>
   let⟨t,e⟩:=r1;subst e;exact .cons n t (ih r2)
section
variable {lo hi:Option Expr}
def GV:PO X none HV:=by
 intro pins s σ H Q I h;rw[evalPart_none];exact zU ⟨none,H,I,.none,h⟩
def zk(h:PE X e te):PO X (some e) (MC te):=by
 intro pins s σ H Q I hw;rw[evalPart_some];refine bK (h pins s σ H _ I hw) λu s1 ⟨x,H1,I1,r1,q1⟩=>?_;let⟨i,rfl,q⟩:=q1;let⟨t,rfl⟩:=r1;exact⟨some i,H1,I1,.int i t,q⟩
def GY(X:Cx)(r:V->Option Int->Option Int->Hp->VK->Prop):Prop :=
 ∀ (pins:List (Addr×Obj)) (s:Shared) (σ:St) (H:Hp) (x:V) (v vl vu:Value) (lo hi:Option Int) (sl:Addr) (Q:VK),Inv X pins σ H s->RelV x v->s.heap.IsSliceOf sl vl vu .none->IsPart vl lo->IsPart vu hi->r x lo hi H Q ->
  ∃T id,typeLookup (.type T) "__getitem__"=pure (some (.builtin id))/\s.TypeIs v T/\wpAny (model X.prog X.w) X.A (getItem v (.ref sl)) (EP X pins σ Q) X.xe s
def GY.or(h:GY X r)(h':GY X r'):GY X (λx lo hi H Q=>r x lo hi H Q\/r' x lo hi H Q):=by
 intro pins s σ H x v vl vu lo hi sl Q I rx hs pl pu q;rcases q with q|q
 ·exact h pins s σ H x v vl vu lo hi sl Q I rx hs pl pu q
 ·exact h' pins s σ H x v vl vu lo hi sl Q I rx hs pl pu q
def Qj(r:V->Option Int->Option Int->Hp->VK->Prop)(te:TE)(tl th:TO):TE:=λσ H Q=>te σ H λx H1=>tl σ H1 λl H2=>th σ H2 λu H3=>r x l u H3 Q
def ua(hr:GY X r)(he:PE X e te)(hl:PO X lo tl)(hu:PO X hi th):PE X (.Subscript e (.Slice lo hi none p2) pos) (Qj r te tl th):=by
 intro pins s σ H Q I h;refine Subscript_ (bK (he pins s σ H _ I h) λv s1 ⟨x,H1,I1,r1,q1⟩=>?_);refine wpAny_Slice (bK (hl pins s1 σ H1 _ I1 q1) λvl s2 ⟨l,H2,I2,pl,q2⟩=>bK (hu pins s2 σ H2 _ I2 q2) λvu s3 ⟨u,H3,I3,pu,q3⟩=>?_);rw[evalPart_none];refine zU ?_;have I4:Inv X pins σ H3 { s3 with heap:=s3.heap.push { cls:=.type "slice",data:=.fields #[vl,vu,.none] } }:=I3.kept (t':=s3.toks) λb ob q=>zS _ q;let⟨T,id,hT,ht,hg⟩:=hr pins { s3 with heap:=s3.heap.push { cls:=.type "slice",data:=.fields #[vl,vu,.none] } } σ H3 x v vl vu l u s3.heap.objs.size Q I4 r1 (Heap.IsSliceOf.new ..) pl pu q3;show wpAny (model X.prog X.w) X.A (subscriptTail e (.Slice lo hi none p2) v (.ref s3.heap.objs.size)) (EP X pins σ Q) X.xe { s3 with heap:=s3.heap.push { cls:=.type "slice",data:=.fields #[vl,vu,.none] } };exact tail_any (ops:=[.ref s3.heap.objs.size,v]) ht hT hg (by with_unfolding_all rfl)
def Gi(xs:List V)(lo hi:Option Int):List V:=(xs.drop (HT.bg xs.length 0 lo)).take (HT.bg xs.length xs.length hi - HT.bg xs.length 0 lo)
def tq(xs:List V)(lo hi:Option Int):(Gi xs lo hi).length<=xs.length:=by
 unfold Gi;rw[jR,qE];lia
def OP(K:W.Frag):V->Option Int->Option Int->Hp->VK->Prop:=λx lo hi H Q=>∃a xs,x=.ref a/\eZ K H a xs /\
 ¬ (HT.bg xs.length 0 lo=0/\HT.bg xs.length xs.length hi=xs.length)/\∀p,H p=none->Q (.ref p) (upd H p (.tup (Gi xs lo hi)))
def Kv:GY X (OP X.K):=by
 intro pins s σ H x v vl vu lo hi sl Q I rx hs pl pu h;let⟨a,xs,rfl,hx,hw,q⟩:=h;cases rx;let⟨its,r,ht,hz⟩:=I.tuple hx;have hlen:its.toArray.size=xs.length:=by rw[zH];exact r.length.symm
 refine⟨"tuple",_,PyProof.Rows.slot_tuple_getitem.lookup,ht.typeIs,?_⟩;refine HT.ki ht hs pl pu (by rw[hlen];exact hw) ?_ (by rw[hlen];exact hz);rw[hlen];refine⟨.ref s.heap.objs.size,_,I.laid (t':=s.toks) (o:=.tup (Gi xs lo hi)) (λb ob q=>zS _ q) (yJ _) ?_,rfl,q _ (I.hok.fresh (yJ _))⟩;exact⟨yB (tq xs lo hi) hz,_,(r.drop (HT.bg xs.length 0 lo)).take (HT.bg xs.length xs.length hi - HT.bg xs.length 0 lo),mE.new _ _⟩
def MD(K:W.Frag):R2:=λx y H Q=>∃a b xs ys,x=.ref a/\y=.ref b/\eZ K H a xs/\eZ K H b ys/\xs≠[]/\xs.length+ys.length<=sizeLine /\
 (ys=[]->Q (.ref a) H)/\(ys≠[]->∀p,H p=none->Q (.ref p) (upd H p (.tup (xs++ys))))
def aE.nil_iff(r:aE xs us):us=[]↔xs=[]:=by
 cases r with
 | nil=>simp
 | cons _ _=>simp
def GL:eC X (binaryOp .Add) (MD X.K):=by
 intro pins s σ H x y v u Q I rx ry h;let⟨a,b,xs,ys,rfl,rfl,ha,hb,hx,hz,q1,q2⟩:=h;cases rx;cases ry;let⟨its,r1,p1,_⟩:=I.tuple ha;let⟨its2,r2,p2,_⟩:=I.tuple hb;refine HT.Hq p1 p2 (λz=>hx (r1.nil_iff.mp z)) (λz=>⟨.ref a,H,I,rfl,q1 (r2.nil_iff.mp z)⟩) (λz=>?_) (by rw[<- r1.length,<- r2.length];exact hz);refine⟨.ref s.heap.objs.size,_,I.laid (t':=s.toks) (o:=.tup (xs++ys)) (λb ob q=>zS _ q) (yJ _) ?_,rfl,q2 (λw=>z (r2.nil_iff.mpr w)) _ (I.hok.fresh (yJ _))⟩;exact⟨by rw[zN];exact hz,_,r1.append r2,mE.new _ _⟩
end
def Do(n:Nat)(i:Int):Option Nat:=if 0<=i then (if i < n then some i.toNat else none) else if -(n:Int)<=i then some (i+n).toNat else none
def mR(xs:List α)(i:Int):Option α:=(Do xs.length i).bind λj=>xs[j]?
def yl(h:Do n i=some j):seqIndex? i n=some j/\j < n/\-(n:Int)<=i/\i < n:=by
 unfold Do at h;by_cases h0:0<=i
 ·rw[yI h0] at h;by_cases h1:i < n
  ·rw[yI h1] at h;have e:i.toNat=j:=xA h;exact⟨by rw[seqIndex_of h0 h1,e],by lia,by lia,h1⟩
  ·rw[yK h1] at h;cases h
 ·rw[yK h0] at h;by_cases h1:-(n:Int)<=i
  ·rw[yI h1] at h;have e:(i+n).toNat=j:=xA h;exact⟨by rw[seqIndex_neg (by lia) h1,e],by lia,h1,by lia⟩
  ·rw[yK h1] at h;cases h
def qx(h:mR xs i=some v):∃j,seqIndex? i xs.length=some j/\xs[j]?=some v/\j < xs.length/\-(xs.length:Int)<=i/\i < xs.length:=by
 unfold mR at h;cases e:Do xs.length i with
 | none=>rw[e] at h;cases h
 | some j =>
  rw[e] at h;let⟨h1,h2,h3,h4⟩:=yl e;exact⟨j,h1,h,h2,h3,h4⟩
def sj{α:Type}{xs:List α}{j:Nat}{v:α}(h:xs[j]?=some v):mR xs (j:Int)=some v:=by
 have hj:j < xs.length:=(List.getElem?_eq_some_iff.mp h).1;have e:Do xs.length (j:Int)=some j:=by
  unfold Do;rw[yI (by lia),yI (by lia)];simp
 unfold mR;rw[e];exact h
def kq(b:Expr):Prop:=∀o i,subscripted b false o i=operate [o,i] (getItem o i)
def Fz(X:Cx)(r:R2):Prop :=
 ∀ (value slice:Expr) (pins:List (Addr×Obj)) (s:Shared) (σ:St) (H:Hp) (x y:V) (v u:Value) (Q:VK),Inv X pins σ H s->RelV x v->RelV y u->r x y H Q ->
  subscripted slice false v u=operate [v,u] (getItem v u)->wpAny (model X.prog X.w) X.A (subscriptTail value slice v u) (EP X pins σ Q) X.xe s
def PL(X:Cx)(id:String)(r:V->List V->Hp->VK->Prop):Prop :=
 ∀ (pins:List (Addr×Obj)) (s:Shared) (σ:St) (H:Hp) (x:V) (xs:List V) (v:Value) (us:List Value) (Q:VK),Inv X pins σ H s->RelV x v->aE xs us->r x xs H Q ->
  wpAny (model X.prog X.w) X.A (call (.builtin id) (v::us)) (EP X pins σ Q) X.xe s
section
def Fz.or(h:Fz X r)(h':Fz X r'):Fz X (λx y H Q=>r x y H Q\/r' x y H Q):=by
 intro value slice pins s σ H x y v u Q I rx ry q hs;rcases q with q|q
 ·exact h value slice pins s σ H x y v u Q I rx ry q hs
 ·exact h' value slice pins s σ H x y v u Q I rx ry q hs
def Dq(hr:Fz X r)(ha:PE X a ta)(hb:PE X b tb)(hs:kq b):PE X (.Subscript a b pos) (Mv r ta tb):=by
 intro pins s σ H Q I h;exact Subscript_ (LK ha hb I h λv u s2 x y H2 I2 rx ry q=>hr a b pins s2 σ H2 x y v u Q I2 rx ry q (hs _ _))
def Nc(K:W.Frag):R2:=λx y H Q=>∃p xs i v,x=.ref p/\y=.int i/\fD K H p xs/\mR xs i=some v/\Q v H
def Mc(K:W.Frag):R2:=λx y H Q=>∃p xs i v,x=.ref p/\y=.int i/\eZ K H p xs/\mR xs i=some v/\Q v H
def JK:R2:=λx y H Q=>∃z i c,x=.str z/\y=.int i/\z.length<=sizeLine/\mR z.cps.toList i=some c/\Q (.str ⟨#[c]⟩) H
def GX:Fz X (Nc X.K):=by
 intro value slice pins s σ H x y v u Q I rx ry h hs;let⟨p,xs,i,z,rfl,rfl,hq,he,q⟩:=h;cases rx;let⟨t,rfl⟩:=ry;let⟨its,r,pl,hz⟩:=I.list hq;let⟨j,h1,h2,h3,h4,h5⟩:=qx he;let⟨w,ew,rw'⟩:=r.get h2;have hl:=r.length;have hn:=lI;have fin:EP X pins σ Q w s:=⟨z,H,I,rw',q⟩
 by_cases h0:0<=i
 ·have hj:i.toNat=j:=by
   rw[seqIndex_of h0 h5] at h1;exact xA h1
  exact item_listR pl.isList h0 (by lia) (by rw[hj];simpa using ew) fin hs
 ·have hj:(i+(its.toArray.size:Int)).toNat=j:=by
   rw[seqIndex_neg (by lia) h4] at h1;rw[zH,<- hl];exact xA h1
  exact subscriptTail_builtinR (x:=w) pl.isList.typeIs slot_list_getitem.lookup
   (wpAny_getItem_list_neg (Q:=λr s'=>r=w/\EP X pins σ Q r s') pl.isList (by lia) (by rw[zH]<;>lia) (by lia) (by rw[hj];simpa using ew) ⟨rfl,fin⟩) hs
def v5:Fz X (Mc X.K):=by
 intro value slice pins s σ H x y v u Q I rx ry h hs;let⟨p,xs,i,z,rfl,rfl,hq,he,q⟩:=h;cases rx;let⟨t,rfl⟩:=ry;let⟨its,r,pl,hz⟩:=I.tuple hq;let⟨j,h1,h2,h3,h4,h5⟩:=qx he;let⟨w,ew,rw'⟩:=r.get h2;have hl:=r.length;have hn:=lI;have fin:EP X pins σ Q w s:=⟨z,H,I,rw',q⟩
 exact subscriptTail_builtinR (x:=w) pl.typeIs slot_tuple_getitem.lookup
  (getItem_tuple (j:=j) (Q:=λr s'=>r=w/\EP X pins σ Q r s') pl (by lia) (by lia) (by rw[zH,<- hl];exact h1) (by simpa using ew) ⟨rfl,fin⟩) hs
def DV:Fz X JK:=by
 intro value slice pins s σ H x y v u Q I rx ry h hs;let⟨z,i,c,rfl,rfl,hz,he,q⟩:=h;let⟨t,rfl⟩:=rx;let⟨t',rfl⟩:=ry;let⟨j,h1,h2,h3,h4,h5⟩:=qx he;have hl:z.cps.toList.length=z.length:=by simp[Str.length]
 rw[hl] at h1 h4 h5;have hn:=lI;exact tail_any (typeIs_str s z t) slot_str_getitem.lookup (getItem_str (c:=c) (by
  have e1:decide (i < -(2 ^ 63:Int))=false:=zX (by lia);have e2:decide (i >= 2 ^ 63)=false:=zX (by lia);rw[e1,e2,Bool.or_false]) (by rw[h1];simpa using h2) ⟨.str ⟨#[c]⟩,H,I.tok _,⟨_,rfl⟩,q⟩) hs
def Py(K:W.Frag):R2:=λx y H Q=>Nc K x y H Q\/Mc K x y H Q\/JK x y H Q
def Lz:Fz X (Py X.K):=GX.or (v5.or DV)
def u6(its:List Value)(n j:Nat)(u:Value):Obj.mapSeq (·.setIfInBounds j u) { cls:=.type "list",data:=.seq its.toArray n }={ cls:=.type "list",data:=.seq (its.set j u).toArray n }:=by
 simp[Obj.mapSeq]
def Inv.lst(I:Inv X pins σ H s)(h:H p=some (.lst xs)) :
  ∃ (its:List Value) (n:Nat),aE xs its/\s.heap.get? p=some { cls:=.type "list",data:=.seq its.toArray n }/\xs.length<=sizeLine:=by
 let⟨z,its,n,r,e⟩:=I.hok p _ h;exact⟨its,n,r,e,z⟩
def Inv.lstUpd{ys:List V}{its its':List Value}{n n':Nat}{f:Obj->Obj}(I:Inv X pins σ H s)(h:H p=some (.lst xs))
  (ho:s.heap.get? p=some { cls:=.type "list",data:=.seq its.toArray n }) (hf:f { cls:=.type "list",data:=.seq its.toArray n }={ cls:=.type "list",data:=.seq its'.toArray n' }) (r:aE ys its') (hz:ys.length<=sizeLine) (t:Nat) :
  Inv X pins σ (upd H p (.lst ys)) { s with heap:=s.heap.update p f,toks:=t }:=by
 have e:(s.heap.update p f).get? p=some { cls:=.type "list",data:=.seq its'.toArray n' }:=by
  rw[Heap.get?_update_self f ho (by rw[hf]<;>rfl),hf]
 refine I.write (x:=p) (e:=p) (by rw[h];trivial) (.inl rfl) (λb u hb q=>(xJ _ _ (jI hb)).trans q) ⟨_,e⟩ ?_;exact⟨hz,its',n',r,e⟩
def Mq:V->V->V->Hp->(Hp->Prop)->Prop:=λo i v H Q=>∃p xs k j,o=.ref p/\i=.int k/\H p=some (.lst xs)/\Do xs.length k=some j/\Q (upd H p (.lst (xs.set j v)))
def set_list:Lh X Mq:=by
 intro pins s σ H o i v ov iv u Q I ro ri rv h;let⟨p,xs,k,j,rfl,rfl,hp,hj,q⟩:=h;cases ro;let⟨t,rfl⟩:=ri;let⟨its,n,r,ho,hz⟩:=I.lst hp;let⟨h1,h2,h3,h4⟩:=yl hj;have hl:=r.length;have hn:=lI;have I':Inv X pins σ (upd H p (.lst (xs.set j v))) { s with heap:=s.heap.update p (Obj.mapSeq (·.setIfInBounds j u)) } :=
  I.lstUpd hp ho (u6 its n j u) (r.set rv j) (by rw[yA];exact hz) s.toks
 by_cases h0:0<=k
 ·have hk:k.toNat=j:=by
   rw[seqIndex_of h0 h4] at h1;exact xA h1
  exact W.ki_setAt ho h0 (by lia) (by rw[zH,<- hl];exact h4) (by rw[hk];exact⟨_,I',q⟩)
 ·have hk:(k+(its.toArray.size:Int)).toNat=j:=by
   rw[seqIndex_neg (by lia) h3] at h1;rw[zH,<- hl];exact xA h1
  exact W.ki_setBack ho (by lia) (by rw[zH,<- hl];exact h3) (by lia) (by rw[hk];exact⟨_,I',q⟩)
def rG:cK X (.builtin "len") (λxs H Q=>∃p ys,xs=[.ref p]/\(fD X.K H p ys\/eZ X.K H p ys)/\Q (.int ys.length) H):=by
 intro pins s σ H xs us Q I r h;let⟨p,ys,rfl,hq,q⟩:=h;let⟨u,rfl,rx⟩:=vals1 r;cases rx;have hn:=lI;rcases hq with hq|hq
 ·let⟨its,r',pl,hz⟩:=I.list hq;have hlen:=r'.length;exact Calls.call_len_list pl.isList (by simp?[zH]<;>lia) ⟨.int ys.length,H,I.tok _,⟨s.toks+1,by rw[zH,hlen]⟩,q⟩
 ·let⟨its,r',pl,hz⟩:=I.tuple hq;have hlen:=r'.length;exact len_tuple pl (by simp?[zH]<;>lia) ⟨.int ys.length,H,I.tok _,⟨s.toks+1,by rw[zH,hlen]⟩,q⟩
def rK:cK X (.builtin "len") (λxs H Q=>∃z,xs=[.str z]/\z.length<=sizeLine/\Q (.int z.length) H):=by
 intro pins s σ H xs us Q I r h;let⟨z,rfl,hz,q⟩:=h;let⟨u,rfl,t,rfl⟩:=vals1 r;have hn:=lI;exact len_str (by lia) ⟨.int z.length,H,I.tok _,⟨_,rfl⟩,q⟩
def sJ:cK X (.type "list") (λxs H Q=>∃p ys,xs=[.ref p]/\(fD X.K H p ys\/eZ X.K H p ys)/\∀l,H l=none->Q (.ref l) (upd H l (.lst ys))):=by
 intro pins s σ H xs us Q I r h;let⟨p,ys,rfl,hq,q⟩:=h;let⟨u,rfl,rx⟩:=vals1 r;cases rx;have fin:∀ (its:List Value),aE ys its->ys.length<=sizeLine->∀ (h':Heap) (c':Nat),(∀b o',s.heap.get? b=some o'->h'.get? b=some o') ->
   h'.get? s.heap.objs.size=some { cls:=.type "list",dict:=none,data:=.seq its.toArray c',slots:=#[] }->EP X pins σ Q (.ref s.heap.objs.size) { s with heap:=h' }:=λits r' hz h' c' kp e =>
  ⟨.ref s.heap.objs.size,_,I.laid (t':=s.toks) kp (yJ _) (show cL X.prog X.w _ h' _ (.lst ys) from ⟨hz,its,c',r',e⟩),rfl,q _ (I.hok.fresh (yJ _))⟩
 rcases hq with hq|hq
 ·let⟨its,r',pl,hz⟩:=I.list hq;have hlen:=r'.length;let⟨o,ho,hc,n,hd⟩:=pl.isList;exact call_list_seq p (.inl rfl) ho hc hd (λh' c' kp e=>fin its r' hz h' c' kp e) (by simp?[zH]<;>lia)
 ·let⟨its,r',pl,hz⟩:=I.tuple hq;have hlen:=r'.length;let⟨o,ho,hc,n,hd⟩:=pl;exact call_list_seq p (.inr rfl) ho hc hd (λh' c' kp e=>fin its r' hz h' c' kp e) (by simp?[zH]<;>lia)
def oY:cK X (.type "tuple") (λxs H Q=>∃p ys,xs=[.ref p]/\((fD X.K H p ys/\∀l,H l=none->Q (.ref l) (upd H l (.tup ys)))\/(eZ X.K H p ys/\Q (.ref p) H))):=by
 intro pins s σ H xs us Q I r h;let⟨p,ys,rfl,h⟩:=h;let⟨u,rfl,rx⟩:=vals1 r;cases rx;rcases h with ⟨hq,q⟩|⟨hq,q⟩
 ·let⟨its,r',pl,hz⟩:=I.list hq;have hlen:=r'.length;refine call_tuple_list pl.isList (λh' kp=>?_) (by simp?[zH]<;>lia);have I1:Inv X pins σ H { s with heap:=h' }:=I.kept (t':=s.toks) kp;have I2:Inv X pins σ (upd H h'.objs.size (.tup ys)) { s with heap:=h'.push { cls:=.type "tuple",data:=.seq its.toArray } } :=
   I1.laid (t':=s.toks) (λb o e=>zS _ e) (yJ _) (show cL X.prog X.w _ _ _ (.tup ys) from ⟨hz,its,r',mE.new _ _⟩)
  exact⟨.ref h'.objs.size,_,I2,rfl,q _ (I1.hok.fresh (yJ _))⟩
 ·let⟨its,r',pl,hz⟩:=I.tuple hq;exact call_tuple_same pl ⟨.ref p,H,I,rfl,q⟩
def PJ(K:W.Frag)(T:String)(x:V)(H:Hp):Prop:=match x with
 | .str _=>T="str"
 | .int _=>T="int"
 | .ref p=>(T="list"/\∃xs,fD K H p xs)\/(T="tuple"/\∃xs,eZ K H p xs) \/
   (T="dict"/\((∃kvs,H p=some (.dK kvs))\/∃kvs,H p=some (.dT kvs)))\/(T="set"/\∃S n,H p=some (.set S n))
 | _=>False
def Kq(I:Inv X pins σ H s)(r:RelV x v)(ty:PJ X.K T x H) :
  s.TypeIs v T/\∀a,v=.ref a->∃ob,s.heap.get? a=some ob/\ob.dict=none:=by
 cases x with
 | str z =>
  let⟨t,rfl⟩:=r;cases (show T="str" from ty);exact⟨typeIs_str s z t,λ_ e=>nomatch e⟩
 | int i =>
  let⟨t,rfl⟩:=r;cases (show T="int" from ty);exact⟨vR s i t,λ_ e=>nomatch e⟩
 | ref p =>
  cases r;rcases ty with ⟨rfl,xs,hq⟩|⟨rfl,xs,hq⟩|⟨rfl,hk⟩|⟨rfl,S,n,hk⟩
  ·let⟨its,_,pl,_⟩:=I.list hq;refine⟨pl.isList.typeIs,λa e=>?_⟩;cases e;let⟨o,n,e,c,hd,_⟩:=pl;exact⟨o,e,hd⟩
  ·rcases hq with hq|⟨o,its,n,hk,hc,hd,_⟩
   ·let⟨_,_,_,⟨o,e1,e2,_⟩,o2,e3,e4⟩:=hq.ok I.hok;exact⟨⟨o,e1,e2⟩,λa e=>by cases e;exact⟨o2,e3,e4⟩⟩
   ·exact⟨⟨o,I.kIn p o hk,hc⟩,λa e=>by cases e;exact⟨o,I.kIn _ o hk,hd⟩⟩
  ·have z:∃o,s.heap.get? p=some o/\o.ExactDict:=by
    rcases hk with ⟨kvs,hk⟩|⟨kvs,hk⟩
    ·let⟨_,_,_,_,o,_,_,e,ex,_⟩:=I.hok p _ hk;exact⟨o,e,ex⟩
    ·let⟨_,_,_,_,o,_,_,e,ex,_⟩:=I.hok p _ hk;exact⟨o,e,ex⟩
   let⟨o,e,ex⟩:=z;refine⟨⟨o,e,ex.1⟩,λa e2=>?_⟩;cases e2;exact⟨o,e,ex.2.1⟩
  ·let⟨o,_,_,_,e,ex,_⟩:=I.hok p _ hk;refine⟨⟨o,e,ex.1⟩,λa e2=>?_⟩;cases e2;exact⟨o,e,ex.2.1⟩
 | _=>exact False.elim ty
def P1(K:W.Frag)(T:String)(r:V->List V->Hp->VK->Prop)(to:TE)(t:TA):TE:=λσ H Q=>to σ H λx H1=>PJ K T x H1/\t σ H1 λxs H2=>r x xs H2 Q
variable {T id:String}
def jf(pa:PlainAttrs T)(slot:Slot T name id)(hty:typeOf (.builtin id)=pure (.type "method_descriptor"))(hm:PL X id r)(ho:PE X o to)(ha:PA X (e::es) t)
  (hbase:attributeBase o name X.env (eval o X.env)=eval o X.env:=by rfl)
  (hfew:((backTo cpos (starEach (e::es) X.env)).all (λx=>!x.1)&&(backToKw cpos (keywordEach [] X.env)).all (λx=>x.1.isSome)
   &&decide ((e::es).length+([]:List Keyword).length+(if ([]:List Keyword).isEmpty then 0 else 1) < 30))=true:=by rfl)
  (hline:(apos.endLine == cpos.line)=true:=by rfl) (hs:starEach (e::es) X.env=(false,eval e X.env)::starEach es X.env:=by rfl) (hplain:(backTo cpos (starEach es X.env)).any (·.1)=false:=by rfl) :
  PE X (.Call (.Attribute o name apos) (e::es) [] cpos) (P1 X.K T r to t):=by
 intro pins s σ H Q I h;refine wpAny_Call_method_late hbase hfew hline rfl (bK (ho pins s σ H _ I h) λv s1 ⟨x,H1,I1,r1,ty,q1⟩=>?_);let⟨h1,h2⟩:=Kq I1 r1 ty;refine⟨T,id,pa,slot,hty,h1,h2,?_⟩;have hA:=ha cpos pins s1 σ H1 _ I1 q1;rw[hs] at hA ⊢;refine Calls.callWith_builtin (by show (false||(backTo cpos (starEach es X.env)).any (·.1))=false;rw[hplain]<;>rfl) (Calls.evalArgs_plain ?_);exact bK hA λus s2 ⟨vs,H2,I2,r2,q2⟩=>hm pins s2 σ H2 x vs v us Q I2 r1 r2 q2
/- xs.append(e),list.index on a module's tuple .. are PL facts of 06m -/
end
def FM(X:Cx)(id:String)(r:V->List V->Hp->VK->Prop):Prop :=
 ∀ (pins:List (Addr×Obj)) (s:Shared) (σ:St) (H:Hp) (x:V) (xs:List V) (v:Value) (us:List Value) (Q:VK),Inv X pins σ H s->RelV x v->aE xs us->r x xs H Q ->
  wpAny (model X.prog X.w) X.A (call (.builtin id) (v::us)) (EP X pins σ Q) X.xe s
def aE.one:∀ {x:V}{us:List Value},aE [x] us->∃u,us=[u]/\RelV x u
 | _,_,.cons r .nil=>⟨_,rfl,r⟩
def aE.two:∀ {x y:V}{us:List Value},aE [x,y] us->∃u v,us=[u,v]/\RelV x u/\RelV y v
 | _,_,_,.cons r (.cons q .nil)=>⟨_,_,rfl,r,q⟩
def aE.reverse(h:aE xs us):aE xs.reverse us.reverse:=by
 induction h with
 | nil=>exact .nil
 | cons r t ih=>rw[kO,kO];exact aE.append ih (.cons r .nil)
def aE.rep(h:aE xs us):∀k:Nat,aE (List.replicate k xs).flatten (List.replicate k us).flatten
 | 0=>.nil
 | k+1=>by
  rw[xB,xB,qJ,qJ];exact aE.append h (aE.rep h k)
def foldl_rep(its:List Value):∀ (k:Nat) (acc:List Value),
  List.foldl (λx1 x2=>x1++x2) acc.toArray (List.replicate k its.toArray)=(acc++(List.replicate k its).flatten).toArray
 | 0,acc=>by simp
 | k+1,acc=>by
  have e:acc.toArray++its.toArray=(acc++its).toArray:=by simp
  have e2:(acc++its)++(List.replicate k its).flatten=acc++(List.replicate (k+1) its).flatten:=by
   rw[xB,qJ,List.append_assoc]
  rw[<- e2,<- foldl_rep its k (acc++its),<- e,xB,List.foldl_cons]
section
variable {xs ys zs:List V}
def Inv.lset{its its':List Value}{n:Nat}{f:Array Value->Array Value}{t':Nat}(I:Inv X pins σ H s)(hH:H l=some (.lst xs))
  (e:s.heap.get? l=some { cls:=.type "list",data:=.seq its.toArray n }) (hf:f its.toArray=its'.toArray) (hv:aE ys its') (hz:ys.length<=sizeLine) :
  Inv X pins σ (upd H l (.lst ys)) { s with heap:=s.heap.update l (Obj.mapSeq f),toks:=t' }:=by
 have q:=PySem.IsL.update e f;rw[hf] at q;refine I.write (x:=l) (e:=l) (by rw[hH];exact trivial) (.inl rfl) (λb' u hb hu=>(xJ s.heap (Obj.mapSeq f) (jI hb)).trans hu) ⟨_,q⟩ ?_;exact⟨hz,its',_,hv,q⟩
def Inv.lnew{t':Nat}(I:Inv X pins σ H s)(hv:aE ys its)(hz:ys.length<=sizeLine) :
  Inv X pins σ (upd H s.heap.objs.size (.lst ys)) { s with heap:=s.heap.push { cls:=.type "list",data:=.seq its.toArray },toks:=t' } :=
 I.laid (λ_ _ q=>zS _ q) (yJ _) ⟨hz,its,0,hv,zV _ rfl⟩
def Inv.fresh(I:Inv X pins σ H s):H s.heap.objs.size=none:=I.hok.fresh (yJ _)
def Inv.lstM(I:Inv X pins σ H s)(hH:H l=some (.lst xs)):xs.length<=sizeLine/\∃ (its:List Value) (n:Nat),aE xs its/\xs.length=its.length/\s.heap.get? l=some { cls:=.type "list",data:=.seq its.toArray n }:=by
 let⟨z,its,n,r,e⟩:=I.hok l _ hH;exact⟨z,its,n,r,r.length,e⟩
def uq(h:n<=sizeLine):Builtin.List.listTooLong n=false:=by
 unfold Builtin.List.listTooLong;exact zX (by lia)
end
def Hj:V->List V->Hp->VK->Prop:=λx vs H Q=>∃l xs y,x=.ref l/\vs=[y]/\H l=some (.lst xs)/\xs.length < sizeLine/\Q .non (upd H l (.lst (xs++[y])))
def pV:FM X "list.append" Hj:=by
 intro pins s σ H x vs v us Q I rx rv h;let⟨l,xs,y,rfl,rfl,hH,hz,q⟩:=h;cases rx;let⟨u,rfl,ru⟩:=rv.one;let⟨z,its,n,r,hl,e⟩:=I.lstM hH;refine qS F.slot_list_append ⟨_,e,rfl⟩ F.entry_list_append (F.args_list_append_2 _ _) (PySem.list_append l its.toArray n u (by rw[zH];lia)) ⟨e,?_⟩;refine⟨.non,_,I.lset (its':=its++[u]) hH e (by simp) (r.append (.cons ru .nil)) ?_,rfl,q⟩;rw[zN,yZ];lia
def Iy:V->List V->Hp->VK->Prop:=λx vs H Q=>∃l b xs zs,x=.ref l/\vs=[.ref b]/\H l=some (.lst xs)/\H b=some (.lst zs)/\xs.length+zs.length<=sizeLine/\Q .non (upd H l (.lst (xs++zs)))
def AL:FM X "list.extend" Iy:=by
 intro pins s σ H x vs v us Q I rx rv h;let⟨l,b,xs,zs,rfl,rfl,hH,hB,hz,q⟩:=h;cases rx;let⟨u,rfl,ru⟩:=rv.one;cases ru;let⟨z,its,n,r,hl,e⟩:=I.lstM hH;let⟨z2,its2,n2,r2,hl2,e2⟩:=I.lstM hB;have hsz:its.toArray.size+its2.toArray.size<=sizeLine:=by rw[zH,zH];lia
 have hlong:¬ (!its.toArray.isEmpty&&Builtin.List.listTooLong (its.toArray.size+its2.toArray.size))=true:=by
  rw[uq hsz,kK];exact yW
 refine qS F.slot_list_extend ⟨_,e,rfl⟩ F.entry_list_extend (F.args_list_extend_2 _ _)
  (AutoSeq1.list_extend_list_list_0 l its.toArray n b its2.toArray n2 hlong (by rw[zH];lia) (by lia)) ⟨e,e2,?_⟩
 refine⟨.non,_,I.lset (its':=its++its2) hH e (by simp) (r.append r2) ?_,rfl,q⟩;rw[zN];lia
def Oh:R2:=λx y H Q=>∃l k xs,x=.ref l/\y=.int k/\H l=some (.lst xs)/\-(2 ^ 63)<=k/\k < 2 ^ 63/\xs.length * k.toNat<=sizeLine /\
 ∀p,H p=none->Q (.ref p) (upd H p (.lst (List.replicate k.toNat xs).flatten))
def len_rep(xs:List α)(k:Nat):(List.replicate k xs).flatten.length=k * xs.length:=by
 induction k with
 | zero=>simp
 | succ k ih=>rw[xB,qJ,zN,ih,Nat.succ_mul,Nat.add_comm]
def Kb:eC X (binaryOp .Mult) Oh:=by
 intro pins s σ H x y v u Q I rx ry h;let⟨l,k,xs,rfl,rfl,hH,h1,h2,hz,q⟩:=h;cases rx;let⟨t,rfl⟩:=ry;let⟨z,its,n,r,hl,e⟩:=I.lstM hH;have hlen:its.toArray.size * k.toNat<=sizeLine:=by rw[zH,<- hl];exact hz
 have hcap:¬ its.toArray.size * k.toNat > (2 ^ 63 - 1) / 8:=by
  have:(sizeLine:Nat)<=(2 ^ 63 - 1) / 8:=by decide
  lia
 have hfit:¬ (!Builtin.List.listFitsIndex k)=true:=by
  rw[fitsIndex_both h1 h2];exact yW
 have hlong:¬ Builtin.List.listTooLong (its.toArray.size * k.toNat)=true:=by
  rw[uq hlen];exact yW
 have hnew:List.foldl (λx1 x2=>x1++x2) #[] (List.replicate (if its.toArray.isEmpty=true then 0 else k.toNat) its.toArray)=(List.replicate k.toNat its).flatten.toArray:=by
  have f0:∀m:Nat,List.foldl (λx1 x2=>x1++x2) #[] (List.replicate m its.toArray)=(List.replicate m its).flatten.toArray:=λm=>by
   have:=foldl_rep its m [];rw[xK] at this;exact this
  rw[f0];cases its with
  | nil=>simp
  | cons a r'=>rw[yK (by simp)]
 refine wpAny_binaryOp_repeat_ref (T:="list") (U:="int") (by decide) ⟨_,e,rfl⟩ (λs'=>vR s' k t) noFill_list_mul F.fills_int_mul vH repeat_list F.slot_int_index.lookup
  (qS vH (vR s k t) F.entry_int_rmul (F.args_int_rmul_2 _ _) (int___rmul___int_list k t l its.toArray n)
   ⟨e,rfl,⟨_,e,rfl⟩,qS F.slot_list_mul ⟨_,e,rfl⟩ F.entry_list_mul (F.args_list_mul_2 _ _) (AutoListH.list___mul___list_int_3 l its.toArray n k t hfit hcap hlong) ⟨e,?_⟩⟩)
 rw[hnew];exact⟨.ref _,_,I.lnew (t':=s.toks) (r.rep k.toNat) (by rw[len_rep,Nat.mul_comm];exact hz),rfl,q _ I.fresh⟩
end L2
namespace Att
open PySem PySem.W PySem.Calls PyProof.Rows
variable {n:Nat}
def ints_of_wellAll:∀ (ns:List Int) (vs:List Value),WellAll P h vs (ns.map WData.int)->IntsAre vs ns:=by
 intro ns
 induction ns with
 | nil =>
  intro vs w;rw[yR] at w;cases w;exact .nil
 | cons n ns ih =>
  intro vs w;rw[zI] at w;cases w with
  | cons a b =>
   cases a;exact .cons _ _ (ih _ b)
def script_of{l:OpenLaw}(hn:l.most=some n){P:Params}{h:Heap}{args:List WData}{vals:List Value}
  (hpre:l.row.toRowW.claim.pre args=true) (hwl:WellAll P h vals args) :
  ∃a vs ns,vals=[Value.ref a]/\args=[WData.list (ns.map WData.int)]/\h.get? a=some { cls:=.type "list",data:=.seq vs.toArray }/\IntsAre vs ns/\ns.length<=n:=by
 have hsh:WShape.hasAll [] args [.list .int]=true:=(pre_splitW hpre).1;have hc:l.pre.holds [] { args:=args }=true:=(pre_splitW hpre).2;let⟨d,r,rfl,h1,h2⟩:=hasAllW_cons hsh;obtain rfl:=hasAllW_nil h2;let⟨xs,rfl,h3⟩:=hasW_list h1;let⟨ns,rfl⟩:=items_int h3;have hlen:ns.length<=n:=by
  unfold OpenLaw.pre at hc;have h4:(WTm.not (.lt (.lit (.int (n:Int))) (.len (.arg 0)))).holds [] { args:=[.list (ns.map .int)] }=true:=by
   have h4:=(holds_andW hc).1;rw[hn] at h4;exact h4
  have h5:=condW_of h4 (w_not (w_lt w_lit (w_len_list (w_arg rfl))));rw[zD] at h5;refine Nat.le_of_not_lt λq=>?_;have q':(n:Int) < ((ns.length:Nat):Int):=by lia
  first
   | (rw[zY q'] at h5;exact absurd h5 (by decide))
   | (simp at h5;lia)
 cases hwl with
 | cons w1 w2 =>
  cases w2;cases w1 with
  | list ho hall=>exact⟨_,_,ns,rfl,rfl,ho,ints_of_wellAll ns _ hall,hlen⟩
def post_true(l:OpenLaw)(args:List WData):l.row.toRowW.claim.post args (.bool true) args=true :=
 postW_of (r:=l.row.toRowW) (X:=(true == true))
  (show WShape.has [] (.bool true) .bool=true by first|rfl|decide|simp[WShape.has,WShape.arms,WShape.armsAll])
  (show (WTm.eq .res (.lit (.bool true))).value [] { args:=args,res:=some (.bool true),after:=args }=some (.bool (true == true)) from w_eq_bool (w_res rfl) w_lit) rfl
def attach_call{l:OpenLaw}{q:Program}{loose:List Str}{XP:(Str->Option Value)->Heap->Prop}{YP:World->Heap->Prop}{d:DefRec}
  (hn:l.most=some n) (hdf:d.params.defaults=[])
  (call:∀ (w:World) (s₀ s₁:Shared) (mg mb:Str->Option Value) (fa:Addr) (o:Obj) (pm cd doc:Value) (a:Addr) (vs:List Value) (ns:List Int),
   Ground q loose [] XP w s₀ mg mb s₁.heap->YP w s₁.heap ->
   s₁.heap.get? fa=some o->o.data=.func (docDef d.name d.params d.body d.scope pm cd doc)->s₁.heap.CodeRec cd d.name->mg d.name=some (.ref fa) ->
   s₁.heap.get? a=some { cls:=.type "list",data:=.seq vs.toArray }->IntsAre vs ns->ns.length<=n->s₁.gens=#[] ->
   codeAny (model l.prog w) callerA (.call (.ref fa) ⟨[.ref a],[]⟩) (λr s'=>r=.ok (.ret (.bool true))/\OldK s₁.heap s'.heap/\s'.os=s₁.os/\AllBare s'.gens) s₁) :
  WalkO q loose XP YP l.row.toRowW d [] (λf vs=>PySem.call f vs):=by
 intro w s₀ s₁ mg mb G Y fa o pm cd doc dV kV ho hd hcd hD hmg hg args vals as hpre hlay hrd hwl hlo;obtain rfl:dV=.none:=Dflts.none hD hdf;obtain rfl:kV=.none:=Dflts.noKw hD;let⟨a,vs,ns,rfl,rfl,hobj,hints,hlen⟩:=script_of hn hpre hwl;refine enter_call (jN (call w s₀ s₁ mg mb fa o pm cd doc a vs ns G Y ho (fd_plain hd) hcd hmg hobj hints hlen hg) λr s' hq=>?_);let⟨rfl,h2,h3,h4⟩:=hq;exact⟨.inl ⟨.bool true,.bool true,[],rfl,λ_=>rfl,.bool true,post_true l _,λ_=>⟨List.Pairwise.nil,λ_ hm=>(nomatch hm)⟩⟩,h2,h3,h4⟩
section
variable {K:Frag}
end
end Att
namespace L2
open PySem PySem.Spec PyProof.Rows
variable {B:Prop}
def o7:∀ {vs:List Value}{ns:List Int},IntsAre vs ns->aE (ns.map V.int) vs
 | _,_,.nil=>.nil
 | _,_,.cons n t h=>.cons ⟨t,rfl⟩ (o7 h)
abbrev FD:FY:=λ_ _ _ _ _ _=>False
abbrev E0:XK:=λ_ _ _=>False
def M3:dW FD X E0:=λ_ _ _ _ _ _ _ h=>h.elim
structure C4(K:W.Frag)(x qual:Str)(st:Stmt)(f:Addr)(fd:FuncData):Prop where
 ex:∃ (oc:Value) (od:Option Addr) (kV doc pm:Value) (an:Option Addr) (cdv ct:Value) (osl:Array (Option Value)),
  fd=W.fnOf x qual (fF st) (bc st) (ai st) .none kV doc pm an cdv ct/\K.lookup f=some ⟨oc,od,.func fd,osl⟩/\W.codeIn K cdv qual=true
 kp:W.keepIn K (.ref f)=true
section
variable {K:W.Frag}
def C4.binds{st:Stmt}(F:C4 K x qual st f fd)
  (h:∀ (kV doc pm:Value) (an:Option Addr) (cdv ct:Value) (us:List Value),us.length=ps.length->bindArgs (W.fnOf x qual (fF st) (bc st) (ai st) .none kV doc pm an cdv ct) ⟨us,[]⟩=pure (ps.zip us)):Binds K fd ps []:=by
 let⟨oc,od,kV,doc,pm,an,cdv,ct,osl,rfl,lk,hcd⟩:=F.ex;exact .all (h kV doc pm an cdv ct)
def EK{st:Stmt}{kV:Value}(l:K.lookup f=some ⟨oc,od,.func (W.fnOf x qual (fF st) (bc st) (ai st) .none kV doc pm an cdv ct),osl⟩)
  (c:W.codeIn K cdv qual=true) (k:W.keepIn K (.ref f)=true):C4 K x qual st f (W.fnOf x qual (fF st) (bc st) (ai st) .none kV doc pm an cdv ct):=⟨⟨oc,od,kV,doc,pm,an,cdv,ct,osl,rfl,l,c⟩,k⟩
end
def mG{A B:Prop}(h:B):if false=true then A else B:=by
 rw[yK yW];exact h
def oU{A B:Prop}(h:A):if true=true then A else B:=by
 rw[yI rfl];exact h
def aH(H H':Hp):Prop:=∀b o,H b=some o->H' b=some o
def aH.refl(H:Hp):aH H H:=λ_ _ h=>h
def aH.trans(a:aH H H1)(b:aH H1 H2):aH H H2:=λc o h=>b c o (a c o h)
def aH.free(e:aH H H')(h:H' l=Option.none):H l=Option.none:=by
 cases q:H l with
 | none=>rfl
 | some o =>
  rw[e l o q] at h;cases h
def aH.seq{K:W.Frag}(e:aH H H')(h:fD K H a xs):fD K H' a xs:=by
 rcases h with (h|⟨o,h⟩)|h
 ·exact .inl (.inl (e _ _ h))
 ·exact .inl (.inr ⟨o,e _ _ h⟩)
 ·exact .inr h
def bI:∀ (names:List (Str×NameKind)) (n:Nat) (acc:List (Str×Addr)),cellsFrom n names acc=cellsFrom n names []++acc
 | [],_,_=>rfl
 | (name,kind)::r,n,acc=>by
  unfold cellsFrom;split
  ·rw[bI r (n+1) ((name,n)::acc),bI r (n+1) [(name,n)]];simp
  ·exact bI r n acc
def hJ:∀ {l m:List (Str×α)},(l++m).lookup x=some c->l.lookup x=some c\/(l.lookup x=none/\m.lookup x=some c)
 | [],_,h=>.inr ⟨rfl,h⟩
 | (k,v)::r,m,h=>by
  have ih:=@hJ α x c r m;rw[xC,zZ] at h;rw[zZ];cases e:x == k with
  | true=>rw[e] at h;exact .inl h
  | false=>rw[e] at h;exact ih h
def hV:∀ {l m:List (Str×α)},l.lookup x=some c->(l++m).lookup x=some c
 | [],_,h=>by cases h
 | (k,v)::r,m,h=>by
  have ih:=@hV α x c r m;rw[zZ] at h;rw[xC,zZ];cases e:x == k with
  | true=>rw[e] at h;exact h
  | false=>rw[e] at h;exact ih h
def gm:∀ {l m:List (Str×α)},l.lookup x=none->(l++m).lookup x=m.lookup x
 | [],_,_=>rfl
 | (k,v)::r,m,h=>by
  have ih:=@gm α x r m;rw[zZ] at h;rw[xC,zZ];cases e:x == k with
  | true=>rw[e] at h;cases h
  | false=>rw[e] at h;exact ih h
def eY:∀ (names:List (Str×NameKind)) (n:Nat) (x:Str) (c:Addr),(x,c)∈cellsFrom n names []->(x,NameKind.cell)∈names
 | [],_,_,_,h=>by cases h
 | (name,kind)::r,n,x,c,h=>by
  unfold cellsFrom at h;split at h
  ·rename_i hk;rw[bI] at h;rcases List.mem_append.mp h with h|h
   ·exact zC _ (eY r _ x c h)
   ·have:(x,c)=(name,n):=by simpa using h
    cases this;have:kind=.cell:=by simpa using hk
    subst this;exact zE
  ·exact zC _ (eY r n x c h)
def iu(env:Env):List (Str×NameKind)->List (Str×Addr)->List (Str×Addr)
 | [],acc=>acc
 | (n,k)::r,acc=>if k == .free then iu env r ((n,(env.cells.lookup n).getD 0)::acc) else iu env r acc
def jj(env:Env):∀ (names:List (Str×NameKind)) (acc:List (Str×Addr)),(∀x∈names,x.2=.free->∃c,env.cells.lookup x.1=some c) ->
  (forIn names acc (λ(p:Str×NameKind) (cs:List (Str×Addr))=>(if p.2 == .free then (do let a <- cellOf env p.1;pure (.yield ((p.1,a)::cs))) else pure (.yield cs):Sem (ForInStep (List (Str×Addr))))))=pure (iu env names acc)
 | [],acc,_=>rfl
 | (n,k)::r,acc,h=>by
  rw[List.forIn_cons];have hr:=λx hx=>h x (zC _ hx);unfold iu;by_cases hk:k=.free
  ·let⟨c,hc⟩:=h (n,k) zE hk;subst hk;have e1:cellOf env n=pure c:=by
    have hc':env.cells.lookup n=some c:=hc;unfold cellOf;rw[hc']
   have hc':env.cells.lookup n=some c:=hc;simp?[beq_self_eq_true,xE,e1,pure_bind,hc',qD];exact jj env r _ hr
  ·have hb:(k == NameKind.free)=false:=by simpa using hk
   simp?[hb,yL,qL,pure_bind];exact jj env r _ hr
def n0{env:Env}(h:∀x∈scope.names,x.2=.free->∃c,env.cells.lookup x.1=some c):closureFor scope env=pure (iu env scope.names []):=by
 have:=jj env scope.names [] h;unfold closureFor;exact (bind_pure _).trans this
def lD{env:Env}:∀ {names:List (Str×NameKind)}{acc:List (Str×Addr)},(∀x∈names,x.2=.free->∃c,env.cells.lookup x.1=some c)->(∀x c,(x,c)∈acc->env.cells.lookup x=some c) ->
  ∀x c,(x,c)∈iu env names acc->env.cells.lookup x=some c
 | [],acc,_,ha,x,c,hm=>ha x c hm
 | (n,k)::r,acc,h,ha,x,c,hm=>by
  unfold iu at hm;have hr:=λx hx=>h x (zC _ hx);split at hm
  ·rename_i hk;have hk':k=.free:=by simpa using hk
   let⟨c',hc⟩:=h (n,k) zE hk';have hc:env.cells.lookup n=some c':=hc;refine lD hr (λy d hy=>?_) x c hm;rcases List.mem_cons.mp hy with e|hy
   ·cases e;rw[hc];rfl
   ·exact ha y d hy
  ·exact lD hr ha x c hm
def ie{env:Env}:∀ {names:List (Str×NameKind)}{acc:List (Str×Addr)}{x:Str},(names.lookup x=some .free\/∃c,acc.lookup x=some c)->∃c,(iu env names acc).lookup x=some c
 | [],acc,x,h=>by
  rcases h with h|h
  ·cases h
  ·exact h
 | (n,k)::r,acc,x,h=>by
  unfold iu;split
  ·rename_i hk;refine ie ?_;rcases h with h|⟨c,h⟩
   ·rw[zZ] at h;cases e:x == n with
    | true=>exact .inr ⟨_,by rw[zZ,e]⟩
    | false=>rw[e] at h;exact .inl h
   ·refine .inr ?_;rw[zZ];cases e:x == n with
    | true=>exact⟨_,rfl⟩
    | false=>exact⟨c,h⟩
  ·rename_i hk;refine ie ?_;rcases h with h|h
   ·rw[zZ] at h;cases e:x == n with
    | true =>
     rw[e] at h;cases h;exact absurd rfl hk
    | false=>rw[e] at h;exact .inl h
   ·exact .inr h
def kj{env:Env}:∀ {names:List (Str×NameKind)}{x:Str}{k:NameKind},names.lookup x=some k ->
  (names.map λ(n,k)=>if (k == NameKind.free&&env.scope.kind == .function&&env.kindOf n == some .cell) then (n,NameKind.cell) else (n,k)).lookup x=some (if (k == NameKind.free&&env.scope.kind == .function&&env.kindOf x == some .cell) then NameKind.cell else k)
 | [],_,_,h=>by cases h
 | (n,k)::r,x,k',h=>by
  have ih:=@kj env r x k';rw[zI];dsimp only;cases hx:x == n with
  | true =>
   have e:x=n:=by simpa using hx
   subst e;rw[zZ,hx] at h;cases h;split<;>simp[zZ, *]
  | false =>
   rw[zZ,hx] at h;have ih:=ih h;split
   ·rw[zZ,hx];exact ih
   ·rw[zZ,hx];exact ih
def mv{env:Env}:∀ {names:List (Str×NameKind)}{x:Str},names.lookup x=none ->
  (names.map λ(n,k)=>if (k == NameKind.free&&env.scope.kind == .function&&env.kindOf n == some .cell) then (n,NameKind.cell) else (n,k)).lookup x=none
 | [],_,h=>rfl
 | (n,k)::r,x,h=>by
  have ih:=@mv env r x;rw[zI];dsimp only;cases hx:x == n with
  | true=>rw[zZ,hx] at h;cases h
  | false =>
   rw[zZ,hx] at h;split
   ·rw[zZ,hx];exact ih h
   ·rw[zZ,hx];exact ih h
def dQ(X:Cx)(scope:Scope)(C:Addr):Env :=
 { scope:=relabel scope X.env,locals:=C,globals:=X.env.globals,cells:=cellsFrom (C+1) scope.names (iu X.env scope.names []),qual:=X.env.qual,func:=none,code:=X.env.code,frame:=X.env.frame,builtins:=X.env.builtins }
def aR(X:Cx)(scope:Scope)(N:List Str)(fp:List Addr)(s:Shared)(H:Hp):Cx :=
 { X with N:=N,s₀:=s,H₀:=H,env:=dQ X scope s.heap.objs.size,outer:=X.stack,ex:=fp,fn:=λx=>decide (scope.names.lookup x=some .cell),pn:=[],xe:=λ_ _=>False }
def vt{M:Model}{A:Around}{E:Value->Shared->Prop}{globals:Addr}{cl:List (Str×Addr)}{qual:Str}{env:Env}
  (hQ:∀h',h'.Ns s.heap.objs.size (λ_=>none)->(∀b o,s.heap.get? b=some o->h'.get? b=some o)->CellsOk h' (s.heap.objs.size+1) (cellsFrom (s.heap.objs.size+1) scope.names []) ->
   Q { scope:=scope,locals:=s.heap.objs.size,globals:=globals,cells:=cellsFrom (s.heap.objs.size+1) scope.names cl,qual:=qual,func:=none,code:=env.code,frame:=env.frame,builtins:=env.builtins } { s with heap:=h' }) :
  wpAny M A (newFunctionEnv scope globals cl [] qual none .none (some env)) Q E s:=by
 simp?[newFunctionEnv,Option.isSome_some,xE];refine zT (wpAny_alloc ?_);refine zT (wpAny_layCells _ (λname kind cells=>by cases hkc:kind == NameKind.cell<;>simp[hkc]) _ _ _ _ ?_);have ok:=cellsFrom_ok scope.names (s.heap.push { cls:=.type "dict",data:=.dict #[] }) (s.heap.objs.size+1) [] ⟨λ_ _ hm=>(nomatch hm),List.Pairwise.nil⟩ (by rw[xG];exact yJ _);rw[xG] at ok;rw[show ({ s with heap:=s.heap.push { cls:=.type "dict",data:=.dict #[] } }:Shared).heap.objs.size=s.heap.objs.size+1 from xG ..];rw[List.forIn_nil];refine zT (zU (zU ?_));exact hQ _ ((Heap.Ns.new s.heap (.type "dict")).keeps (pushCells_keeps _ _)) (λb o e=>pushCells_keeps _ _ b o (zS _ e)) ok
section
variable {X:Cx}{pins:List (Addr×Obj)}{σ σ':St}{H:Hp}{s:Shared}{fp:List Addr}{scope:Scope}{N:List Str}{h4:Heap}
def n9(ok:X.Ok)(hfree:∀x∈scope.names,x.2=.free->X.env.kindOf x.1=some .cell\/X.env.kindOf x.1=some .free):∀x∈scope.names,x.2=.free->∃c,X.env.cells.lookup x.1=some c :=
 λx hx hk=>ok.has x.1 (hfree x hx hk)
def lJ(h:scope.names.lookup x=some k):(dQ X scope C).kindOf x=some k\/(k=.free/\(dQ X scope C).kindOf x=some .cell):=by
 have q:=kj (env:=X.env) h;have q':(dQ X scope C).kindOf x=some (if (k == NameKind.free&&X.env.scope.kind == .function&&X.env.kindOf x == some .cell) then NameKind.cell else k):=q;rw[q'];split
 ·rename_i hc;have:k=.free:=by
   simp?[zF,kY] at hc;exact hc.1.1
  exact .inr ⟨this,rfl⟩
 ·exact .inl rfl
def jc(h:(dQ X scope C).kindOf x=some k):scope.names.lookup x=some k\/(k=.cell/\scope.names.lookup x=some .free):=by
 cases e:scope.names.lookup x with
 | none =>
  have q:(dQ X scope C).kindOf x=none:=mv (env:=X.env) e;rw[q] at h;cases h
 | some k' =>
  rcases lJ (X:=X) (C:=C) e with q|⟨q,q'⟩
  ·rw[q] at h;cases h;exact .inl rfl
  ·rw[q'] at h;cases h;subst q;exact .inr ⟨rfl,rfl⟩
def Ci(I:Inv X pins σ H s)(hf:∀b∈fp,gZ X pins H b)(hfl:∀b∈fp,b < s.heap.objs.size)(hk:scope.kind=.function)
  (hfree:∀x∈scope.names,x.2=.free->X.env.kindOf x.1=some .cell\/X.env.kindOf x.1=some .free)
  (hns:h4.Ns s.heap.objs.size (λ_=>none)) (hkeep:∀b o,s.heap.get? b=some o->h4.get? b=some o) (hco:CellsOk h4 (s.heap.objs.size+1) (cellsFrom (s.heap.objs.size+1) scope.names []))
  (hdup:∀ {x:Str},(x,NameKind.cell)∈scope.names->(x,NameKind.free)∈scope.names->False) (hcap:∀ (i:Nat) (x:Str) (v:V),N[i]?=some x->σ'[i]?=some (some v)->scope.names.lookup x=some .free/\∃j:Nat,X.N[j]?=some x/\σ[j]?=some (some v)) (hlen:σ'.length=N.length) (t':Nat) :
  Inv (aR X scope N fp s H) [] σ' H { s with heap:=h4,toks:=t' }:=by
 have hcl:=n9 I.ok hfree;have clx:∀x c,(iu X.env scope.names []).lookup x=some c->X.env.cells.lookup x=some c:=λx c e=>lD hcl (λ_ _ z=>by cases z) x c (mem_of_lookup e);have look:∀x c,(dQ X scope s.heap.objs.size).cells.lookup x=some c->(x,c)∈cellsFrom (s.heap.objs.size+1) scope.names []\/X.env.cells.lookup x=some c:=λx c e=>by
  have e:(cellsFrom (s.heap.objs.size+1) scope.names (iu X.env scope.names [])).lookup x=some c:=e;rw[bI] at e;rcases hJ e with q|⟨_,q⟩
  ·exact .inl (mem_of_lookup q)
  ·exact .inr (clx x c q)
 have old:∀x c,X.env.cells.lookup x=some c->c < s.heap.objs.size:=λx c e=>let ⟨_,q⟩:=I.cell x c e;q.lt;have new:∀x c,(x,c)∈cellsFrom (s.heap.objs.size+1) scope.names []->s.heap.objs.size < c:=λx c e=>(hco.empty x c e).2;refine⟨⟨I.ok.mod,?_,I.ok.glob,I.ok.blt,yJ _,?_,?_,?_,I.ok.hd,I.ok.frames,.inl rfl,?_,I.bs,yB I.ok.bsz I.sz,?_,?_,I.stack,I.stkFree⟩,rfl,I.bare,Un.kept hkeep,⟨_,hns,?_⟩,?_,I.hok.fresh (yJ _),?_,
  λp hp=>absurd (show p∈([]:List (Addr×Obj)) from hp) (by simp),I.hok.kept hkeep,hlen⟩
 ·show (relabel scope X.env).kind=_;exact hk
 ·intro x y c e1 e2;rcases look x c e1 with a|a<;>rcases look y c e2 with b|b
  ·exact name_of_addr hco.apart a b
  ·exact absurd (vX (new x c a) (old y c b)) (qB _)
  ·exact absurd (vX (new y c b) (old x c a)) (qB _)
  ·exact I.ok.inj x y c a b
 ·intro x hx;show ∃c,(cellsFrom (s.heap.objs.size+1) scope.names (iu X.env scope.names [])).lookup x=some c;refine Option.isSome_iff_exists.mp (W.cellsFrom_some _ _ _ ?_);rcases hx with hx|hx
  ·rcases jc hx with q|⟨_,q⟩
   ·exact .inl q
   ·exact .inr (Option.isSome_iff_exists.mpr (ie (.inl q)))
  ·rcases jc hx with q|⟨q,_⟩
   ·exact .inr (Option.isSome_iff_exists.mpr (ie (.inl q)))
   ·cases q
 ·intro x c hfn e;have hfn:scope.names.lookup x=some .cell:=yN hfn;have e:(cellsFrom (s.heap.objs.size+1) scope.names (iu X.env scope.names [])).lookup x=some c:=e;let⟨c',hc'⟩:=nu (n:=s.heap.objs.size+1) hfn;rw[bI,hV hc'] at e;cases e;exact jO (new x c (mem_of_lookup hc'))
 ·intro b hb;refine⟨yO (hfl b hb),λx c e z=>?_⟩;rcases look x c e with a|a
  ·exact absurd (vX (new x c a) (by rw[z];exact hfl b hb)) (qB _)
  ·exact (hf b hb).2.2.2.2.1 x c a z
 ·intro b o e hb;let⟨f0,f1,f2,f3,f4,f5⟩:=hf b hb;rcases f3 with z|z
  ·exact I.ok.noex b o e z
  ·exact absurd (zP (zW (I.ok.bs b o e).1) z) (qB _)
 ·intro b hb hz;let⟨f0,f1,f2,f3,f4,f5⟩:=hf b hb;rcases List.mem_cons.mp (I.stkSub b hz) with z|z
  ·exact f1 z
  ·exact f2 z
 ·intro i x v e1 e2 e3;let⟨hfr,j,hj,hv⟩:=hcap i x v e1 e2;have hm:(x,NameKind.free)∈scope.names:=mem_of_lookup hfr;let⟨m,hn,hl⟩:=I.loc;have kx:=hfree _ hm rfl;let⟨u,ru,lk⟩:=hl j x v hj hv (kx.elim (λk=>.inr (.inl k)) λk=>.inr (.inr k));refine⟨u,ru,.inr ⟨?_,?_⟩⟩
  ·rcases lJ (X:=X) (C:=s.heap.objs.size) hfr with q|⟨_,q⟩
   ·exact .inr q
   ·exact .inl q
  ·rcases lk with ⟨k,_⟩|⟨_,c,ec,ic⟩
   ·have k:X.env.kindOf x=some .local:=k;rcases kx with k'|k'<;>· rw[k] at k';cases k'
   ·let⟨c',hc'⟩:=ie (env:=X.env) (acc:=[]) (.inl hfr);have e':=clx x c' hc';rw[ec] at e';cases e';refine⟨c,?_,ic.keeps hkeep⟩;show (cellsFrom (s.heap.objs.size+1) scope.names (iu X.env scope.names [])).lookup x=some c;rw[bI];cases eo:(cellsFrom (s.heap.objs.size+1) scope.names []).lookup x with
    | none=>rw[gm eo];exact hc'
    | some d =>
     have hcm:=eY _ _ _ _ (mem_of_lookup eo);exact (hdup hcm hm).elim
 ·intro x c e;rcases look x c e with a|a
  ·exact⟨_,(hco.empty x c a).1⟩
  ·let⟨v,q⟩:=I.cell x c a;exact⟨v,q.keeps hkeep⟩
 ·intro x c e;rcases look x c e with a|a
  ·exact I.hok.fresh (jO (new x c a))
  ·exact I.freeC x c a
end
abbrev tR(ifs:List Expr)(env:Env):Sem Bool:=forIn ifs true λc r=>if r=true then do let ok <- isTrue c env (eval c env);pure (ForInStep.yield ok) else pure (ForInStep.yield r)
def Mb(X:Cx)(ifs:List Expr)(t:TT):Prop :=
 ∀ (pins:List (Addr×Obj)) (s:Shared) (σ:St) (H:Hp) (Q:Bool->Hp->Prop),Inv X pins σ H s->t σ H Q->wpAny (model X.prog X.w) X.A (tR ifs X.env) (TP X pins σ Q) X.xe s
def GT:Mb X [] (λ_ H Q=>Q true H):=λ_ _ _ H _ I h=>wpAny_tests_nil ⟨H,I,h⟩
def FV(h:PT X c t):Mb X [c] t:=λpins s σ H Q I q=>wpAny_tests_one (h pins s σ H Q I q)
def rA{R:Result->Shared->Prop}{elt target iter:Expr}{ifs:List Expr}{scope:Scope}{pos:Pos}{acc:Value}{env:Env}(I:Nat->Shared->Prop)
  (turn:∀n s,I n s->wpAny (model prog w) A (pyNext it) (λr s₁=>match r with
   | none=>R (.ok .next) s₁
   | some v=>wpAny (model prog w) A (letOwnedTupleGo target it v) (λ_ s₁'=>wpAny (model prog w) A (assign target env v) (λ_ s₂ =>
     wpAny (model prog w) A (tR ifs env) (λok s₃ =>
      if ok=true then wpAny (model prog w) A (eval elt env) (λx s₄ =>
       wpAny (model prog w) A (call (.builtin "list.append") [acc,x]) (λ_ s₅=>∃m,m < n/\I m s₅) (λ_ _=>False) s₄) (λ_ _=>False) s₃
      else ∃m,m < n/\I m s₃) (λ_ _=>False) s₂) (λ_ _=>False) s₁') (λ_ _=>False) s₁) (λ_ _=>False) s)
  (n:Nat) (h:I n s) :
  codeAny (model prog w) A (.compLoop (.ListComp elt [⟨target,iter,ifs,0⟩] scope pos) 0 it acc env) R s:=by
 refine codeAny_loop rfl I (λn s hI=>?_) n h;show wpAny _ A ((compTurn (.ListComp elt [⟨target,iter,ifs,0⟩] scope pos) 0 it acc env).onRaise (λx=>do noteFrame x env;theTreesLotGoes x)) _ _ s;refine wpAny_noted ?_;rw[compTurn_list];refine zT (wpAny_standAt (zT (yX (turn n s hI) (λr s₁ h₁=>?_) λ_ _ h'=>h'.elim)));cases r with
 | none=>exact zU h₁
 | some v =>
  refine zT (yX h₁ (λ_ s₁' h₁'=>?_) λ_ _ h'=>h'.elim);refine zT (yX h₁' (λ_ s₂ h₂=>zT (yX h₂ (λok s₃ h₃=>?_) λ_ _ h'=>h'.elim)) λ_ _ h'=>h'.elim);cases ok with
  | false=>exact zU ⟨rfl,h₃⟩
  | true =>
   exact zT (zT (yX h₃ (λx s₄ h₄=>zT (yX h₄ (λ_ s₅ h₅=>zU (zU ⟨rfl,h₅⟩)) λ_ _ h'=>h'.elim)) λ_ _ h'=>h'.elim))
def Ae(X:Cx)(pins:List (Addr×Obj))(σ:St)(Q:VK)(acc:Value)(C:Addr)(r:Result)(s5:Shared):Prop :=
 ∃ (D:Addr) (H5:Hp) (m:Str->Option Value),acc=.ref D/\r=.ok .next/\Inv X pins σ H5 s5/\s5.heap.Ns C m/\gZ X pins H5 C/\Q (.ref D) H5
def BZ(J:It)(g:TG)(tt:TT)(te:TE)(D:Addr)(σ0:St)(H0:Hp)(Q:VK):Prop :=
 ∃W:Nat->Nat->St->Hp->Prop,(∃m,W 0 m σ0 H0)/\∀i m σ H,W i m σ H ->
  (J.stop i H/\Q (.ref D) H)\/(J.go i H/\∀x H',J.yld i H x H'->g x σ H' λσ2 H2=>tt σ2 H2 λb H3 =>
   if b=true then te σ2 H3 λv H4=>∃ys,H4 D=some (.lst ys)/\ys.length < sizeLine/\∃m',m' < m/\W (i+1) m' σ2 (upd H4 D (.lst (ys++[v])))
   else ∃m',m' < m/\W (i+1) m' σ2 H3)
section
variable {X:Cx}{pins:List (Addr×Obj)}{σ σ':St}{H:Hp}{s:Shared}{scope:Scope}{N:List Str}
 {tg iter elt:Expr}{ifs:List Expr}{pos:Pos}{g:TG}{tt:TT}{te:TE}
def pj(hc:X.calm=true)(I:Inv X pins σ H s)(T:Turn X.prog X.w X.K tg J fp it tn)(st:tn 0 s.heap)(hf:∀b∈fp,gZ X pins H b)(hk:scope.kind=.function)
  (hfree:∀x∈scope.names,x.2=.free->X.env.kindOf x.1=some .cell\/X.env.kindOf x.1=some .free) (hdup:∀ {x:Str},(x,NameKind.cell)∈scope.names->(x,NameKind.free)∈scope.names->False)
  (hcap:∀ (i:Nat) (x:Str) (v:V),N[i]?=some x->σ'[i]?=some (some v)->scope.names.lookup x=some .free/\∃j:Nat,X.N[j]?=some x/\σ[j]?=some (some v)) (hlen:σ'.length=N.length)
  (hY:∀fp s H,PG (aR X scope N fp s H) tg g/\Mb (aR X scope N fp s H) ifs tt/\PE (aR X scope N fp s H) elt te)
  (hrd:∀D,H D=none->BZ J g tt te D σ' (upd H D (.lst [])) Q) {E:Value->Shared->Prop} :
  wpAny (model X.prog X.w) X.A (newList []) (λacc s₃=>wpAny (model X.prog X.w) X.A (newFunctionEnv scope X.env.globals (iu X.env scope.names []) [] X.env.qual none .none (some X.env)) (λcenv s₄ =>
   codeAny (model X.prog X.w) X.A (.compStart (.ListComp elt [⟨tg,iter,ifs,0⟩] scope pos) 0 (.ref it) acc { cenv with scope:=relabel scope X.env }) (Ae X pins σ Q acc cenv.locals) s₄) E s₃) E s:=by
 refine qH ?_;have hfl:∀b∈fp,b < s.heap.objs.size:=λb hb=>let ⟨o,e,_⟩:=T.obj _ _ st b hb;zW e;have I3:=I.lnew (ys:=[]) (its:=[]) (t':=s.toks) .nil (xR _);have hD:H s.heap.objs.size=none:=I.fresh;let⟨W,⟨m0,w0⟩,turn⟩:=hrd _ hD;generalize e3:({ s with heap:=s.heap.push { cls:=.type "list",data:=.seq ([]:List Value).toArray },toks:=s.toks }:Shared)=s3 at I3;have e3h:s3.heap=s.heap.push { cls:=.type "list",data:=.seq ([]:List Value).toArray }:=by rw[<- e3]
 generalize hH3:upd H s.heap.objs.size (.lst [])=H3 at I3 w0 turn;have hlt:s.heap.objs.size < s3.heap.objs.size:=by rw[e3h,xG];exact kE _
 have hk3:∀b o,s.heap.get? b=some o->s3.heap.get? b=some o:=λb o e=>by rw[e3h];exact zS _ e
 generalize s.heap.objs.size=D at *;have f3:∀b∈fp,gZ X pins H3 b:=λb hb=>by
  let⟨f0,f⟩:=hf b hb;refine⟨?_,f⟩;rw[<- hH3,aC (yO (hfl b hb))];exact f0
 have st3:tn 0 s3.heap:=T.keep _ _ _ st λb _ o e=>hk3 b o e;refine vt λh4 hns hkp hco=>?_;dsimp only;have I4:=Ci (N:=N) (σ':=σ') (fp:=fp) I3 f3 (λb hb=>vX (hfl b hb) hlt) hk hfree hns hkp hco hdup hcap hlen s3.toks;have fC:∀H',H' s3.heap.objs.size=none->gZ X pins H' s3.heap.objs.size:=λH' hn=>I3.fpOk (yJ _) hn;let⟨hg,htt,hte⟩:=hY fp s3 H3;have efp:∀b∈fp,∀H':Hp,H' b=none->gZ (aR X scope N fp s3 H3) [] H' b:=λb hb H' hn=>by
  refine⟨hn,(I4.ok.exf b hb).1,I4.ok.exfs b hb,.inl hb,(I4.ok.exf b hb).2,λp hp=>?_⟩;cases hp
 have loop:codeAny (model X.prog X.w) X.A (.compLoop (.ListComp elt [⟨tg,iter,ifs,0⟩] scope pos) 0 (.ref it) (.ref D) (dQ X scope s3.heap.objs.size)) (Ae X pins σ Q (.ref D) s3.heap.objs.size) { s3 with heap:=h4 }:=by
  refine rA (λn s'=>∃i σ' H',Inv (aR X scope N fp s3 H3) [] σ' H' s'/\tn i s'.heap/\(∀b∈fp,H' b=none)/\W i n σ' H') ?_ m0
   ⟨0,σ',H3,I4,T.keep _ _ _ st3 λb _ o e=>hkp b o e,λb hb=>(f3 b hb).1,w0⟩
  rintro n s5 ⟨i,σ5,H5,I5,st5,fr5,w5⟩;rcases turn i n σ5 H5 w5 with ⟨stop,q⟩|⟨go,step⟩
  ·refine bK (T.done (aR X scope N fp s3 H3) rfl rfl rfl hc i [] s5 σ5 H5 _ I5 (λb hb=>efp b hb H5 (fr5 b hb)) st5 stop) λr s6 ⟨hr,I6⟩=>?_;subst hr;let⟨m,hn6,_⟩:=I6.loc;refine⟨D,H5,m,rfl,rfl,I3.call' I6.os I6.base I6.hok I6.bare (λb hb=>?_),hn6,fC H5 I6.free,q⟩;let⟨f0,f1,f2,f4,f5,f6⟩:=f3 b hb;exact⟨f4,f1,f5,f6⟩
  ·refine bK (T.item (aR X scope N fp s3 H3) rfl rfl rfl hc i [] s5 σ5 H5 _ I5 (λb hb=>efp b hb H5 (fr5 b hb)) st5 go) λr s6 ⟨u,hr,h6⟩=>?_;subst hr;refine bK h6 λ_ s7 ⟨x,H7,I7,r7,y7,st7,fr7⟩=>?_;have I7':=I7.pinned (λb hb=>efp b hb H7 (fr7 b hb)) (T.obj _ _ st7);have again:∀ {pl:List (Addr×Obj)}{σ9:St}{H9:Hp}{s9:Shared}{n':Nat},Inv (aR X scope N fp s3 H3) ([]++n5 fp s7.heap) σ9 H9 s9->W (i+1) n' σ9 H9->∃i σ' H',Inv (aR X scope N fp s3 H3) [] σ' H' s9/\tn i s9.heap/\(∀b∈fp,H' b=none)/\W i n' σ' H':=λ{pl σ9 H9 s9 n'} I9 w9=>by
    refine⟨i+1,σ9,H9,I9.unpinned,T.keep _ _ _ st7 λb hb o e=>(I9.pin (b,o) (yC _ (yC _ (gU hb e)))).1,λb hb=>?_,w9⟩;let⟨o,e,d⟩:=T.obj _ _ st7 b hb;exact (I9.pin (b,o) (yC _ (yC _ (gU hb e)))).2.1
   refine bK (hg _ s7 σ5 H7 x u _ I7' r7 (step x H7 y7)) λ_ s8 ⟨σ8,H8,I8,q8⟩=>?_;refine bK (htt _ s8 σ8 H8 _ I8 q8) λok s9 ⟨H9,I9,q9⟩=>?_;cases ok with
   | false =>
    rw[yK (by decide)] at q9;rw[yK (by decide)];let⟨m',hm,w9⟩:=q9;exact⟨m',hm,again (pl:=[]) I9 w9⟩
   | true =>
    rw[yI rfl] at q9;rw[yI rfl];refine bK (hte _ s9 σ8 H9 _ I9 q9) λy s10 ⟨v,H10,I10,r10,ys,hD10,hz,m',hm,w10⟩=>?_;refine bK (pV (X:=aR X scope N fp s3 H3) _ s10 σ8 H10 (.ref D) [v] (.ref D) [y] (λ_ H'=>W (i+1) m' σ8 H') I10 rfl (.cons r10 .nil) ⟨D,ys,v,rfl,rfl,hD10,hz,w10⟩) λ_ s11 ⟨_,H11,I11,_,w11⟩=>?_;exact⟨m',hm,again (pl:=[]) I11 w11⟩
 exact codeAny_compStart_list loop (T.self _ 0 _ _ _ (T.keep _ _ _ st3 λb _ o e=>hkp b o e) loop)
end
def Fs(wi:TI)(g:TG)(tt:TT)(te:TE)(caps:St->St):TE:=λσ H Q=>wi σ H λJ H1=>∀D,H1 D=none->BZ J g tt te D (caps σ) (upd H1 D (.lst [])) Q
structure lF(X:Cx)(scope:Scope)(N:List Str)(caps:St->St):Prop where
 kind:scope.kind=.function
 free:∀x∈scope.names,x.2=.free->X.env.kindOf x.1=some .cell\/X.env.kindOf x.1=some .free
 dup:∀ {x:Str},(x,NameKind.cell)∈scope.names->(x,NameKind.free)∈scope.names->False
 loc:∀x∈scope.names,x.2=.local -> scope.names.lookup x.1=some .local
 cap:∀ (σ:St) (i:Nat) (x:Str) (v:V),N[i]?=some x->(caps σ)[i]?=some (some v)->scope.names.lookup x=some .free/\∃j:Nat,X.N[j]?=some x/\σ[j]?=some (some v)
 len:∀σ:St,(caps σ).length=N.length
section
variable {X:Cx}{scope:Scope}{N:List Str}{caps:St->St}{tg iter elt:Expr}{ifs:List Expr}{pos:Pos}{wi:TI}{g:TG}{tt:TT}{te:TE}
def G6(hc:X.calm=true)(S:lF X scope N caps)(hi:PI X tg iter wi)
  (hY:∀fp s H,PG (aR X scope N fp s H) tg g/\Mb (aR X scope N fp s H) ifs tt/\PE (aR X scope N fp s H) elt te)
  (hs:∀x,foldedSetIterable iter X.env x=pure x:=by intro _;rfl):PE X (.ListComp elt [⟨tg,iter,ifs,0⟩] scope pos) (Fs wi g tt te caps):=by
 intro pins s σ H Q I h;rw[eval_ListComp];refine wpAny_comprehension_free (use:=none) rfl hs (n0 (n9 I.ok S.free)) S.kind S.loc (bK (hi pins s σ H _ I h) λv s1 h1=>bK h1 λitv s2 h2=>?_);let⟨it,fp,tn,J,H2,e,I2,T,st2,f2,rd⟩:=h2;subst e;refine bK (pj (iter:=iter) (pos:=pos) (E:=X.xe) hc I2 T st2 f2 S.kind S.free S.dup (S.cap σ) (S.len σ) hY rd) λacc s3 h3=>bK h3 λcenv s4 h4=>?_;refine jN h4 λr s5 h5=>?_;let⟨D,H5,m,rfl,rfl,I5,hn,fC,q⟩:=h5;refine⟨m,hn,λh' sb=>?_⟩;let⟨f0,f1,f2',f3,f4,f5⟩:=fC;exact⟨.ref D,H5,I5.turned (t':=s5.toks) (λb o hb e=>(sb.2 b hb).trans e) f0 f1 f3 f4 f5,rfl,q⟩
def Gr(hc:X.calm=true)(S:lF X scope N caps)(hi:PI X tg iter wi)
  (hY:∀fp s H,PG (aR X scope N fp s H) tg g/\Mb (aR X scope N fp s H) ifs tt/\PE (aR X scope N fp s H) elt te)
  (hN:X.N.Nodup) (hiy:X.N[i]?=some y) (hy:X.env.scope.names.lookup y=some .local)
  (hsw:swapsWith (.ListComp elt [⟨tg,iter,ifs,0⟩] scope pos) (some (.Name y py)) spos.line X.env=pure true)
  (hs:∀x,foldedSetIterable iter X.env x=pure x:=by intro _;rfl):PS X (.Assign [.Name y py] (.ListComp elt [⟨tg,iter,ifs,0⟩] scope pos) spos) (CC (Fs wi g tt te caps) (td i)):=by
 intro pins s σ H D I h;rw[exec_Assign_Name_used _ _ _ _ hsw];refine zT (wpAny_standAt (zT ?_));show wpAny _ X.A (do let _ <- comprehension (.ListComp elt [⟨tg,iter,ifs,0⟩] scope pos) scope X.env _ (newList []) false (eval iter X.env) (some (assign (.Name y py) X.env))) _ _ s;refine zT (yX (wpAny_comprehension_free (use:=some (assign (.Name y py) X.env)) (Q:=λ_ s'=>SP X pins D .next s') rfl hs (n0 (n9 I.ok S.free)) S.kind S.loc
  (bK (hi pins s σ H _ I h) λv s1 h1=>bK h1 λitv s2 h2=>?_)) (λ_ s' hq=>zU (zU hq)) λ_ _ e=>e)
 let⟨it,fp,tn,J,H2,e,I2,T,st2,f2,rd⟩:=h2;subst e;refine bK (pj (iter:=iter) (pos:=pos) (E:=X.xe) hc I2 T st2 f2 S.kind S.free S.dup (S.cap σ) (S.len σ) hY rd) λacc s3 h3=>bK h3 λcenv s4 h4=>?_;refine jN h4 λr s5 h5=>?_;let⟨D',H5,m,rfl,rfl,I5,hn,fC,q⟩:=h5;show wpAny _ X.A (assign (.Name y py) X.env (.ref D')) _ _ _;refine wpAny_assign_Name (lU (v:=.ref D') I5 hN hiy (.inl hy) rfl (λs6 I6 ⟨a,sa,ha⟩=>?_) (.inr hy));let⟨f0,f1,f2',f3,f4,f5⟩:=fC;have hne:cenv.locals≠a:=by
  rcases ha with z|z
  ·rw[z];exact f1
  ·exactλw=>f4 y a z w.symm
 refine⟨m,hn.sameBut sa hne,λh' sb=>?_⟩;exact⟨_,H5,I6.turned (t':=s6.toks) (λb o hb e=>(sb.2 b hb).trans e) f0 f1 f3 f4 f5,q⟩
end
abbrev Om(X:Cx)(qual:Str)(scope:Scope)(f c L:Addr):Env:=W.envX qual scope L f (.ref c) (iu X.env scope.names [])
def Jt(X:Cx)(A:Around)(qual:Str)(scope:Scope)(N:List Str)(f c:Addr)(s:Shared)(H:Hp):Cx where
 prog:=X.prog
 w:=X.w
 K:=X.K
 mg:=X.mg
 base:=X.base
 A:=A.deeper (Om X qual scope f c s.heap.objs.size)
 N:=N
 s₀:=s
 H₀:=H
 env:=Om X qual scope f c s.heap.objs.size
 outer:=X.stack
 stack:=Om X qual scope f c s.heap.objs.size::X.stack
 ex:=[]
 fn:=λ_=>false
 calm:=true
 pn:=[]
 xe:=λ_ _=>False
end L2
namespace Dl
open PySem L2 PySem.Spec PyProof.Rows
abbrev D:=PyData
def dE(ks:List (Str×List Int)):List (D×D):=ks.map λp=>(.str p.1,.tuple (p.2.map PyData.int))
abbrev dD(ks:List (Str×List Int)):D:=.dict (dE ks)
def eK(K:W.Frag)(H:Hp):List (Str×List Int)->List (fj×V)->Prop
 | [],us=>us=[]
 | p::r,us=>∃b t,us=(Sum.inr p.1,V.ref b)::t/\eZ K H b (p.2.map V.int)/\eK K H r t
mutual
def Rep(K:W.Frag)(H:Hp):D->V->Prop
 | .none,v=>v=.non
 | .bool b,v=>v=.bl b
 | .int i,v=>v=.int i
 | .str x,v=>v=.str x
 | .tuple ds,v=>∃a vs,v=.ref a/\eZ K H a vs/\au K H ds vs
 | .list ds,v=>∃a vs,v=.ref a/\fD K H a vs/\au K H ds vs
 | .dict l,v=>∃a ks us,v=.ref a/\l=dE ks/\H a=some (.dK us)/\eK K H ks us
def au(K:W.Frag)(H:Hp):List D->List V->Prop
 | [],vs=>vs=[]
 | d::ds,vs=>∃v r,vs=v::r/\Rep K H d v/\au K H ds r
end
def ay{K:W.Frag}(e:aH H H')(h:eZ K H a xs):eZ K H' a xs:=by
 rcases h with (h|⟨o,h⟩)|h
 ·exact .inl (.inl (e _ _ h))
 ·exact .inl (.inr ⟨o,e _ _ h⟩)
 ·exact .inr h
def eK.mono{K:W.Frag}{H H':Hp}(e:aH H H'):∀ {ks:List (Str×List Int)}{us:List (fj×V)},eK K H ks us->eK K H' ks us
 | [],_,h=>h
 | p::r,us,⟨b,t,h1,h2,h3⟩=>⟨b,t,h1,ay e h2,eK.mono e h3⟩
mutual
theorem Rep.mono{K:W.Frag}{H H':Hp}(e:aH H H'):∀ {d:D}{v:V},Rep K H d v->Rep K H' d v
 | .none,_,h=>h
 | .bool _,_,h=>h
 | .int _,_,h=>h
 | .str _,_,h=>h
 | .tuple ds,_,h=>by
  simp?[Rep] at h ⊢;let⟨a,vs,rfl,q,r⟩:=h;exact⟨a,vs,rfl,ay e q,au.mono e r⟩
 | .list ds,_,h=>by
  simp?[Rep] at h ⊢;let⟨a,vs,rfl,q,r⟩:=h;exact⟨a,vs,rfl,e.seq q,au.mono e r⟩
 | .dict l,_,h=>by
  simp?[Rep] at h ⊢;let⟨a,ks,us,h1,h2,h3,h4⟩:=h;exact⟨a,ks,us,h1,h2,e _ _ h3,h4.mono e⟩
theorem au.mono{K:W.Frag}{H H':Hp}(e:aH H H'):∀ {ds:List D}{vs:List V},au K H ds vs->au K H' ds vs
 | [],_,h=>h
 | d::ds,_,h=>by
  simp?[au] at h ⊢;let⟨v,r,rfl,a,b⟩:=h;exact⟨v,r,rfl,Rep.mono e a,au.mono e b⟩
end
section
variable {K:W.Frag}
def au.nil:au K H [] []:=by simp[au]
def au.cons(a:Rep K H d v)(b:au K H ds vs):au K H (d::ds) (v::vs):=by
 simp?[au];exact⟨v,vs,rfl,a,b⟩
def au.cons_inv(h:au K H (d::ds) vs):∃v r,vs=v::r/\Rep K H d v/\au K H ds r:=by simpa only[au] using h
def au.nil_inv(h:au K H [] vs):vs=[]:=by simpa only[au] using h
def au.length:∀ {ds:List D}{vs:List V},au K H ds vs->vs.length=ds.length
 | [],_,h=>by rw[h.nil_inv];rfl
 | d::ds,_,h=>by let⟨v,r,rfl,_,b⟩:=h.cons_inv;simp[au.length b]
def au.getD:∀ {ds:List D}{vs:List V}{i:Nat}{d:D},au K H ds vs->ds[i]?=some d->∃v,vs[i]?=some v/\Rep K H d v
 | [],_,i,d,h,e=>by simp at e
 | d::ds,_,i,d',h,e=>by
  let⟨v',r,rfl,a,b⟩:=h.cons_inv;cases i with
  | zero=>simp at e;subst e;exact⟨v',rfl,a⟩
  | succ i=>simp at e;let⟨v,h1,h2⟩:=au.getD b e;exact⟨v,by simpa using h1,h2⟩
def au.append:∀ {ds es:List D}{vs us:List V},au K H ds vs->au K H es us->au K H (ds++es) (vs++us)
 | [],_,_,_,h,g=>by rw[h.nil_inv];exact g
 | d::ds,_,_,_,h,g=>by let⟨v,r,rfl,a,b⟩:=h.cons_inv;exact au.cons a (au.append b g)
def au.take:∀ {ds:List D}{vs:List V}(n:Nat),au K H ds vs->au K H (ds.take n) (vs.take n)
 | [],_,n,h=>by rw[h.nil_inv];simp[au]
 | d::ds,_,0,h=>by simp[au]
 | d::ds,_,n+1,h=>by let⟨v,r,rfl,a,b⟩:=h.cons_inv;exact au.cons a (au.take n b)
def au.drop:∀ {ds:List D}{vs:List V}(n:Nat),au K H ds vs->au K H (ds.drop n) (vs.drop n)
 | [],_,n,h=>by rw[h.nil_inv];simp[au]
 | d::ds,_,0,h=>h
 | d::ds,_,n+1,h=>by let⟨v,r,rfl,a,b⟩:=h.cons_inv;exact au.drop n b
def au.reverse:∀ {ds:List D}{vs:List V},au K H ds vs->au K H ds.reverse vs.reverse
 | [],_,h=>by rw[h.nil_inv];simp[au]
 | d::ds,_,h=>by
  let⟨v,r,rfl,a,b⟩:=h.cons_inv;rw[kO,kO];exact au.append (au.reverse b) (au.cons a au.nil)
end
structure bw(HF H HF' H':Hp):Prop where
 hh:aH H H'
 ff:aH HF HF'
 fh:aH HF' H'
 nw:∀a o,HF' a=some o->HF a=some o\/H a=none
def bw.refl(s:aH HF H):bw HF H HF H:=⟨.refl _,.refl _,s,λ_ _ e=>.inl e⟩
def bw.trans(a:bw HF H HF1 H1)(b:bw HF1 H1 HF2 H2):bw HF H HF2 H2 :=
 ⟨a.hh.trans b.hh,a.ff.trans b.ff,b.fh,λx o e=>(b.nw x o e).elim (λz=>a.nw x o z) λz=>.inr (a.hh.free z)⟩
def cD(h:H p=none):aH H (upd H p o):=λb u e=>by rw[aC (aK e h)];exact e
def bw.new(s:aH HF H)(h:H p=none):bw HF H (upd HF p o) (upd H p o):=by
 have hf:HF p=none:=s.free h;refine⟨cD h,cD hf,λb u e=>?_,λb u e=>?_⟩
 ·by_cases hb:b=p
  ·subst hb;rw[aD] at e ⊢;exact e
  ·rw[aC hb] at e ⊢;exact s b u e
 ·by_cases hb:b=p
  ·subst hb;exact .inr h
  ·rw[aC hb] at e;exact .inl e
def bw.own(s:aH HF H)(h:H p=none):bw HF H HF (upd H p o) :=
 ⟨cD h,.refl _,λb u e=>by rw[aC (aK (s b u e) h)];exact s b u e,λ_ _ e=>.inl e⟩
def bw.freeze(g:bw HF H HF1 H1)(h:H p=none)(h1:H1 p=some o)(hf:HF1 p=none):bw HF H (upd HF1 p o) H1 :=
 ⟨g.hh,g.ff.trans (cD hf),λb u e=>by
  by_cases hb:b=p
  ·subst hb;rw[aD] at e;rw[h1,<- e]
  ·rw[aC hb] at e;exact g.fh b u e,λb u e=>by
  by_cases hb:b=p
  ·subst hb;exact .inr h
  ·rw[aC hb] at e;exact g.nw b u e⟩
def nF:List Str:=["ways_of","turned_order","fairest"]
def di(K:W.Frag)(HF:Hp):Prop:=∀ (f:Addr) (oc:Value) (od:Option Addr) (fd:FuncData) (sl:Array (Option Value)) (c P:Addr),K.lookup f=some ⟨oc,od,.func fd,sl⟩->fd.qualname∈nF->fd.code=.ref c->W.codeHdIn K c P=true->HF P=some (.tab (fd.qualname++".<locals>."++"<lambda>"))
def di.mono{K:W.Frag}(h:di K HF)(e:aH HF HF'):di K HF':=λf oc od fd sl c P a b d q=>e _ _ (h f oc od fd sl c P a b d q)
abbrev Env:=List (Option D)
structure cx(K:W.Frag)(HF:Hp)(ρ:Env)(σ:L2.St):Prop where
 get:∀ (i:Nat) (d:D),ρ[i]?=some (some d)->∃v,σ[i]?=some (some v)/\Rep K HF d v
 len:ρ.length<=σ.length
 tb:di K HF
def cx.mono{K:W.Frag}(h:cx K HF ρ σ)(e:aH HF HF'):cx K HF' ρ σ:=⟨λi d q=>let ⟨v,a,b⟩:=h.get i d q;⟨v,a,b.mono e⟩,h.len,h.tb.mono e⟩
def tD(K:W.Frag)(f:Env->Option D):TE:=λσ H Q=>∃HF ρ d,aH HF H/\cx K HF ρ σ/\f ρ=some d/\∀v H' HF',bw HF H HF' H'->Rep K HF' d v->Q v H'
def DE(X:Cx)(e:Expr)(f:Env->Option D):Prop:=PE X e (tD X.K f)
def tF(K:W.Frag)(f:Env->Option (List D)):TE:=λσ H Q=>∃HF ρ ds,aH HF H/\cx K HF ρ σ/\f ρ=some ds /\
 ∀a vs H' HF',bw HF H HF' H'->H a=none->HF' a=none->H' a=some (.lst vs)->au K HF' ds vs->Q (.ref a) H'
def DF(X:Cx)(e:Expr)(f:Env->Option (List D)):Prop:=PE X e (tF X.K f)
def JZ(K:W.Frag)(f:Env->Option Bool):TT:=λσ H Q=>∃HF ρ b,aH HF H/\cx K HF ρ σ/\f ρ=some b/\∀H' HF',bw HF H HF' H'->Q b H'
def DT(X:Cx)(e:Expr)(f:Env->Option Bool):Prop:=PT X e (JZ X.K f)
def Oa(K:W.Frag)(f:Env->Option (List D)):TA:=λσ H Q=>∃HF ρ ds,aH HF H/\cx K HF ρ σ/\f ρ=some ds/\∀vs H' HF',bw HF H HF' H'->au K HF' ds vs->Q vs H'
def DA(X:Cx)(es:List Expr)(f:Env->Option (List D)):Prop:=PA X es (Oa X.K f)
def aG(h:PE X e t)(i:∀σ H Q,t' σ H Q->t σ H Q):PE X e t':=λpins s σ H Q I q=>h pins s σ H Q I (i σ H Q q)
def rN(h:PT X e t)(i:∀σ H Q,t' σ H Q->t σ H Q):PT X e t':=λpins s σ H Q I q=>h pins s σ H Q I (i σ H Q q)
def u9(h:PA X e t)(i:∀σ H Q,t' σ H Q->t σ H Q):PA X e t':=λpos pins s σ H Q I q=>h pos pins s σ H Q I (i σ H Q q)
def bs(h:x.bind f=some b):∃a,x=some a/\f a=some b:=by
 cases x with
 | none=>cases h
 | some a=>exact⟨a,rfl,h⟩
def DF.de(h:DF X e f):DE X e (λρ=>(f ρ).map PyData.list):=aG h λσ H Q ⟨HF,ρ,d,sm,eo,hf,q⟩=>by
 have hf:(f ρ).map PyData.list=some d:=hf;cases e1:f ρ with
 | none=>rw[e1] at hf;cases hf
 | some ds =>
  rw[e1] at hf;obtain rfl:PyData.list ds=d:=xA hf;refine⟨HF,ρ,ds,sm,eo,e1,λa vs H' HF' g ha hf' h' r=>q _ _ (upd HF' a (.lst vs)) (g.freeze ha h' hf') ?_⟩;simp?[Rep];exact⟨a,vs,rfl,.inl (.inl aD),r.mono (cD hf')⟩
def ae(i:Nat):Env->Option D:=λρ=>(ρ[i]?).getD none
def LZ(i:Nat)(hN:X.N[i]?=some x)(hv:FA X.env.scope x)(hd:(x == ("__debug__":Str))=false:=by decide)(hcd:(x == ("__classdict__":Str))=false:=by decide):DE X (.Name x pos) (ae i) :=
 aG (gQ hN hv hd hcd) λσ H Q ⟨HF,ρ,d,sm,eo,hf,q⟩=>by
  have hf:(ρ[i]?).getD none=some d:=hf;cases e:ρ[i]? with
  | none=>rw[e] at hf;cases hf
  | some o =>
   rw[e] at hf;have hf:o=some d:=hf;subst hf;let⟨v,a,b⟩:=eo.get i d e;exact⟨v,a,q v H HF (.refl sm) b⟩
def fC(d:D):Env->Option D:=λ_=>some d
def J3{i j pos}:DE X (.Constant (.int i) j pos) (fC (.int i)):=aG wM λσ H Q ⟨HF,ρ,d,sm,eo,hf,q⟩=>by cases hf;exact q _ H HF (.refl sm) (by simp[Rep])
def MS{b j pos}:DE X (.Constant (.bool b) j pos) (fC (.bool b)):=aG Eb λσ H Q ⟨HF,ρ,d,sm,eo,hf,q⟩=>by cases hf;exact q _ H HF (.refl sm) (by simp[Rep])
def JG{j pos}:DE X (.Constant .none j pos) (fC .none):=aG Lb λσ H Q ⟨HF,ρ,d,sm,eo,hf,q⟩=>by cases hf;exact q _ H HF (.refl sm) (by simp[Rep])
def Lw{x j pos}:DE X (.Constant (.str x) j pos) (fC (.str x)):=aG DU λσ H Q ⟨HF,ρ,d,sm,eo,hf,q⟩=>by cases hf;exact q _ H HF (.refl sm) (by simp[Rep])
def HX(hg:Gl X x)(hm:X.mg x=some (.int i t))(hd:(x == ("__debug__":Str))=false:=by decide):DE X (.Name x pos) (fC (.int i)) :=
 aG (zp (v:=.int i) hg hm ⟨t,rfl⟩ hd) λσ H Q ⟨HF,ρ,d,sm,eo,hf,q⟩=>by cases hf;exact q _ H HF (.refl sm) (by simp[Rep])
def da(K:W.Frag)(r:R2)(g:D->D->Option D):Prop:=∀HF H x y v1 v2 d Q,aH HF H->Rep K HF x v1->Rep K HF y v2->g x y=some d->(∀v H' HF',bw HF H HF' H'->Rep K HF' d v->Q v H')->r v1 v2 H Q
def f2(g:D->D->Option D)(f1 f2:Env->Option D):Env->Option D:=λρ=>(f1 ρ).bind λx=>(f2 ρ).bind λy=>g x y
def A8{X:Cx}{fa fb:Env->Option D}(hr:da X.K r g):∀σ H Q,tD X.K (f2 g fa fb) σ H Q->Mv r (tD X.K fa) (tD X.K fb) σ H Q:=λσ H Q ⟨HF,ρ,d,sm,eo,hf,q⟩=>by
 let⟨x,hx,hf⟩:=bs hf;let⟨y,hy,hg⟩:=bs hf;exact⟨HF,ρ,x,sm,eo,hx,λv1 H1 HF1 g1 r1=>⟨HF1,ρ,y,g1.fh,eo.mono g1.ff,hy,λv2 H2 HF2 g2 r2=>hr HF2 H2 x y v1 v2 d Q g2.fh (r1.mono g2.ff) r2 hg λv H' HF' g3 r3=>q v H' HF' ((g1.trans g2).trans g3) r3⟩⟩
def pR(ho:eC X (binaryOp op) r)(hr:da X.K r g)(ha:DE X a fa)(hb:DE X b fb):DE X (.BinOp a op b pos) (f2 g fa fb):=aG (w8 ho ha hb) (A8 hr)
def dY(ho:eC X (compareOp op) r)(hr:da X.K r g)(ha:DE X a fa)(hb:DE X b fb)(hm:behindInMarks op b=false):DE X (.Compare a [op] [b] pos) (f2 g fa fb):=aG (HK ho ha hb hm) (A8 hr)
def sO(C:Int->Int->Prop)[∀i j,Decidable (C i j)](g:Int->Int->D):D->D->Option D
 | .int i,.int j=>if C i j then some (g i j) else none
 | _,_=>none
def DP{K:W.Frag}{C:Int->Int->Prop}[∀i j,Decidable (C i j)]{gi:Int->Int->Int}:da K (rI C λi j=>.int (gi i j)) (sO C λi j=>.int (gi i j)):=by
 intro HF H x y v1 v2 d Q sm r1 r2 hg q;cases x<;>cases y<;>simp?[sO] at hg<;>try cases hg
 rename_i i j;simp?[Rep] at r1 r2;by_cases hc:C i j
 ·rw[yI hc] at hg;cases hg;exact⟨i,j,r1,r2,hc,q _ H HF (.refl sm) (by simp[Rep])⟩
 ·rw[yK hc] at hg;cases hg
def Cc{K:W.Frag}{gi:Int->Int->Int}:da K (F3 λi j=>.int (gi i j)) (sO (λ_ _=>True) λi j=>.int (gi i j)):=by
 intro HF H x y v1 v2 d Q sm r1 r2 hg q;cases x<;>cases y<;>simp?[sO] at hg<;>try cases hg
 rename_i i j;simp?[Rep] at r1 r2;exact⟨i,j,r1,r2,q _ H HF (.refl sm) (by simp[Rep])⟩
def iJ{K:W.Frag}{gi:Int->Int->Bool}:da K (F3 λi j=>.bl (gi i j)) (sO (λ_ _=>True) λi j=>.bool (gi i j)):=by
 intro HF H x y v1 v2 d Q sm r1 r2 hg q;cases x<;>cases y<;>simp?[sO] at hg<;>try cases hg
 rename_i i j;simp?[Rep] at r1 r2;exact⟨i,j,r1,r2,q _ H HF (.refl sm) (by simp[Rep])⟩
noncomputable instance (i j:Int):Decidable (oV i j):=by unfold oV;infer_instance
noncomputable instance (i j:Int):Decidable (Gs i j):=by unfold Gs;infer_instance
section
variable {X:Cx}{a b c:Expr}{fa fb fc:Env->Option D}{pos:Pos}{rest:List Expr}
def i9(fa fb:Env->Option D):Env->Option D:=λρ=>(fa ρ).bind fun|.bool true=>fb ρ|.bool false=>some (.bool false)|_=>none
def ON(fa fb:Env->Option D):Env->Option D:=λρ=>(fa ρ).bind fun|.bool true=>some (.bool true)|.bool false=>fb ρ|_=>none
def M7:D->Option D|.bool b=>some (.bool (!b))|_=>none
def OG(fa:Env->Option D):Env->Option D:=λρ=>(fa ρ).bind M7
def JD{op}(h:DE X a fa):DE X (.BoolOp op [a] pos) fa:=Ks h
def Lj(ha:DE X a fa)(hb:DE X (.BoolOp .And (b::rest) pos) fb):DE X (.BoolOp .And (a::b::rest) pos) (i9 fa fb):=aG (Jz ha hb) λσ H Q ⟨HF,ρ,d,sm,eo,hf,q⟩=>by
 let⟨x,hx,hf⟩:=bs hf;refine⟨HF,ρ,x,sm,eo,hx,λv1 H1 HF1 g1 r1=>?_⟩;cases x<;>try cases hf
 rename_i k;simp?[Rep] at r1;refine⟨k,r1,?_⟩;cases k with
 | true=>exact oU ⟨HF1,ρ,d,g1.fh,eo.mono g1.ff,hf,λv H' HF' g r=>q v H' HF' (g1.trans g) r⟩
 | false=>cases hf;exact mG (q _ H1 HF1 g1 (by simp[Rep]))
def MX(ha:DE X a fa)(hb:DE X (.BoolOp .Or (b::rest) pos) fb):DE X (.BoolOp .Or (a::b::rest) pos) (ON fa fb):=aG (Ef ha hb) λσ H Q ⟨HF,ρ,d,sm,eo,hf,q⟩=>by
 let⟨x,hx,hf⟩:=bs hf;refine⟨HF,ρ,x,sm,eo,hx,λv1 H1 HF1 g1 r1=>?_⟩;cases x<;>try cases hf
 rename_i k;simp?[Rep] at r1;refine⟨k,r1,?_⟩;cases k with
 | false=>exact mG ⟨HF1,ρ,d,g1.fh,eo.mono g1.ff,hf,λv H' HF' g r=>q v H' HF' (g1.trans g) r⟩
 | true=>cases hf;exact oU (q _ H1 HF1 g1 (by simp[Rep]))
def gB:D->Option Bool|.bool b=>some b|_=>none
def fB(f:Env->Option D):Env->Option Bool:=λρ=>(f ρ).bind gB
def vy:∀σ H (Q:Bool->Hp->Prop),JZ X.K (fB f) σ H Q->tD X.K f σ H λx H1=>∃c,x=.bl c/\Q c H1:=λσ H Q ⟨HF,ρ,k,sm,eo,hf,q⟩=>by
 let⟨x,hx,hf⟩:=bs hf;refine⟨HF,ρ,x,sm,eo,hx,λv1 H1 HF1 g1 r1=>?_⟩;cases x<;>try cases hf
 simp?[Rep] at r1;exact⟨_,r1,q H1 HF1 g1⟩
def L3(h:DE X a f)(he:∀whole,isTrue a X.env whole=(do let v <- whole;standAt a.pos;holding [v] (truthy v)):=by intro _;rfl):DT X a (fB f):=rN (EO h he) vy
def dS(ho:eC X (compareOp op) r)(hr:da X.K r g)(ha:DE X a fa)(hb:DE X b fb)(hm:behindInMarks op b=false):DT X (.Compare a [op] [b] pos) (fB (f2 g fa fb)) :=
 rN (yu ho ha hb hm) λσ H Q h=>A8 hr σ H _ (vy σ H Q h)
def Ac(fa fb:Env->Option Bool):Env->Option Bool:=λρ=>(fa ρ).bind fun|true=>fb ρ|false=>some false
def ib(fa fb:Env->Option Bool):Env->Option Bool:=λρ=>(fa ρ).bind fun|true=>some true|false=>fb ρ
def bf(fa:Env->Option Bool):Env->Option Bool:=λρ=>(fa ρ).map (!·)
variable {ta tb:Env->Option Bool}
def DW(X:Cx)(e:Expr)(f:Env->Option Bool):Prop:=PW X e (JZ X.K f)
def B0(h:PW X e t)(i:∀σ H Q,t' σ H Q->t σ H Q):PW X e t':=λwh pins s σ H Q I q=>h wh pins s σ H Q I (i σ H Q q)
def DW.dt(h:DW X a ta):DT X a ta:=PW.pt h
def FQ(ha:DT X a ta):DW X (.BoolOp .And [a] pos) ta:=Hr ha
def JV(ha:DT X a ta):DW X (.BoolOp .Or [a] pos) ta:=Dx ha
def KA(ha:DT X a ta)(hb:DW X (.BoolOp .And (b::rest) pos) tb):DW X (.BoolOp .And (a::b::rest) pos) (Ac ta tb):=B0 (KD ha hb) λσ H Q ⟨HF,ρ,d,sm,eo,hf,q⟩=>by
 let⟨x,hx,hf⟩:=bs hf;refine⟨HF,ρ,x,sm,eo,hx,λH1 HF1 g1=>?_⟩;cases x with
 | true=>exact oU ⟨HF1,ρ,d,g1.fh,eo.mono g1.ff,hf,λH' HF' g=>q H' HF' (g1.trans g)⟩
 | false=>cases hf;exact mG (q H1 HF1 g1)
def Mx(ha:DT X a ta)(hb:DW X (.BoolOp .Or (b::rest) pos) tb):DW X (.BoolOp .Or (a::b::rest) pos) (ib ta tb):=B0 (Jd ha hb) λσ H Q ⟨HF,ρ,d,sm,eo,hf,q⟩=>by
 let⟨x,hx,hf⟩:=bs hf;refine⟨HF,ρ,x,sm,eo,hx,λH1 HF1 g1=>?_⟩;cases x with
 | false=>exact mG ⟨HF1,ρ,d,g1.fh,eo.mono g1.ff,hf,λH' HF' g=>q H' HF' (g1.trans g)⟩
 | true=>cases hf;exact oU (q H1 HF1 g1)
def J4(ha:DT X a ta):DT X (.UnaryOp .Not a pos) (bf ta):=rN (CI ha) λσ H Q ⟨HF,ρ,d,sm,eo,hf,q⟩=>by
 have hf:(ta ρ).map (!·)=some d:=hf;cases e:ta ρ with
 | none=>rw[e] at hf;cases hf
 | some k=>rw[e] at hf;cases hf;exact⟨HF,ρ,k,sm,eo,e,λH1 HF1 g1=>q H1 HF1 g1⟩
def BN(tc:Env->Option Bool)(fa fb:Env->Option D):Env->Option D:=λρ=>(tc ρ).bind fun|true=>fa ρ|false=>fb ρ
def NA(hc:DT X c ta)(ha:DE X a fa)(hb:DE X b fb):DE X (.IfExp c a b pos) (BN ta fa fb):=aG (tV hc ha hb) λσ H Q ⟨HF,ρ,d,sm,eo,hf,q⟩=>by
 let⟨x,hx,hf⟩:=bs hf;refine⟨HF,ρ,x,sm,eo,hx,λH1 HF1 g1=>?_⟩;cases x with
 | true=>exact oU ⟨HF1,ρ,d,g1.fh,eo.mono g1.ff,hf,λv H' HF' g r=>q v H' HF' (g1.trans g) r⟩
 | false=>exact mG ⟨HF1,ρ,d,g1.fh,eo.mono g1.ff,hf,λv H' HF' g r=>q v H' HF' (g1.trans g) r⟩
def iH(g g':D->D->Option D)(fa fb fc:Env->Option D):Env->Option D:=λρ=>(fa ρ).bind λx=>(fb ρ).bind λy=>(g x y).bind fun|.bool true=>(fc ρ).bind λz=>g' y z|.bool false=>some (.bool false)|_=>none
def ze(hr:da X.K r g)(hr':da X.K r' g'):∀σ H Q,tD X.K (iH g g' fa fb fc) σ H Q->u3 r r' (tD X.K fa) (tD X.K fb) (tD X.K fc) σ H Q:=λσ H Q ⟨HF,ρ,d,sm,eo,hf,q⟩=>by
 let⟨x,hx,hf⟩:=bs hf;let⟨y,hy,hf⟩:=bs hf;let⟨z,hz,hf⟩:=bs hf;refine⟨HF,ρ,x,sm,eo,hx,λv1 H1 HF1 g1 r1=>⟨HF1,ρ,y,g1.fh,eo.mono g1.ff,hy,λv2 H2 HF2 g2 r2=>hr HF2 H2 x y v1 v2 z _ g2.fh (r1.mono g2.ff) r2 hz λv3 H3 HF3 g3 r3=>?_⟩⟩;cases z<;>try cases hf
 rename_i k;simp?[Rep] at r3;refine⟨k,r3,?_⟩;have G:=(g1.trans g2).trans g3;cases k with
 | false=>cases hf;exact mG (q _ H3 HF3 G (by simp[Rep]))
 | true =>
  let⟨w,hw,hg⟩:=bs hf;exact oU ⟨HF3,ρ,w,G.fh,eo.mono G.ff,hw,λv4 H4 HF4 g4 r4=>hr' HF4 H4 y w v2 v4 d Q g4.fh (r2.mono (g3.ff.trans g4.ff)) r4 hg λv H' HF' g5 r5=>q v H' HF' ((G.trans g4).trans g5) r5⟩
def Fj(ho:eC X (compareOp op) r)(hr:da X.K r g)(ho':eC X (compareOp op') r')(hr':da X.K r' g')(ha:DE X a fa)(hb:DE X b fb)(hc:DE X c fc)
  (hm:lastMarks [op,op'] [b,c]=false:=by with_unfolding_all rfl):DE X (.Compare a [op,op'] [b,c] pos) (iH g g' fa fb fc):=aG (Ee ho ho' ha hb hc hm) (ze hr hr')
def CA(ho:eC X (compareOp op) r)(hr:da X.K r g)(ho':eC X (compareOp op') r')(hr':da X.K r' g')(ha:DE X a fa)(hb:DE X b fb)(hc:DE X c fc)
  (hm:lastMarks [op,op'] [b,c]=false:=by with_unfolding_all rfl):DT X (.Compare a [op,op'] [b,c] pos) (fB (iH g g' fa fb fc)) :=
 rN (Eu ho ho' ha hb hc hm) λσ H Q h=>ze hr hr' σ H _ (vy σ H Q h)
def af:Env->Option (List D):=λ_=>some []
def aa(f:Env->Option D)(g:Env->Option (List D)):Env->Option (List D):=λρ=>(f ρ).bind λx=>(g ρ).map (x::·)
def KR:DA X [] af:=u9 cA λσ H Q ⟨HF,ρ,d,sm,eo,hf,q⟩=>by cases hf;exact q [] H HF (.refl sm) au.nil
def G7(he:DE X e f)(hs:DA X es g)(hst:starEach (e::es) X.env=(false,eval e X.env)::starEach es X.env:=by rfl):DA X (e::es) (aa f g) :=
 u9 (bh he hs hst) λσ H Q ⟨HF,ρ,d,sm,eo,hf,q⟩=>by
  let⟨x,hx,hf⟩:=bs hf;have hf:(g ρ).map (x::·)=some d:=hf;cases e1:g ρ with
  | none=>rw[e1] at hf;cases hf
  | some xs =>
   rw[e1] at hf;cases hf;exact⟨HF,ρ,x,sm,eo,hx,λv1 H1 HF1 g1 r1=>⟨HF1,ρ,xs,g1.fh,eo.mono g1.ff,e1,λvs H2 HF2 g2 r2=>q (v1::vs) H2 HF2 (g1.trans g2) (au.cons (r1.mono g2.ff) r2)⟩⟩
variable {es:List Expr}{fs:Env->Option (List D)}
def small(ds:List D):Option (List D):=if ds.length<=sizeLine then some ds else none
def dz{ds es:List D}(h:small ds=some es):es=ds/\ds.length<=sizeLine:=by
 unfold small at h;split at h
 ·cases h;exact⟨rfl,‹_›⟩
 ·cases h
def aP(g:Env->Option (List D)):Env->Option D:=λρ=>(g ρ).bind λds=>(small ds).map PyData.tuple
def du(g:Env->Option (List D)):Env->Option (List D):=λρ=>(g ρ).bind small
def Kd{x1}(h:DA X es fs):DE X (.Tuple es x1 pos) (aP fs):=aG (CD h) λσ H Q ⟨HF,ρ,d,sm,eo,hf,q⟩=>by
 let⟨ds,hx,hf⟩:=bs hf;have hf:(small ds).map PyData.tuple=some d:=hf;cases e:small ds with
 | none=>rw[e] at hf;cases hf
 | some es' =>
  rw[e] at hf;cases hf;let⟨rfl,hz⟩:=dz e;refine⟨HF,ρ,_,sm,eo,hx,λvs H1 HF1 g1 r1=>⟨by rw[r1.length];exact hz,λp hp=>q _ _ (upd HF1 p (.tup vs)) (g1.trans (.new g1.fh hp)) ?_⟩⟩;simp?[Rep];exact⟨p,vs,rfl,.inl (.inl aD),r1.mono (cD (g1.fh.free hp))⟩
def Ki(h:DA X es fs):DF X (.List es pos) (du fs):=aG (wJ h) λσ H Q ⟨HF,ρ,d,sm,eo,hf,q⟩=>by
 let⟨ds,hx,hf⟩:=bs hf;let⟨rfl,hz⟩:=dz hf;exact⟨HF,ρ,_,sm,eo,hx,λvs H1 HF1 g1 r1=>⟨by rw[r1.length];exact hz,λp hp=>q p vs _ HF1 (g1.trans (.own g1.fh hp)) (g1.hh.free hp) (g1.fh.free hp) aD r1⟩⟩
def aF:D->D->Option D
 | .tuple ds,.int i=>mR ds i
 | .list ds,.int i=>mR ds i
 | _,_=>none
def uD{K:W.Frag}(r:au K HF ds vs)(h:mR ds i=some d):∃v,mR vs i=some v/\Rep K HF d v:=by
 unfold mR at h ⊢;rw[r.length];let⟨j,hj,h⟩:=bs h;let⟨v,a,b⟩:=r.getD h;exact⟨v,by rw[hj];exact a,b⟩
def LV{K:W.Frag}:da K (Py K) aF:=by
 intro HF H x y v1 v2 d Q sm r1 r2 hg q;cases x<;>cases y<;>simp?[aF] at hg<;>try cases hg
 ·simp?[Rep] at r1 r2;let⟨a,vs,rfl,hs,r⟩:=r1;let⟨v,hv,rv⟩:=uD r hg;exact .inl ⟨a,vs,_,v,rfl,r2,sm.seq hs,hv,q v H HF (.refl sm) rv⟩
 ·simp?[Rep] at r1 r2;let⟨a,vs,rfl,hs,r⟩:=r1;let⟨v,hv,rv⟩:=uD r hg;exact .inr (.inl ⟨a,vs,_,v,rfl,r2,ay sm hs,hv,q v H HF (.refl sm) rv⟩)
def Mp(ha:DE X a fa)(hb:DE X b fb)(hs:kq b:=by intro _ _;rfl):DE X (.Subscript a b pos) (f2 aF fa fb):=aG (Dq Lz ha hb hs) (A8 LV)
def uX{x:Str}{v:Value}(h:Value.isStrOf x v=true):∃t,v=.str x t:=by
 unfold Value.isStrOf at h;split at h
 ·exact⟨_,by rw[eq_of_beq h]⟩
 ·cases h
def nY{h:Heap}:∀ {ns:List Int}{us:List Value},aE (ns.map V.int) us->∃as,ReadsAll h us (ns.map PyData.int) as
 | [],_,r=>by cases r;exact⟨_,.nil⟩
 | n::ns,_,r=>by
  rw[zI] at r ⊢;cases r with
  | cons a b =>
   let⟨t,rfl⟩:=a;let⟨as,q⟩:=nY b;exact⟨_,.cons (.int n t) q⟩
def pw{pins:List (Addr×Obj)}{σ:L2.St}{H HF:Hp}{s:Shared}(I:Inv X pins σ H s)(sm:aH HF H):∀ {ks:List (Str×List Int)}{us:List (fj×V)}{vs:List (fj×Value)}{es:List DictEntry},eK X.K HF ks us->KV us vs->PySem.Pairs (gS X.prog X.w) es vs ->
  ∃as bs,ReadsAll s.heap (es.map (·.key)) ((dE ks).map (·.1)) as/\ReadsAll s.heap (es.map (·.val)) ((dE ks).map (·.2)) bs
 | [],us,vs,es,h,kv,hp=>by
  have h:us=[]:=h;subst h;cases kv;cases hp;exact⟨_,_,.nil,.nil⟩
 | p::r,us,vs,es,⟨b,t,h1,h2,h3⟩,kv,hp=>by
  subst h1;cases kv with
  | cons q kv =>
   cases hp with
   | cons k1 k2 hp =>
    let⟨as,bs,q1,q2⟩:=pw I sm h3 kv hp;let⟨z1,z2⟩:=q;have z2:_=Value.ref b:=z2;have z1:Sum.inr p.1=_:=z1;rw[<- z1] at k1;let⟨tk,ek⟩:=uX (show Value.isStrOf p.1 _=true from k1);let⟨its,rv,⟨o,ho,hc,n,hd⟩,_⟩:=I.tuple (ay sm h2);let⟨cs,q3⟩:=nY (h:=s.heap) rv;have r1:Reads s.heap (.str p.1 tk) (.str p.1) []:=.str p.1 tk;have r2:Reads s.heap (.ref b) (.tuple (p.2.map PyData.int)) cs:=.tuple ho hc hd (by simpa using q3);rw[<- z2,<- k2] at r2;rw[<- ek] at r1;exact⟨_,_,.cons r1 q1,.cons r2 q2⟩
mutual
theorem bP{pins:List (Addr×Obj)}{σ:L2.St}{H HF:Hp}{s:Shared}(I:Inv X pins σ H s)(sm:aH HF H):∀ {d:D}{v:V}{u:Value},Rep X.K HF d v->RelV v u->∃as,Reads s.heap u d as
 | .none,_,_,h,r=>by simp?[Rep] at h;subst h;cases r;exact⟨_,.none⟩
 | .bool b,_,_,h,r=>by simp?[Rep] at h;subst h;cases r;exact⟨_,.bool b⟩
 | .int i,_,_,h,r=>by simp?[Rep] at h;subst h;let⟨t,rfl⟩:=r;exact⟨_,.int i t⟩
 | .str i,_,_,h,r=>by simp?[Rep] at h;subst h;let⟨t,rfl⟩:=r;exact⟨_,.str i t⟩
 | .tuple ds,_,_,h,r=>by
  simp?[Rep] at h;let⟨a,vs,rfl,hs,rr⟩:=h;cases r;let⟨its,rv,⟨o,ho,hc,n,hd⟩,_⟩:=I.tuple (ay sm hs);let⟨as,q⟩:=l4 I sm rr rv;exact⟨as,.tuple ho hc hd (by simpa using q)⟩
 | .list ds,_,_,h,r=>by
  simp?[Rep] at h;let⟨a,vs,rfl,hs,rr⟩:=h;cases r;let⟨its,rv,pl,_⟩:=I.list (sm.seq hs);let⟨o,ho,hc,n,hd⟩:=pl.isList;let⟨as,q⟩:=l4 I sm rr rv;exact⟨_,.list ho hc hd (by simpa using q)⟩
 | .dict l,_,_,h,r=>by
  simp?[Rep] at h;let⟨a,ks,us,rfl,rfl,e,dr⟩:=h;cases r;let⟨_,_,vs,kv,o,es,ep,ho,hx,hd,_,hp,_⟩:=(show cL X.prog X.w H s.heap a (.dK us) from I.hok a _ (sm _ _ e))
  let⟨as,bs,q1,q2⟩:=pw I sm dr kv hp;exact⟨_,.dict ho hx.1 hd q1 q2⟩
theorem l4{pins:List (Addr×Obj)}{σ:L2.St}{H HF:Hp}{s:Shared}(I:Inv X pins σ H s)(sm:aH HF H):∀ {ds:List D}{vs:List V}{us:List Value},au X.K HF ds vs->aE vs us->∃as,ReadsAll s.heap us ds as
 | [],_,_,h,r=>by rw[h.nil_inv] at r;cases r;exact⟨_,.nil⟩
 | d::ds,_,_,h,r=>by
  let⟨v,vr,rfl,a,b⟩:=h.cons_inv;cases r with
  | cons r rr =>
   let⟨as,q⟩:=bP I sm a r;let⟨bs,p⟩:=l4 I sm b rr;exact⟨_,.cons q p⟩
end
def K9(K:W.Frag)(g:D->D->Option Bool):R2:=λv1 v2 H Q=>∃HF x y k,aH HF H/\Rep K HF x v1/\Rep K HF y v2/\g x y=some k/\Q (.bl k) H
def d0{K:W.Frag}:da K (K9 K g) (λx y=>(g x y).map PyData.bool):=by
 intro HF H x y v1 v2 d Q sm r1 r2 hg q;have hg:(g x y).map PyData.bool=some d:=hg;cases e:g x y with
 | none=>rw[e] at hg;cases hg
 | some k=>rw[e] at hg;cases hg;exact⟨HF,x,y,k,sm,r1,r2,e,q _ H HF (.refl sm) (by simp[Rep])⟩
def IY(x y:D):Option Bool:=if SeqAt.shaped x=true/\SeqAt.shaped y=true then some (PyData.eqv x y) else none
def JU(x y:D):Option Bool:=if SeqAt.shaped x=true/\SeqAt.shaped y=true then some (!PyData.eqv x y) else none
def EA(hu:X.A.units+64 < cLine):eC X (compareOp .Eq) (K9 X.K IY):=by
 intro pins s σ H v1 v2 u1 u2 Q I rx ry h;let⟨HF,x,y,k,sm,r1,r2,hg,q⟩:=h;unfold IY at hg;split at hg<;>cases hg;rename_i hh;let⟨as,ra⟩:=bP I sm r1 rx;let⟨bs,rb⟩:=bP I sm r2 ry;exact eq_dataH ra rb hh.1 hh.2 hu ⟨.bl _,H,I,rfl,q⟩
def Fq(hu:X.A.units+64 < cLine):eC X (compareOp .NotEq) (K9 X.K JU):=by
 intro pins s σ H v1 v2 u1 u2 Q I rx ry h;let⟨HF,x,y,k,sm,r1,r2,hg,q⟩:=h;unfold JU at hg;split at hg<;>cases hg;rename_i hh;let⟨as,ra⟩:=bP I sm r1 rx;let⟨bs,rb⟩:=bP I sm r2 ry;exact ne_dataH ra rb hh.1 hh.2 hu ⟨.bl _,H,I,rfl,q⟩
def items:D->Option (List D)|.tuple ds=>some ds|.list ds=>some ds|_=>none
def OF(x y:D):Option Bool:=match y with
 | .tuple ds=>if SeqAt.shaped x=true/\SeqAt.shaped y=true then some (ds.any λz=>PyData.eqv z x) else none
 | .list ds=>if SeqAt.shaped x=true/\SeqAt.shaped y=true then some (ds.any λz=>PyData.eqv z x) else none
 | _=>none
def Dp(hu:X.A.units+66 < cLine):eC X (compareOp .In) (K9 X.K OF):=by
 intro pins s σ H v1 v2 u1 u2 Q I rx ry h;let⟨HF,x,y,k,sm,r1,r2,hg,q⟩:=h;let⟨as,ra⟩:=bP I sm r1 rx;let⟨bs,rb⟩:=bP I sm r2 ry;cases y<;>simp?[OF] at hg<;>try cases hg
 all_goals
  split at hg<;>cases hg;rename_i ds hh;have c1:=jY hh.1;have c2:=jY hh.2;have d1:=SeqAt.depth_of_shaped hh.1;simp?[PyData.canLay0] at c2;have m:=Nat.min_le_right (PyData.depthAll ds) x.depth
  first
   | exact SeqAt.in_list_reads rb ra c2 c1 (by lia) ⟨.bl _,H,I,rfl,q⟩
   | exact SeqAt.in_tuple_reads rb ra c2 c1 (by lia) ⟨.bl _,H,I,rfl,q⟩
end
def Nz(K:W.Frag)(n:Nat)(m:List D->Option D):Sp:=λvs H Q _=>∃HF ds d,aH HF H/\di K HF/\au K HF ds vs/\ds.length=n/\m ds=some d/\∀v H' HF',bw HF H HF' H'->Rep K HF' d v->Q v H'
structure Fm(P:Program)(w:World)(K:W.Frag)(mg:Str->Option Value)(base:Heap)(k:Nat)(x:Str)(n:Nat)(m:List D->Option D):Prop where
 ex:∃ (f:Addr) (fd:FuncData) (ps:List Str),mI P w K mg base FD k f fd ps (Nz K n m)/\mg x=some (.ref f)/\W.keepIn K (.ref f)=true/\Binds K fd ps []
def Fm.mono{K:W.Frag}(F:Fm P w K mg base k x n m)(h:k<=j):Fm P w K mg base j x n m:=by
 let⟨f,fd,ps,a,b,c,d⟩:=F.ex;exact⟨f,fd,ps,a.mono h,b,c,d⟩
def ah(n:Nat)(m:List D->Option D)(fs:Env->Option (List D)):Env->Option D:=λρ=>(fs ρ).bind λds=>if ds.length=n then m ds else none
def HU(F:Fm X.prog X.w X.K X.mg X.base k x n m)(hr:gu k X.A)(hg:Gl X x)(ha:DA X (e::es) fs)(hdb:(x == ("__debug__":Str))=false:=by decide)
  (he:starEach (e::es) X.env=(false,eval e X.env)::starEach es X.env:=by rfl) (hpl:(backTo pos (starEach es X.env)).any (·.1)=false:=by rfl):DE X (.Call (.Name x p) (e::es) [] pos) (ah n m fs):=by
 let⟨f,fd,ps,ok,hm,hk,hb⟩:=F.ex;refine aG (yj (E:=E0) ok hr hg hm hk hb .nil M3 ha hdb he hpl) λσ H Q ⟨HF,ρ,d,sm,eo,hf,q⟩=>?_;let⟨ds,hx,hf⟩:=bs hf;split at hf
 ·rename_i hl;exact⟨HF,ρ,ds,sm,eo,hx,λvs H1 HF1 g1 r1=>⟨HF1,ds,d,g1.fh,eo.tb.mono g1.ff,by rw[qC];exact r1,hl,hf,λv H' HF' g r=>q v H' HF' (g1.trans g) r⟩⟩
 ·cases hf
def Cn(K:W.Frag)(r:List V->Hp->VK->Prop)(g:List D->Option D):Prop:=∀HF H ds vs d Q,aH HF H->au K HF ds vs->g ds=some d->(∀v H' HF',bw HF H HF' H'->Rep K HF' d v->Q v H')->r vs H Q
def aU(g:List D->Option D)(fs:Env->Option (List D)):Env->Option D:=λρ=>(fs ρ).bind g
def MF{X:Cx}{fs:Env->Option (List D)}(hs:Cn X.K r g):∀σ H Q,tD X.K (aU g fs) σ H Q->NU r (Oa X.K fs) σ H Q:=λσ H Q ⟨HF,ρ,d,sm,eo,hf,q⟩=>by
 let⟨ds,hx,hf⟩:=bs hf;exact⟨HF,ρ,ds,sm,eo,hx,λvs H1 HF1 g1 r1=>hs HF1 H1 ds vs d Q g1.fh r1 hf λv H' HF' g2 r2=>q v H' HF' (g1.trans g2) r2⟩
def zq(K:W.Frag)(r:List V->Hp->VK->Prop)(g:List D->Option (List D)):Prop:=∀HF H ds vs es Q,aH HF H->au K HF ds vs->g ds=some es ->
 (∀a us H' HF',bw HF H HF' H'->H a=none->HF' a=none->H' a=some (.lst us)->au K HF' es us->Q (.ref a) H')->r vs H Q
def eQ(g:List D->Option (List D))(fs:Env->Option (List D)):Env->Option (List D):=λρ=>(fs ρ).bind g
def Ji{X:Cx}{fs:Env->Option (List D)}(hs:zq X.K r g):∀σ H Q,tF X.K (eQ g fs) σ H Q->NU r (Oa X.K fs) σ H Q:=λσ H Q ⟨HF,ρ,d,sm,eo,hf,q⟩=>by
 let⟨ds,hx,hf⟩:=bs hf;exact⟨HF,ρ,ds,sm,eo,hx,λvs H1 HF1 g1 r1=>hs HF1 H1 ds vs d Q g1.fh r1 hf λa us H' HF' g2 ha hf' h' r2=>q a us H' HF' (g1.trans g2) (g1.hh.free ha) hf' h' r2⟩
structure my(X:Cx)(x:Str)(v:Value):Prop where
 gl:Gl X x
 mg:X.mg x=none
 bt:bootBuiltins x=some v
def gy{id:String}(hc:cK X (.builtin id) r)(hs:Cn X.K r g)(B:my X x (.builtin id))(ha:DA X (e::es) fs)(hn:x≠"__name__":=by decide)(hdb:(x == ("__debug__":Str))=false:=by decide)
  (he:starEach (e::es) X.env=(false,eval e X.env)::starEach es X.env:=by rfl) (hpl:(backTo pos (starEach es X.env)).any (·.1)=false:=by rfl):DE X (.Call (.Name x p) (e::es) [] pos) (aU g fs) :=
 aG (lb hc B.gl B.mg B.bt ha hn hdb he hpl) (MF hs)
def E2{id:String}(hc:cK X (.builtin id) r)(hs:zq X.K r g)(B:my X x (.builtin id))(ha:DA X (e::es) fs)(hn:x≠"__name__":=by decide)(hdb:(x == ("__debug__":Str))=false:=by decide)
  (he:starEach (e::es) X.env=(false,eval e X.env)::starEach es X.env:=by rfl) (hpl:(backTo pos (starEach es X.env)).any (·.1)=false:=by rfl):DF X (.Call (.Name x p) (e::es) [] pos) (eQ g fs) :=
 aG (lb hc B.gl B.mg B.bt ha hn hdb he hpl) (Ji hs)
def lH(hc:cK X (.type T) r)(hs:Cn X.K r g)(B:my X x (.type T))(ha:DA X (e::es) fs)(hn:x≠"__name__":=by decide)(hdb:(x == ("__debug__":Str))=false:=by decide)
  (he:starEach (e::es) X.env=(false,eval e X.env)::starEach es X.env:=by rfl) (hpl:(backTo pos (starEach es X.env)).any (·.1)=false:=by rfl):DE X (.Call (.Name x p) (e::es) [] pos) (aU g fs) :=
 aG (lV hc B.gl B.mg B.bt ha hn hdb he hpl) (MF hs)
def Bp(hc:cK X (.type T) r)(hs:zq X.K r g)(B:my X x (.type T))(ha:DA X (e::es) fs)(hn:x≠"__name__":=by decide)(hdb:(x == ("__debug__":Str))=false:=by decide)
  (he:starEach (e::es) X.env=(false,eval e X.env)::starEach es X.env:=by rfl) (hpl:(backTo pos (starEach es X.env)).any (·.1)=false:=by rfl):DF X (.Call (.Name x p) (e::es) [] pos) (eQ g fs) :=
 aG (lV hc B.gl B.mg B.bt ha hn hdb he hpl) (Ji hs)
def gk:D->Option (List D)|.tuple ds=>some ds|.list ds=>some ds|_=>none
def oneOf:List D->Option D|[d]=>some d|_=>none
def e8(h:oneOf ds=some d):ds=[d]:=by
 cases ds with
 | nil=>cases h
 | cons x r=>cases r with
  | nil=>cases h;rfl
  | cons _ _=>cases h
def jm(h:gk d=some ds):d=.tuple ds\/d=.list ds:=by
 cases d<;>cases h
 ·exact .inr rfl
 ·exact .inl rfl
def br:List D->Option (List D):=λds=>(oneOf ds).bind gk
def fM{ds es:List D}(h:br ds=some es):ds=[.tuple es]\/ds=[.list es]:=by
 let⟨d,h1,h2⟩:=bs h;rw[e8 h1];rcases jm h2 with rfl|rfl
 ·exact .inl rfl
 ·exact .inr rfl
def bE:List D->Option D:=λds=>(br ds).map λes=>.int es.length
def ag{α β:Type}{x:Option α}{f:α->β}{b:β}(h:x.map f=some b):∃a,x=some a/\f a=b:=by
 cases x with
 | none=>cases h
 | some a=>exact⟨a,rfl,xA h⟩
def Im{K:W.Frag}:Cn K (λxs H Q=>∃p ys,xs=[.ref p]/\(fD K H p ys\/eZ K H p ys)/\Q (.int ys.length) H) bE:=by
 intro HF H ds vs d Q sm r hg q;let⟨es,h1,rfl⟩:=ag hg;rcases fM h1 with rfl|rfl
 all_goals
  let⟨v,r',rfl,a,b⟩:=r.cons_inv;rw[b.nil_inv];simp?[Rep] at a;let⟨p,us,rfl,h,rr⟩:=a
 ·exact⟨p,us,rfl,.inr (ay sm h),q _ H HF (.refl sm) (by simp[Rep,rr.length])⟩
 ·exact⟨p,us,rfl,.inl (sm.seq h),q _ H HF (.refl sm) (by simp[Rep,rr.length])⟩
def K3(B:my X "len" (.builtin "len"))(ha:DA X [e] fs)(he:starEach [e] X.env=(false,eval e X.env)::starEach [] X.env:=by rfl):DE X (.Call (.Name "len" p) [e] [] pos) (aU bE fs) :=
 gy rG Im B ha (by decide) (by decide) he rfl
def BS{K:W.Frag}:zq K (λxs H Q=>∃p ys,xs=[.ref p]/\(fD K H p ys\/eZ K H p ys)/\∀l,H l=none->Q (.ref l) (upd H l (.lst ys))) br:=by
 intro HF H ds vs d Q sm r hg q;rcases fM hg with rfl|rfl
 all_goals
  let⟨v,r',rfl,a,b⟩:=r.cons_inv;rw[b.nil_inv];simp?[Rep] at a;let⟨p,us,rfl,h,rr⟩:=a
 ·exact⟨p,us,rfl,.inr (ay sm h),λl hl=>q l us _ HF (.own sm hl) hl (sm.free hl) aD rr⟩
 ·exact⟨p,us,rfl,.inl (sm.seq h),λl hl=>q l us _ HF (.own sm hl) hl (sm.free hl) aD rr⟩
def HA(B:my X "list" (.type "list"))(ha:DA X [e] fs)(he:starEach [e] X.env=(false,eval e X.env)::starEach [] X.env:=by rfl):DF X (.Call (.Name "list" p) [e] [] pos) (eQ br fs) :=
 Bp sJ BS B ha (by decide) (by decide) he rfl
def cJ{K:W.Frag}(h:HF l=none)(r:au K HF ds vs):Rep K (upd HF l (.tup vs)) (.tuple ds) (.ref l):=by
 simp?[Rep];exact⟨l,vs,rfl,.inl (.inl aD),r.mono (cD h)⟩
def AJ{K:W.Frag}:Cn K (λxs H Q=>∃p ys,xs=[.ref p]/\((fD K H p ys/\∀l,H l=none->Q (.ref l) (upd H l (.tup ys)))\/(eZ K H p ys/\Q (.ref p) H))) (λds=>(br ds).map PyData.tuple):=by
 intro HF H ds vs d Q sm r hg q;let⟨es,h1,rfl⟩:=ag hg;rcases fM h1 with rfl|rfl
 all_goals
  let⟨v,r',rfl,a,b⟩:=r.cons_inv;rw[b.nil_inv];have a':=a;simp?[Rep] at a;let⟨p,us,rfl,h,rr⟩:=a
 ·exact⟨p,us,rfl,.inr ⟨ay sm h,q _ H HF (.refl sm) a'⟩⟩
 ·exact⟨p,us,rfl,.inl ⟨sm.seq h,λl hl=>q _ _ _ (.new sm hl) (cJ (sm.free hl) rr)⟩⟩
def CV(B:my X "tuple" (.type "tuple"))(ha:DA X [e] fs)(he:starEach [e] X.env=(false,eval e X.env)::starEach [] X.env:=by rfl):DE X (.Call (.Name "tuple" p) [e] [] pos) (aU (λds=>(br ds).map PyData.tuple) fs) :=
 lH oY AJ B ha (by decide) (by decide) he rfl
def fS:D->String|.none=>"NoneType" | .bool _=>"bool" | .int _=>"int" | .str _=>"str" | .tuple _=>"tuple" | .list _=>"list" | .dict _=>"dict"
def rz(a b:String):Option Bool:=if ((Value.type a) == (Value.type b))=true then some true else if W.kitMeta b=true then (fastBuiltinMro a).map (·.contains (Value.type b)) else none
def Ik:∀a∈["NoneType","bool","int","str","tuple","list"],rz a "int"=some (a == "int"||a == "bool"):=by decide +kernel
def Fp:∀a∈["NoneType","bool","int","str","tuple","list"],rz a "bool"=some (a == "bool"):=by decide +kernel
def kit_tuple:∀a∈["NoneType","bool","int","str","tuple","list"],rz a "tuple"=some (a == "tuple"):=by decide +kernel
def C5{A:Around}{E:Value->Shared->Prop}(I:Inv X pins σ H s)(sm:aH HF H)(r:Rep X.K HF d v)(rv:RelV v u)
  (e:rz (fS d) T=some k) (h:∀tk,Q (.bool k) { s with toks:=tk }):wpAny (model X.prog X.w) A (call (.builtin "isinstance") [u,.type T]) Q E s:=by
 have e':W.kitOne X.K (.type (fS d)) (.type T)=some k:=e;cases d<;>simp?[Rep] at r
 ·subst r;cases rv;exact W.kia_one W.kitx_none I.kIn True.intro e' (λz=>nomatch z) h
 ·subst r;cases rv;exact W.kia_one W.kitx_bool I.kIn True.intro e' (λz=>nomatch z) h
 ·subst r;let⟨t,rfl⟩:=rv;exact W.kia_one W.kitx_int I.kIn True.intro e' (λz=>nomatch z) h
 ·subst r;let⟨t,rfl⟩:=rv;exact W.kia_one W.kitx_str I.kIn True.intro e' (λz=>nomatch z) h
 ·let⟨a,vs,rfl,hs,rr⟩:=r;cases rv;let⟨its,rv,pl,_⟩:=I.list (sm.seq hs);let⟨o,ho,hc,n,hd⟩:=pl.isList;exact W.kia_one W.kitx_list I.kIn ⟨o,ho,hc⟩ e' (λz=>nomatch z) h
 ·let⟨a,vs,rfl,hs,rr⟩:=r;cases rv;let⟨its,rv,⟨o,ho,hc,n,hd⟩,_⟩:=I.tuple (ay sm hs);exact W.kia_one W.kitx_tuple I.kIn ⟨o,ho,hc⟩ e' (λz=>nomatch z) h
 ·let⟨a,ks,us,rfl,rfl,e0,_⟩:=r;cases rv;let⟨_,_,vs,kv,o,es,ep,ho,hx,hd,_⟩:=(show cL X.prog X.w H s.heap a (.dK us) from I.hok a _ (sm _ _ e0))
  exact W.kia_one W.kitx_dict I.kIn ⟨o,ho,hx.1⟩ e' (λz=>nomatch z) h
def Jc(T:String)(f:Env->Option D):Env->Option D:=λρ=>(f ρ).bind λd=>(rz (fS d) T).map PyData.bool
def Mi(B:my X "isinstance" (.builtin "isinstance"))(C:my X xT (.type T))(h:DE X e f)(hn:xT≠"__name__":=by decide)(hd:(xT == ("__debug__":Str))=false:=by decide)
  (he:starEach [e,.Name xT pT] X.env=(false,eval e X.env)::starEach [.Name xT pT] X.env:=by rfl):DE X (.Call (.Name "isinstance" p) [e,.Name xT pT] [] pos) (Jc T f):=by
 have hc:cK X (.builtin "isinstance") (λxs H Q=>∃HF d v k,xs=[v,.ty T]/\aH HF H/\Rep X.K HF d v/\rz (fS d) T=some k/\Q (.bl k) H):=by
  intro pins s σ H xs us Q I r h;let⟨HF,d,v,k,rfl,sm,rp,hk,q⟩:=h;cases r with
  | cons ra rr =>
   cases rr with
   | cons rb rn =>
    cases rn;cases rb;exact C5 I sm rp ra hk λtk=>⟨.bl k,H,I.tok _,rfl,q⟩
 refine aG (lb hc B.gl B.mg B.bt (bh h (bh (GZ (v:=.ty T) C.gl C.mg C.bt rfl hn hd) cA) he) (by decide) (by decide) he rfl) λσ H Q ⟨HF,ρ,d,sm,eo,hf,q⟩=>?_;let⟨x,hx,hf⟩:=bs hf;let⟨k,hk,rfl⟩:=ag hf;exact⟨HF,ρ,x,sm,eo,hx,λv1 H1 HF1 g1 r1=>⟨HF1,x,v1,k,rfl,g1.fh,r1,hk,q _ H1 HF1 g1 (by simp[Rep])⟩⟩
def Ie:D->D->Option D
 | .tuple xs,.tuple ys=>(small (xs++ys)).map PyData.tuple
 | _,_=>none
def yg(K:W.Frag):R2:=λx y H Q=>∃a b xs ys,x=.ref a/\y=.ref b/\eZ K H a xs/\eZ K H b ys/\xs.length+ys.length<=sizeLine /\
 (xs=[]->Q (.ref b) H)/\(ys=[]->Q (.ref a) H)/\(∀p,H p=none->Q (.ref p) (upd H p (.tup (xs++ys))))
def AY:eC X (binaryOp .Add) (yg X.K):=by
 intro pins s σ H x y v u Q I rx ry h;let⟨a,b,xs,ys,rfl,rfl,ha,hb,hz,q0,q1,q2⟩:=h;by_cases hx:xs=[]
 ·cases rx;cases ry;let⟨its,r1,p1,_⟩:=I.tuple ha;let⟨its2,r2,p2,_⟩:=I.tuple hb;let⟨⟨cls,dd,data,sl⟩,ho,hc,n,hd⟩:=id p1;let⟨⟨cls2,dd2,data2,sl2⟩,ho2,hc2,n2,hd2⟩:=id p2;simp only at hc hd hc2 hd2;subst hc hd hc2 hd2;have e:its=[]:=(L2.aE.nil_iff r1).mpr hx;exact vW ⟨_,ho,rfl⟩ ⟨_,ho2,rfl⟩ noFill_tuple_add seq_tuple_add kZ kU (kR _ _)
   (tuple_addW0 a b its.toArray its2.toArray n n2 dd dd2 sl sl2 (by simp[e])) ⟨ho,ho2,⟨.ref b,H,I,rfl,q0 hx⟩⟩
 ·exact GL pins s σ H _ _ v u Q I rx ry ⟨a,b,xs,ys,rfl,rfl,ha,hb,hx,hz,q1,λ_ p hp=>q2 p hp⟩
def HZ{K:W.Frag}:da K (yg K) Ie:=by
 intro HF H x y v1 v2 d Q sm r1 r2 hg q;cases x<;>cases y<;>simp?[Ie] at hg<;>try cases hg
 rename_i xs ys;let⟨es,h1,rfl⟩:=ag hg;let⟨rfl,hz⟩:=dz h1;have r1':=r1;have r2':=r2;simp?[Rep] at r1 r2;let⟨a,vs,rfl,ha,ra⟩:=r1;let⟨b,us,rfl,hb,rb⟩:=r2;refine⟨a,b,vs,us,rfl,rfl,ay sm ha,ay sm hb,by rw[ra.length,rb.length,<- zN];exact hz,λe=>?_,λe=>?_,λp hp=>q _ _ _ (.new sm hp) (cJ (sm.free hp) (ra.append rb))⟩
 ·have:xs=[]:=by have:=ra.length;rw[e] at this;exact List.length_eq_zero_iff.mp this.symm
  subst this;exact q _ H HF (.refl sm) r2'
 ·have:ys=[]:=by have:=rb.length;rw[e] at this;exact List.length_eq_zero_iff.mp this.symm
  subst this;rw[qC] at q;exact q _ H HF (.refl sm) r1'
structure pd(K:W.Frag)(J:It)(HF:Hp)(ds:List D):Prop where
 go:∀i d H₁ HF₁,ds[i]?=some d->aH HF HF₁->aH HF₁ H₁->J.go i H₁/\∀x H₂,J.yld i H₁ x H₂->∃HF₂,bw HF₁ H₁ HF₂ H₂/\Rep K HF₂ d x
 stop:∀H₁ HF₁,aH HF HF₁->aH HF₁ H₁->J.stop ds.length H₁
def PB(K:W.Frag)(f:Env->Option (List D)):TI:=λσ H R=>∃HF ρ ds,aH HF H/\cx K HF ρ σ/\f ρ=some ds/\∀J H' HF',bw HF H HF' H'->pd K J HF' ds->R J H'
def DI(X:Cx)(tg iter:Expr)(f:Env->Option (List D)):Prop:=PI X tg iter (PB X.K f)
def Ao{K:W.Frag}(h:fD K HF a vs)(r:au K HF ds vs):pd K (N8 K a) HF ds where
 go:=λi d H₁ HF₁ e s1 s2=>by
  let⟨v,hv,rv⟩:=r.getD e;have q:=s2.seq (s1.seq h);refine⟨⟨vs,v,q,hv⟩,λx H₂ ⟨e2,hy⟩=>⟨HF₁,by rw[e2];exact .refl s2,?_⟩⟩;have:=hy vs q;rw[hv] at this;cases this;exact rv.mono s1
 stop:=λH₁ HF₁ s1 s2=>⟨vs,s2.seq (s1.seq h),by rw[r.length];exact yJ _⟩
def DD{K:W.Frag}(h:eZ K HF a vs)(r:au K HF ds vs):pd K (OK K a) HF ds where
 go:=λi d H₁ HF₁ e s1 s2=>by
  let⟨v,hv,rv⟩:=r.getD e;have q:=ay s2 (ay s1 h);refine⟨⟨vs,v,q,hv⟩,λx H₂ ⟨e2,hy⟩=>⟨HF₁,by rw[e2];exact .refl s2,?_⟩⟩;have:=hy vs q;rw[hv] at this;cases this;exact rv.mono s1
 stop:=λH₁ HF₁ s1 s2=>⟨vs,ay s2 (ay s1 h),by rw[r.length];exact yJ _⟩
def nV{K:W.Frag}{lo:Int}:pd K (M1 lo n) HF ((List.range n).map λi=>PyData.int (lo+(i:Nat))) where
 go:=λi d H₁ HF₁ e s1 s2=>by
  rw[zO] at e;let⟨j,hj,rfl⟩:=ag e;let⟨hi,hj'⟩:=List.getElem?_eq_some_iff.mp hj;have hi':i < n:=by simpa using hi
  have:j=i:=by rw[<- hj'];simp
  subst this;exact⟨hi',λx H₂ ⟨e2,hx⟩=>⟨HF₁,by rw[e2];exact .refl s2,by simp[Rep,hx]⟩⟩
 stop:=λH₁ HF₁ s1 s2=>by
  show n<=_;simp
section
variable {X:Cx}{tg l e:Expr}{f:Env->Option D}{fs:Env->Option (List D)}{pos p:Pos}
def nM(h:PI X tg l t)(i:∀σ H R,t' σ H R->t σ H R):PI X tg l t':=λpins s σ H R I q=>h pins s σ H R I (i σ H R q)
def Lm(hl:PE X l tl):PI X tg l (λσ H R=>tl σ H λx H1=>∃a,x=.ref a/\((∃xs,fD X.K H1 a xs/\R (N8 X.K a) H1)\/∃xs,eZ X.K H1 a xs/\R (OK X.K a) H1)):=by
 intro pins s σ H R I h;refine bK (hl pins s σ H _ I h) λv s1 ⟨x,H1,I1,r1,q1⟩=>?_;let⟨a,e,q⟩:=q1;subst e;cases r1;rcases q with ⟨xs,hq,q⟩|⟨xs,hq,q⟩
 ·let⟨its,rv,pl,hz⟩:=I1.list hq;refine qG pl.isList ⟨s1.heap.objs.size,[s1.heap.objs.size],_,_,H1,rfl,I1.kept (t':=s1.toks) λb o e=>zS _ e,A6 a _,⟨_,zV _ rfl,rfl,rfl⟩,λb hb=>?_,q⟩;cases List.mem_singleton.mp hb;exact I1.fpOk (yJ _) I1.fresh
 ·let⟨its,rv,pl,hz⟩:=I1.tuple hq;refine xO (show s1.heap.IsTuple a its.toArray from pl) ⟨s1.heap.objs.size,[s1.heap.objs.size],_,_,H1,rfl,I1.kept (t':=s1.toks) λb o e=>zS _ e,wF a _,⟨_,zV _ rfl,rfl,rfl⟩,λb hb=>?_,q⟩;cases List.mem_singleton.mp hb;exact I1.fpOk (yJ _) I1.fresh
def aM(f:Env->Option D):Env->Option (List D):=λρ=>(f ρ).bind gk
def Fo(h:DE X l f):DI X tg l (aM f):=nM (Lm h) λσ H R ⟨HF,ρ,ds,sm,eo,hf,q⟩=>by
 let⟨x,hx,hf⟩:=bs hf;refine⟨HF,ρ,x,sm,eo,hx,λv1 H1 HF1 g1 r1=>?_⟩;rcases jm hf with rfl|rfl
 ·simp?[Rep] at r1;let⟨a,vs,rfl,hs,rr⟩:=r1;exact⟨a,rfl,.inr ⟨vs,ay g1.fh hs,q _ H1 HF1 g1 (DD hs rr)⟩⟩
 ·simp?[Rep] at r1;let⟨a,vs,rfl,hs,rr⟩:=r1;exact⟨a,rfl,.inl ⟨vs,g1.fh.seq hs,q _ H1 HF1 g1 (Ao hs rr)⟩⟩
def oX(i:Int):Bool:=decide (-(2 ^ 62)<=i)&&decide (i < 2 ^ 62)
def lu:List D->Option (List D)
 | [.int j]=>if oX j then some ((List.range j.toNat).map λi=>PyData.int ((i:Nat):Int)) else none
 | _=>none
def tJ(h:lu ds=some es):∃j,ds=[.int j]/\oX j=true/\es=(List.range j.toNat).map λi=>PyData.int ((i:Nat):Int):=by
 unfold lu at h;split at h
 ·split at h
  ·cases h;exact⟨_,rfl,‹_›,rfl⟩
  ·cases h
 ·cases h
def dc(fs:Env->Option (List D)):Env->Option (List D):=λρ=>(fs ρ).bind lu
def Df(B:my X "range" (.type "range"))(h:DA X [e] fs)(hs:starEach [e] X.env=[(false,eval e X.env)]:=by rfl):DI X tg (.Call (.Name "range" p) [e] [] pos) (dc fs) :=
 nM (BJ B.gl B.mg h hs) λσ H R ⟨HF,ρ,ds,sm,eo,hf,q⟩=>by
  let⟨x,hx,hf⟩:=bs hf;let⟨j,rfl,hj,rfl⟩:=tJ hf;refine⟨HF,ρ,_,sm,eo,hx,λvs H1 HF1 g1 r1=>?_⟩;let⟨v,r,rfl,a,b⟩:=r1.cons_inv;rw[b.nil_inv];simp?[Rep] at a;subst a;unfold oX at hj;rw[zF] at hj;refine⟨j,rfl,yN hj.1,yN hj.2,q _ H1 HF1 g1 ?_⟩;have:=nV (K:=X.K) (HF:=HF1) (lo:=0) (n:=j.toNat);simpa using this
def NX(K:W.Frag)(f:Env->D->Option Env):TG:=λv σ H Q=>∃HF ρ d ρ',aH HF H/\cx K HF ρ σ/\Rep K HF d v/\f ρ d=some ρ'/\∀σ',cx K HF ρ' σ'->cx K HF ρ σ'->Q σ' H
def DG(X:Cx)(tg:Expr)(f:Env->D->Option Env):Prop:=PG X tg (NX X.K f)
def lE(h:PG X tg t)(i:∀v σ H Q,t' v σ H Q->t v σ H Q):PG X tg t':=λpins s σ H v u Q I r q=>h pins s σ H v u Q I r (i v σ H Q q)
def isFree(ρ:Env)(i:Nat):Bool:=((ρ[i]?).getD none).isNone
def iS{K:W.Frag}(eo:cx K HF ρ σ)(r:Rep K HF d v):cx K HF (ρ.set i (some d)) (σ.set i (some v)):=by
 refine⟨λj e h=>?_,by rw[yA,yA];exact eo.len,eo.tb⟩;rw[xF] at h ⊢;by_cases hij:i=j
 ·rw[yI hij] at h ⊢;by_cases hl:i < ρ.length
  ·rw[yI hl] at h;cases h;rw[yI (zP hl eo.len)];exact⟨v,rfl,r⟩
  ·rw[yK hl] at h;cases h
 ·rw[yK hij] at h ⊢;exact eo.get j e h
def i6{K:W.Frag}(eo:cx K HF ρ σ)(hf:isFree ρ i=true):cx K HF ρ (σ.set i (some v)):=by
 refine⟨λj e h=>?_,by rw[yA];exact eo.len,eo.tb⟩;have hij:i≠j:=by
  intro z;subst z;unfold isFree at hf;rw[h] at hf;cases hf
 rw[xF,yK hij];exact eo.get j e h
def fG(i:Nat):Env->D->Option Env:=λρ d=>if isFree ρ i=true then some (ρ.set i (some d)) else none
def Hx(i:Nat)(hN:X.N.Nodup)(hi:X.N[i]?=some x)(hx:Loc X.env.scope x)(hf:X.fn x=true\/X.env.scope.names.lookup x=some .local:=by first|exact .inl rfl|exact .inr rfl|assumption):DG X (.Name x pos) (fG i) :=
 lE (cI hN hi hx hf) λv σ H Q ⟨HF,ρ,d,ρ',sm,eo,r,hf,q⟩=>by
  unfold fG at hf;split at hf
  ·cases hf;exact q _ (iS eo r) (i6 eo ‹_›)
  ·cases hf
def mC(i j:Nat):Env->D->Option Env:=λρ d=>match d with
 | .tuple [x,y]=>if isFree ρ i=true/\isFree ρ j=true then some ((ρ.set i (some x)).set j (some y)) else none
 | _=>none
def Lq(i j:Nat){px py:Pos}{k:Nat}(hc:X.calm=true)(hN:X.N.Nodup)(hi:X.N[i]?=some x)(hx:Loc X.env.scope x)(hj:X.N[j]?=some y)(hy:Loc X.env.scope y)
  (hf:X.fn x=true\/X.env.scope.names.lookup x=some .local:=by first|exact .inl rfl|exact .inr rfl|assumption) (hf':X.fn y=true\/X.env.scope.names.lookup y=some .local:=by first|exact .inl rfl|exact .inr rfl|assumption) :
  DG X (.Tuple [.Name x px,.Name y py] k pos) (mC i j) :=
 lE (si hc (cE (cI hN hi hx hf) (cE (cI hN hj hy hf') mW))) λv σ H Q ⟨HF,ρ,d,ρ',sm,eo,r,hf,q⟩=>by
  unfold mC at hf;split at hf
  ·rename_i x' y';split at hf
   ·rename_i hh;cases hf;simp?[Rep] at r;let⟨a,vs,rfl,hs,rr⟩:=r;let⟨v1,r1,rfl,a1,b1⟩:=rr.cons_inv;let⟨v2,r2,rfl,a2,b2⟩:=b1.cons_inv;rw[b2.nil_inv] at hs;exact⟨a,_,rfl,ay sm hs,rfl,v1,_,rfl,v2,_,rfl,rfl,q _ (iS (iS eo a1) a2) (i6 (i6 eo hh.1) hh.2)⟩
   ·cases hf
  ·cases hf
def cY(tgt:Env->D->Option Env)(tt:Env->Option Bool)(te:Env->Option D)(ρ:Env):List D->Option (List D)
 | []=>some []
 | d::ds=>(tgt ρ d).bind λρ'=>(tt ρ').bind λb=>if b=true then (te ρ').bind λx=>(cY tgt tt te ρ ds).map (x::·) else cY tgt tt te ρ ds
def M0(X:Cx)(ifs:List Expr)(f:Env->Option Bool):Prop:=Mb X ifs (JZ X.K f)
def Hy:M0 X [] (λ_=>some true):=λpins s σ H Q I ⟨HF,ρ,b,sm,eo,hf,q⟩=>GT pins s σ H Q I (by cases hf;exact q H HF (.refl sm))
def HM(h:DT X c t):M0 X [c] t:=FV h
def jd(t:Nat)(cs:List Nat)(σ:L2.St):L2.St:=List.replicate t none++cs.map λj=>(σ[j]?).getD none
def iM(t:Nat)(cs:List Nat)(ρ:Env):Env:=List.replicate t none++cs.map λj=>(ρ[j]?).getD none
def Hg{K:W.Frag}{cs:List Nat}(eo:cx K HF ρ σ):cx K HF (iM t cs ρ) (jd t cs σ):=by
 refine⟨λi d h=>?_,by simp[iM,jd],eo.tb⟩;unfold iM at h;unfold jd;by_cases hi:i < t
 ·rw[yP (by simpa using hi),yU,yI hi] at h;cases h
 ·rw[yQ (by simpa using hi),zO,xI] at h;rw[yQ (by simpa using hi),zO,xI];let⟨j,hj,h⟩:=ag h;rw[hj];cases e:ρ[j]? with
  | none=>rw[e] at h;cases h
  | some o =>
   rw[e] at h;have h:o=some d:=h;subst h;let⟨v,a,b⟩:=eo.get j d e;exact⟨v,by show some ((σ[j]?).getD none)=_;rw[a];rfl,b⟩
def aw(t:Nat)(cs:List Nat)(fi:Env->Option (List D))(tgt:Env->D->Option Env)(tt:Env->Option Bool)(te:Env->Option D):Env->Option (List D):=λρ=>(fi ρ).bind λds=>(cY tgt tt te (iM t cs ρ) ds).bind small
variable {elt iter:Expr}{ifs:List Expr}{scope:Scope}{N:List Str}{t:Nat}{cs:List Nat}{fi:Env->Option (List D)}{tgt:Env->D->Option Env}{tt:Env->Option Bool}{te:Env->Option D}
def EV:∀σ H Q,tF X.K (aw t cs fi tgt tt te) σ H Q->Fs (PB X.K fi) (NX X.K tgt) (JZ X.K tt) (tD X.K te) (jd t cs) σ H Q:=λσ H Q ⟨HF,ρ,out,sm,eo,hf,q⟩=>by
 let⟨ds,hx,hf⟩:=bs hf;let⟨out',ho,hf⟩:=bs hf;let⟨rfl,hz⟩:=dz hf;refine⟨HF,ρ,ds,sm,eo,hx,λJ H1 HF1 g1 it Dn hD=>?_⟩;have eo1:=Hg (t:=t) (cs:=cs) (eo.mono g1.ff);have hFD:HF1 Dn=none:=g1.fh.free hD;refine⟨λi m σ' H'=>m+i=ds.length/\∃HF' xs ys rest,bw HF1 H1 HF' H'/\HF' Dn=none/\H' Dn=some (.lst ys)/\au X.K HF' xs ys/\cx X.K HF' (iM t cs ρ) σ'/\cY tgt tt te (iM t cs ρ) (ds.drop i)=some rest/\xs++rest=out,
  ⟨ds.length,rfl,HF1,[],[],out,.own g1.fh hD,hFD,aD,au.nil,eo1,ho,rfl⟩,?_⟩
 rintro i m σ' H' ⟨hm,HF',xs,ys,rest,G,hFD',hHD,rr,eo',hc,hout⟩;by_cases hi:i < ds.length
 ·refine .inr ?_;have hd:ds.drop i=ds[i]::ds.drop (i+1):=kN hi;have he:ds[i]?=some ds[i]:=List.getElem?_eq_some_iff.mpr ⟨hi,rfl⟩;generalize ds[i]=d at hd he;rw[hd] at hc;unfold cY at hc;let⟨ρ',h1,hc⟩:=bs hc;let⟨b,h2,hc⟩:=bs hc;let⟨go,yld⟩:=it.go i d H' HF' he G.ff G.fh;refine⟨go,λx H2 y=>?_⟩;let⟨HF2,G2,rx⟩:=yld x H2 y;refine⟨HF2,_,d,ρ',G2.fh,eo'.mono G2.ff,rx,h1,λσ2 eo2 eo2'=>?_⟩;refine⟨HF2,ρ',b,G2.fh,eo2,h2,λH3 HF3 G3=>?_⟩;have nof:∀HF4 H4,bw HF' H' HF4 H4->HF4 Dn=none:=λHF4 H4 G4=>by
   cases e4:HF4 Dn with
   | none=>rfl
   | some o =>
    rcases G4.nw Dn o e4 with z|z
    ·rw[hFD'] at z;cases z
    ·rw[hHD] at z;cases z
  cases b with
  | false =>
   refine mG ⟨m - 1,by lia,by lia,HF3,xs,ys,rest,(G.trans G2).trans G3,nof _ _ (G2.trans G3),(G2.trans G3).hh _ _ hHD,rr.mono (G2.trans G3).ff,eo2'.mono G3.ff,by simpa using hc,hout⟩
  | true =>
   rw[yI rfl] at hc;let⟨z,h3,hc⟩:=bs hc;let⟨rest',h4,rfl⟩:=ag hc;refine oU ⟨HF3,ρ',z,G3.fh,eo2.mono G3.ff,h3,λv H4 HF4 G4 rv=>?_⟩;have GG:=(G2.trans G3).trans G4;have n4:=nof _ _ GG;have h4D:=GG.hh _ _ hHD;have hlen:ys.length < sizeLine:=by
    have e1:=rr.length;have e2:out.length=xs.length+(rest'.length+1):=by rw[<- hout];simp
    lia
   refine⟨ys,h4D,hlen,m - 1,by lia,by lia,HF4,xs++[z],ys++[v],rest',?_,n4,aD,(rr.mono GG.ff).append (au.cons rv au.nil),eo2'.mono (G3.ff.trans G4.ff),h4,by simp[<- hout]⟩;have G5:=G.trans GG;refine⟨λb o e=>?_,G5.ff,λb o e=>?_,G5.nw⟩
   ·rw[aC (aK e hD)];exact G5.hh b o e
   ·rw[aC (aK e n4)];exact G5.fh b o e
 ·have hi':i=ds.length:=by lia
  subst hi';rw[List.drop_length] at hc;cases hc;rw[qC] at hout;subst hout;exact .inl ⟨it.stop H' HF' G.ff G.fh,q Dn ys H' HF' (g1.trans G) (g1.hh.free hD) hFD' hHD rr⟩
def Ia(hc:X.calm=true)(S:lF X scope N (jd t cs))(hi:DI X tg iter fi)
  (hY:∀fp s H,DG (aR X scope N fp s H) tg tgt/\M0 (aR X scope N fp s H) ifs tt/\DE (aR X scope N fp s H) elt te)
  (hs:∀x,foldedSetIterable iter X.env x=pure x:=by intro _;rfl):DF X (.ListComp elt [⟨tg,iter,ifs,0⟩] scope pos) (aw t cs fi tgt tt te):=aG (G6 (g:=NX X.K tgt) (tt:=JZ X.K tt) (te:=tD X.K te) hc S hi hY hs) EV
end
inductive Slot where
 | non|val (d:D)|own (ds:List D)|dic (ks:List (Str×List Int))
abbrev ar:=List Slot
def Slot.all:Slot->Option D|.non=>none|.val d=>some d|.own ds=>some (.list ds)|.dic ks=>some (dD ks)
def Slot.frz:Slot->Option D|.val d=>some d|_=>none
def Slot.thaw:Slot->Slot|.own ds=>.val (.list ds)|.dic ks=>.val (dD ks)|s=>s
def aL(ρ:ar):Env:=ρ.map Slot.all
def bW(ρ:ar):Env:=ρ.map Slot.frz
def hand(fz:List Nat):Nat->ar->ar
 | _,[]=>[]
 | k,s::r=>(if fz.contains k=true then s.thaw else s)::hand fz (k+1) r
def iy(fz:List Nat):∀ (ρ:ar) (k i:Nat),(hand fz k ρ)[i]?=(ρ[i]?).map λs=>if fz.contains (k+i)=true then s.thaw else s
 | [],k,i=>by simp[hand]
 | s::r,k,0=>by simp[hand]
 | s::r,k,i+1=>by
  simp?[hand,yV];rw[iy fz r (k+1) i,Nat.add_assoc,Nat.add_comm 1 i]
def uA(fz:List Nat):∀ (ρ:ar) (k:Nat),(hand fz k ρ).length=ρ.length
 | [],k=>rfl
 | s::r,k=>by simp[hand,uA fz r (k+1)]
structure eh(K:W.Frag)(HF₀ H₀ HF H:Hp)(ρ:ar)(σ:L2.St):Prop where
 gr:bw HF₀ H₀ HF H
 val:∀ (i:Nat) (d:D),ρ[i]?=some (.val d)->∃v,σ[i]?=some (some v)/\Rep K HF d v
 own:∀ (i:Nat) (ds:List D),ρ[i]?=some (.own ds)->∃a vs,σ[i]?=some (some (.ref a))/\H a=some (.lst vs)/\HF a=none/\H₀ a=none/\au K HF ds vs
 inj:∀ (i j:Nat) (ds es:List D) (a:Addr),ρ[i]?=some (.own ds)->ρ[j]?=some (.own es)->σ[i]?=some (some (.ref a))->σ[j]?=some (some (.ref a))->i=j
 len:ρ.length<=σ.length
 tb:di K HF
 dic:∀ (i:Nat) (ks:List (Str×List Int)),ρ[i]?=some (.dic ks)->∃a kvs,σ[i]?=some (some (.ref a))/\H a=some (.dK kvs)/\HF a=none/\H₀ a=none/\eK K HF ks kvs
 one:∀ (i j:Nat) (ks ls:List (Str×List Int)),ρ[i]?=some (.dic ks)->ρ[j]?=some (.dic ls)->i=j
section
variable {K:W.Frag}
def eh.all(S:eh K HF₀ H₀ HF H ρ σ):cx K H (aL ρ) σ:=by
 refine⟨λi d h=>?_,by simpa [aL] using S.len,S.tb.mono S.gr.fh⟩;unfold aL at h;rw[zO] at h;let⟨s,hs,h⟩:=ag h;cases s with
 | non=>cases h
 | val e=>cases h;let⟨v,a,b⟩:=S.val i _ hs;exact⟨v,a,b.mono S.gr.fh⟩
 | own ds =>
  cases h;let⟨a,vs,e1,e2,e3,_,e4⟩:=S.own i ds hs;exact⟨.ref a,e1,by simp?[Rep];exact⟨a,vs,rfl,fD.of e2,e4.mono S.gr.fh⟩⟩
 | dic ks =>
  cases h;let⟨a,us,e1,e2,e3,_,e4⟩:=S.dic i ks hs;exact⟨.ref a,e1,by simp?[Rep];exact⟨a,ks,us,rfl,rfl,e2,e4.mono S.gr.fh⟩⟩
def eh.frz(S:eh K HF₀ H₀ HF H ρ σ):cx K HF (bW ρ) σ:=by
 refine⟨λi d h=>?_,by simpa [bW] using S.len,S.tb⟩;unfold bW at h;rw[zO] at h;let⟨s,hs,h⟩:=ag h;cases s with
 | non=>cases h
 | val e=>cases h;exact S.val i _ hs
 | own ds=>cases h
 | dic ks=>cases h
def bw.stay(g:bw HF H HF' H')(e3:HF a=none)(e2:H a=some u):HF' a=none:=by
 cases e:HF' a with
 | none=>rfl
 | some o =>
  rcases g.nw a o e with z|z
  ·rw[e3] at z;cases z
  ·rw[e2] at z;cases z
def eh.grow(S:eh K HF₀ H₀ HF H ρ σ)(g:bw HF H HF' H'):eh K HF₀ H₀ HF' H' ρ σ where
 gr:=S.gr.trans g
 val:=λi d h=>let ⟨v,a,b⟩:=S.val i d h;⟨v,a,b.mono g.ff⟩
 own:=λi ds h=>by
  let⟨a,vs,e1,e2,e3,e5,e4⟩:=S.own i ds h;exact⟨a,vs,e1,g.hh _ _ e2,g.stay e3 e2,e5,e4.mono g.ff⟩
 inj:=S.inj
 len:=S.len
 tb:=S.tb.mono g.ff
 dic:=λi ks h=>by
  let⟨a,kvs,e1,e2,e3,e5,e4⟩:=S.dic i ks h;exact⟨a,kvs,e1,g.hh _ _ e2,g.stay e3 e2,e5,e4.mono g.ff⟩
 one:=S.one
def eh.step(S:eh K HF₀ H₀ HF H ρ σ)(g:aH H H'):eh K HF₀ H₀ HF H' ρ σ:=S.grow ⟨g,.refl _,S.gr.fh.trans g,λ_ _ e=>.inl e⟩
def pk:Slot->Bool|.own _=>true|.dic _=>true|_=>false
def eh.free{i:Nat}{t:Slot}{a:Addr}(S:eh K HF₀ H₀ HF H ρ σ)(h:ρ[i]?=some t)(ho:pk t=true)(ha:σ[i]?=some (some (V.ref a))):HF a=none/\H₀ a=none:=by
 cases t with
 | own ds =>
  let⟨a',vs,e1,e2,e3,e5,_⟩:=S.own i ds h;rw[ha] at e1;cases e1;exact⟨e3,e5⟩
 | dic ks =>
  let⟨a',vs,e1,e2,e3,e5,_⟩:=S.dic i ks h;rw[ha] at e1;cases e1;exact⟨e3,e5⟩
 | _=>cases ho
def eh.apart{i j:Nat}{t t':Slot}{a:Addr}(S:eh K HF₀ H₀ HF H ρ σ)(h:ρ[i]?=some t)(ho:pk t=true)(h':ρ[j]?=some t')(ho':pk t'=true)(ha:σ[i]?=some (some (V.ref a)))(hb:σ[j]?=some (some (V.ref a))):i=j:=by
 cases t with
 | own ds =>
  cases t' with
  | own es=>exact S.inj i j ds es a h h' ha hb
  | dic ls =>
   let⟨_,_,e1,e2,_⟩:=S.own i ds h;let⟨_,_,f1,f2,_⟩:=S.dic j ls h';rw[ha] at e1;rw[hb] at f1;cases e1;cases f1;rw[e2] at f2;cases f2
  | _=>cases ho'
 | dic ks =>
  cases t' with
  | own es =>
   let⟨_,_,e1,e2,_⟩:=S.dic i ks h;let⟨_,_,f1,f2,_⟩:=S.own j es h';rw[ha] at e1;rw[hb] at f1;cases e1;cases f1;rw[e2] at f2;cases f2
  | dic ls=>exact S.one i j ks ls h h'
  | _=>cases ho'
 | _=>cases ho
def fX{ρ:ar}{fz:List Nat}{i:Nat}{t:Slot}(h:(Dl.hand fz 0 ρ)[i]?=some t)(ho:pk t=true):ρ[i]?=some t/\¬ fz.contains i=true:=by
 rw[iy] at h;let⟨s,hs,h⟩:=ag h;rw[qY] at h;split at h
 ·cases s<;>(rw[<- h] at ho;cases ho)
 ·rename_i hc;rw[<- h];exact⟨hs,hc⟩
def eh.hand(S:eh K HF₀ H₀ HF H ρ σ)(fz:List Nat):∃HF1,aH HF HF1/\eh K HF₀ H₀ HF1 H (hand fz 0 ρ) σ:=by
 let C:Nat->Prop:=λi=>fz.contains i=true;let P:Addr->Prop:=λa=>∃i t,C i/\ρ[i]?=some t/\pk t=true/\σ[i]?=some (some (.ref a));have cl:=Classical.propDecidable;let HF1:Hp:=λa=>if P a then H a else HF a
 have hP:∀a,P a->HF a=none/\H₀ a=none:=λa ⟨i,t,_,h1,h2,h3⟩=>S.free h1 h2 h3;have s1:aH HF HF1:=λb o e=>by
  show (if P b then H b else HF b)=some o;by_cases h:P b
  ·rw[(hP b h).1] at e;cases e
  ·rw[yK h];exact e
 have s2:aH HF1 H:=λb o e=>by
  have e:(if P b then H b else HF b)=some o:=e;by_cases h:P b
  ·rw[yI h] at e;exact e
  ·rw[yK h] at e;exact S.gr.fh b o e
 have kept:∀ {i:Nat}{t:Slot}{a:Addr},ρ[i]?=some t->pk t=true->¬ C i->σ[i]?=some (some (.ref a))->HF1 a=none:=λ{i t a} h1 h2 hc h3=>by
  show (if P a then H a else HF a)=none;rw[yK ?_]
  ·exact (S.free h1 h2 h3).1
  ·rintro⟨j,t',hj,g1,g2,g3⟩;have:=S.apart h1 h2 g1 g2 h3 g3;subst this;exact hc hj
 refine⟨HF1,s1,⟨S.gr.hh,S.gr.ff.trans s1,s2,λb o e=>?_⟩,λi d h=>?_,λi ds h=>?_,λi j ds es a h1 h2=>S.inj i j ds es a (fX h1 rfl).1 (fX h2 rfl).1,by rw[uA];exact S.len,S.tb.mono s1,λi ks h=>?_,λi j ks ls h1 h2=>S.one i j ks ls (fX h1 rfl).1 (fX h2 rfl).1⟩
 ·have e:(if P b then H b else HF b)=some o:=e;by_cases h:P b
  ·exact .inr (hP b h).2
  ·rw[yK h] at e;exact S.gr.nw b o e
 ·rw[iy] at h;let⟨s,hs,h⟩:=ag h;rw[qY] at h;cases s with
  | non=>split at h<;>cases h
  | val e =>
   have:Slot.val e=Slot.val d:=by split at h<;>exact h
   cases this;let⟨v,a,b⟩:=S.val i _ hs;exact⟨v,a,b.mono s1⟩
  | own ds =>
   split at h
   ·rename_i hc;cases h;let⟨a,vs,e1,e2,e3,e5,e4⟩:=S.own i ds hs;refine⟨.ref a,e1,?_⟩;simp?[Rep];refine⟨a,vs,rfl,.inl (.inl ?_),e4.mono s1⟩;show (if P a then H a else HF a)=_;rw[yI ⟨i,_,hc,hs,rfl,e1⟩];exact e2
   ·cases h
  | dic ks =>
   split at h
   ·rename_i hc;cases h;let⟨a,us,e1,e2,e3,e5,e4⟩:=S.dic i ks hs;refine⟨.ref a,e1,?_⟩;simp?[Rep];refine⟨a,ks,us,rfl,rfl,?_,e4.mono s1⟩;show (if P a then H a else HF a)=_;rw[yI ⟨i,_,hc,hs,rfl,e1⟩];exact e2
   ·cases h
 ·let⟨hs,hc⟩:=fX h rfl;let⟨a,vs,e1,e2,e3,e5,e4⟩:=S.own i ds hs;exact⟨a,vs,e1,e2,kept hs rfl hc e1,e5,e4.mono s1⟩
 ·let⟨hs,hc⟩:=fX h rfl;let⟨a,vs,e1,e2,e3,e5,e4⟩:=S.dic i ks hs;exact⟨a,vs,e1,e2,kept hs rfl hc e1,e5,e4.mono s1⟩
def eh.setV(S:eh K HF₀ H₀ HF H ρ σ)(r:Rep K HF d v):eh K HF₀ H₀ HF H (ρ.set i (.val d)) (σ.set i (some v)):=by
 have ne:∀ {j:Nat}{s:Slot},(ρ.set i (.val d))[j]?=some s->(∀e,s≠.val e)->i≠j/\ρ[j]?=some s:=λ{j s} h hn=>by
  rw[xF] at h;by_cases hij:i=j
  ·rw[yI hij] at h;split at h
   ·cases h;exact absurd rfl (hn _)
   ·cases h
  ·rw[yK hij] at h;exact⟨hij,h⟩
 refine⟨S.gr,λj e h=>?_,λj ds h=>?_,λj k ds es a h1 h2 h3 h4=>?_,by rw[yA,yA];exact S.len,S.tb,λj ks h=>?_,λj k ks ls h1 h2=>S.one j k ks ls (ne h1 λe z=>by cases z).2 (ne h2 λe z=>by cases z).2⟩
 ·rw[xF] at h ⊢;by_cases hij:i=j
  ·rw[yI hij] at h ⊢;split at h
   ·rename_i hl;cases h;rw[yI (zP hl S.len)];exact⟨v,rfl,r⟩
   ·cases h
  ·rw[yK hij] at h ⊢;exact S.val j e h
 ·let⟨hij,h⟩:=ne h λe z=>by cases z
  rw[xF,yK hij];exact S.own j ds h
 ·let⟨n1,h1⟩:=ne h1 λe z=>by cases z
  let⟨n2,h2⟩:=ne h2 λe z=>by cases z
  rw[xF,yK n1] at h3;rw[xF,yK n2] at h4;exact S.inj j k ds es a h1 h2 h3 h4
 ·let⟨hij,h⟩:=ne h λe z=>by cases z
  rw[xF,yK hij];exact S.dic j ks h
def eh.setO(S:eh K HF₀ H₀ HF H ρ σ)(hs:aH H H')(h1:H' a=some (.lst vs))(h2:HF a=none)(h3:H₀ a=none)(r:au K HF ds vs)
  (fr:∀j es,i≠j->ρ[j]?=some (.own es)->σ[j]?≠some (some (.ref a))):eh K HF₀ H₀ HF H' (ρ.set i (.own ds)) (σ.set i (some (.ref a))):=by
 have S:=S.step hs;have nt:∀ {j:Nat}{ks:List (Str×List Int)},(ρ.set i (.own ds))[j]?=some (.dic ks)->i≠j/\ρ[j]?=some (.dic ks):=λ{j ks} h=>by
  rw[xF] at h;by_cases hij:i=j
  ·rw[yI hij] at h;split at h<;>cases h
  ·rw[yK hij] at h;exact⟨hij,h⟩
 refine⟨S.gr,λj e h=>?_,λj es h=>?_,λj k xs ys b e1 e2 e3 e4=>?_,by rw[yA,yA];exact S.len,S.tb,λj ks h=>by rw[xF,yK (nt h).1];exact S.dic j ks (nt h).2,λj k ks ls h1 h2=>S.one j k ks ls (nt h1).2 (nt h2).2⟩
 ·rw[xF] at h ⊢;by_cases hij:i=j
  ·rw[yI hij] at h;split at h<;>cases h
  ·rw[yK hij] at h ⊢;exact S.val j e h
 ·rw[xF] at h ⊢;by_cases hij:i=j
  ·rw[yI hij] at h ⊢;split at h
   ·rename_i hl;cases h;rw[yI (zP hl S.len)];exact⟨a,vs,rfl,h1,h2,h3,r⟩
   ·cases h
  ·rw[yK hij] at h ⊢;exact S.own j es h
 ·rw[xF] at e1 e2 e3 e4;by_cases hij:i=j
  ·by_cases hik:i=k
   ·exact hij.symm.trans hik
   ·rw[yI hij] at e1 e3;rw[yK hik] at e2 e4;split at e3
    ·cases e3;exact absurd e4 (fr k ys hik e2)
    ·cases e3
  ·by_cases hik:i=k
   ·rw[yK hij] at e1 e3;rw[yI hik] at e2 e4;split at e4
    ·cases e4;exact absurd e3 (fr j xs hij e1)
    ·cases e4
   ·rw[yK hij] at e1 e3;rw[yK hik] at e2 e4;exact S.inj j k xs ys b e1 e2 e3 e4
end
inductive Out where
 | nx (ρ:ar)|rt (d:D)
def z9(K:W.Frag)(HF₀ H₀ HF:Hp)(E:Ends):Out->Prop
 | .nx ρ'=>∀σ' H' HF',eh K HF₀ H₀ HF' H' ρ' σ'->aH HF HF'->E.nx σ' H'
 | .rt d=>∀v H' HF',bw HF₀ H₀ HF' H'->Rep K HF' d v->E.rt v H'
def tS(K:W.Frag)(HF₀ H₀:Hp)(g:ar->Option Out):TS:=λE σ H=>∃HF ρ o,eh K HF₀ H₀ HF H ρ σ/\g ρ=some o/\z9 K HF₀ H₀ HF E o
def DS(X:Cx)(HF₀ H₀:Hp)(st:Stmt)(g:ar->Option Out):Prop:=PS X st (tS X.K HF₀ H₀ g)
def xk(X:Cx)(HF₀ H₀:Hp)(st:List Stmt)(g:ar->Option Out):Prop:=so X st (tS X.K HF₀ H₀ g)
section
variable {X:Cx}{HF₀ H₀:Hp}{st:Stmt}{rest:List Stmt}{g g1 g2:ar->Option Out}{e:Expr}{pos:Pos}
def bO(h:PS X st t)(i:∀E σ H,t' E σ H->t E σ H):PS X st t':=λpins s σ H E I q=>h pins s σ H E I (i E σ H q)
def mY(h:so X rest t)(i:∀E σ H,t' E σ H->t E σ H):so X rest t':=λpins s σ H E I q=>h pins s σ H E I (i E σ H q)
def fH:ar->Option Out:=λρ=>some (.nx ρ)
def ax(g1 g2:ar->Option Out):ar->Option Out:=λρ=>(g1 ρ).bind fun|.nx ρ'=>g2 ρ'|.rt d=>some (.rt d)
def z9.mono{K:W.Frag}(s:aH HF HF')(h:z9 K HF₀ H₀ HF E o):z9 K HF₀ H₀ HF' E o:=by
 cases o with
 | nx ρ'=>exactλσ' H' HF2 S s2=>h σ' H' HF2 S (s.trans s2)
 | rt d=>exact h
def Gv:xk X HF₀ H₀ [] fH:=mY qy λE σ H ⟨HF,ρ,o,S,hg,q⟩=>by cases hg;exact q σ H HF S (.refl _)
def EU(h1:DS X HF₀ H₀ st g1)(h2:xk X HF₀ H₀ rest g2):xk X HF₀ H₀ (st::rest) (ax g1 g2):=mY (fY h1 h2) λE σ H ⟨HF,ρ,o,S,hg,q⟩=>by
 let⟨o1,h,hg⟩:=bs hg;refine⟨HF,ρ,o1,S,h,?_⟩;cases o1 with
 | nx ρ'=>exactλσ' H' HF' S' s=>⟨HF',ρ',o,S',hg,q.mono s⟩
 | rt d=>cases hg;exact q
def yw(h1:DS X HF₀ H₀ st g1):xk X HF₀ H₀ [st] g1:=Gf h1
def GE:DS X HF₀ H₀ (.Pass pos) fH:=bO Gm λE σ H ⟨HF,ρ,o,S,hg,q⟩=>by cases hg;exact q σ H HF S (.refl _)
def JQ{x j pos pos'}:DS X HF₀ H₀ (.Expr (.Constant (.str x) j pos) pos') fH:=bO LA λE σ H ⟨HF,ρ,o,S,hg,q⟩=>by cases hg;exact q σ H HF S (.refl _)
def gx(t:Env->Option Bool)(g1 g2:ar->Option Out):ar->Option Out:=λρ=>(t (aL ρ)).bind λb=>if b=true then g1 ρ else g2 ρ
def M6(hc:DT X c t)(ha:xk X HF₀ H₀ a g1)(hb:xk X HF₀ H₀ b g2):DS X HF₀ H₀ (.If c a b pos) (gx t g1 g2):=bO (Fc hc ha hb) λE σ H ⟨HF,ρ,o,S,hg,q⟩=>by
 let⟨b,h,hg⟩:=bs hg;refine⟨H,aL ρ,b,.refl _,S.all,h,λH' HF' G=>?_⟩;cases b with
 | true=>exact oU ⟨HF,ρ,o,S.step G.hh,hg,q⟩
 | false=>exact mG ⟨HF,ρ,o,S.step G.hh,hg,q⟩
def tQ:∀ (ρ:ar) (k n:Nat),k+ρ.length<=n->bW (hand (List.range n) k ρ)=aL ρ
 | [],k,n,h=>rfl
 | s::r,k,n,h=>by
  have hk:(List.range n).contains k=true:=by simp at h ⊢;lia
  have ih:=tQ r (k+1) n (by simp at h;lia);unfold bW aL at ih ⊢;rw[hand,yI hk,zI,zI,ih];cases s<;>rfl
def aO(f:Env->Option D):ar->Option Out:=λρ=>(f (aL ρ)).map Out.rt
def Lp(h:DE X e f):DS X HF₀ H₀ (.Return (some e) pos) (aO f):=bO (u5 h) λE σ H ⟨HF,ρ,o,S,hg,q⟩=>by
 let⟨d,h,rfl⟩:=ag hg;let⟨HF1,s1,S1⟩:=S.hand (List.range ρ.length);refine⟨HF1,aL ρ,d,S1.gr.fh,?_,h,λv H' HF' G r=>q v H' HF' (S1.gr.trans G) r⟩;have:=S1.frz;rw[tQ ρ 0 ρ.length (by lia)] at this;exact this
def kz:D->Bool|.none=>true|.bool _=>true|.int _=>true|.str _=>true|_=>false
def tv{K:W.Frag}(h:kz d=true)(r:Rep K HF d v):Rep K HF' d v:=by
 cases d<;>cases h<;>(simp?[Rep] at r ⊢;exact r)
mutual
def f7:D->Bool
 | .tuple ds=>jl ds
 | .list _=>false
 | .dict _=>false
 | _=>true
def jl:List D->Bool
 | []=>true
 | d::ds=>f7 d&&jl ds
end
mutual
theorem sV{K:W.Frag}{H1 H2:Hp}(ht:∀a xs,eZ K H1 a xs->eZ K H2 a xs):∀ {d:D}{v:V},f7 d=true->Rep K H1 d v->Rep K H2 d v
 | .none,_,_,r=>by simp?[Rep] at r ⊢;exact r
 | .bool _,_,_,r=>by simp?[Rep] at r ⊢;exact r
 | .int _,_,_,r=>by simp?[Rep] at r ⊢;exact r
 | .str _,_,_,r=>by simp?[Rep] at r ⊢;exact r
 | .tuple ds,v,h,r=>by
  simp?[f7] at h;simp?[Rep] at r ⊢;let⟨a,vs,e,q,rr⟩:=r;exact⟨a,vs,e,ht _ _ q,pX ht h rr⟩
 | .list _,_,h,_=>by simp[f7] at h
 | .dict _,_,h,_=>by simp[f7] at h
theorem pX{K:W.Frag}{H1 H2:Hp}(ht:∀a xs,eZ K H1 a xs->eZ K H2 a xs):∀ {ds:List D}{vs:List V},jl ds=true->au K H1 ds vs->au K H2 ds vs
 | [],_,_,r=>by simp?[au] at r ⊢;exact r
 | d::ds,vs,h,r=>by
  simp?[jl,zF] at h;simp?[au] at r ⊢;let⟨v,r',e,a,b⟩:=r;exact⟨v,r',e,sV ht h.1 a,pX ht h.2 b⟩
end
def eh.back{K:W.Frag}(S:eh K HF₀ H₀ HF H ρ σ)(S1:eh K HF₀ H₀ HF1 H ρ1 σ)(s1:aH HF HF1)(G:bw HF1 H HF' H'):∃HF2,aH HF HF2/\eh K HF₀ H₀ HF2 H' ρ σ/\(∀d v,f7 d=true->Rep K HF' d v->Rep K HF2 d v)/\∀b o,HF2 b=some o->HF' b=some o:=by
 have cl:=Classical.propDecidable;let O:Addr->Prop:=λa=>(∃ (i:Nat) (ds:List D),ρ[i]?=some (Slot.own ds)/\σ[i]?=some (some (V.ref a)))\/∃ (i:Nat) (ks:List (Str×List Int)),ρ[i]?=some (Slot.dic ks)/\σ[i]?=some (some (V.ref a));let HF2:Hp:=λa=>if O a then none else HF' a
 have hO:∀a,O a->HF a=none/\((∃vs,H a=some (.lst vs))\/∃kvs,H a=some (.dK kvs)):=λa z=>by
  rcases z with ⟨i,ds,h1,h2⟩|⟨i,ks,h1,h2⟩
  ·let⟨a',vs,e1,e2,e3,_,_⟩:=S.own i ds h1;rw[h2] at e1;cases e1;exact⟨e3,.inl ⟨vs,e2⟩⟩
  ·let⟨a',kvs,e1,e2,e3,_,_⟩:=S.dic i ks h1;rw[h2] at e1;cases e1;exact⟨e3,.inr ⟨kvs,e2⟩⟩
 have h2:∀a,¬ O a->HF2 a=HF' a:=λa n=>yK n;have h3:∀a,O a->HF2 a=none:=λa n=>yI n;have sa:aH HF HF2:=λb o e=>by
  have nb:¬ O b:=λz=>by rw[(hO b z).1] at e;cases e
  rw[h2 b nb];exact G.ff b o (s1 b o e)
 have sb:∀b o,HF2 b=some o->HF' b=some o:=λb o e=>by
  by_cases z:O b
  ·rw[h3 b z] at e;cases e
  ·rwa [h2 b z] at e
 have g2:=S1.gr.trans G;refine⟨HF2,sa,⟨⟨g2.hh,S.gr.ff.trans sa,λb o e=>G.fh b o (sb b o e),λb o e=>g2.nw b o (sb b o e)⟩,λi d h=>?_,λi ds h=>?_,S.inj,S.len,S.tb.mono sa,λi ks h=>?_,S.one⟩,λd v hn r=>sV (λa xs q=>?_) hn r,sb⟩
 ·let⟨v,e1,r⟩:=S.val i d h;exact⟨v,e1,r.mono sa⟩
 ·let⟨a,vs,e1,e2,e3,e5,e4⟩:=S.own i ds h;exact⟨a,vs,e1,G.hh _ _ e2,h3 a (.inl ⟨i,ds,h,e1⟩),e5,e4.mono sa⟩
 ·let⟨a,kvs,e1,e2,e3,e5,e4⟩:=S.dic i ks h;exact⟨a,kvs,e1,G.hh _ _ e2,h3 a (.inr ⟨i,ks,h,e1⟩),e5,e4.mono sa⟩
 ·have nt:∀o,HF' a=some o->(∀vs,o≠.lst vs)->(∀kvs,o≠.dK kvs)->HF2 a=some o:=λo e hne hnd=>by
   by_cases z:O a
   ·rcases (hO a z).2 with ⟨vs,e2⟩|⟨vs,e2⟩
    ·have:=G.hh _ _ e2;rw[G.fh a o e] at this;cases this;exact absurd rfl (hne vs)
    ·have:=G.hh _ _ e2;rw[G.fh a o e] at this;cases this;exact absurd rfl (hnd vs)
   ·rw[h2 a z];exact e
  rcases q with (q|⟨o,q⟩)|q
  ·exact .inl (.inl (nt _ q (λvs z=>by cases z) λvs z=>by cases z))
  ·exact .inl (.inr ⟨o,nt _ q (λvs z=>by cases z) λvs z=>by cases z⟩)
  ·exact .inr q
def aS(i:Nat)(fz:List Nat)(f:Env->Option D):ar->Option Out:=λρ=>(f (aL ρ)).bind λd=>if kz d=true then some (.nx (ρ.set i (.val d))) else (f (bW (hand fz 0 ρ))).map λd'=>.nx ((if f7 d'=true then ρ else hand fz 0 ρ).set i (.val d'))
def Mh:∀E σ H,tS X.K HF₀ H₀ (aS i fz f) E σ H->CC (tD X.K f) (td i) E σ H:=λE σ H ⟨HF,ρ,o,S,hg,q⟩=>by
 let⟨d,h,hg⟩:=bs hg;split at hg
 ·rename_i hs;cases hg;exact⟨H,aL ρ,d,.refl _,S.all,h,λv H' HF' G r=>q _ H' HF ((S.step G.hh).setV (tv hs r)) (.refl _)⟩
 ·let⟨d',h',rfl⟩:=ag hg;let⟨HF1,s1,S1⟩:=S.hand fz;refine⟨HF1,_,d',S1.gr.fh,S1.frz,h',λv H' HF' G r=>?_⟩;by_cases hn:f7 d'=true
  ·rw[yI hn] at q;let⟨HF2,s2,S2,hb,_⟩:=S.back S1 s1 G;exact q _ H' HF2 (S2.setV (hb d' v hn r)) s2
  ·rw[yK hn] at q;exact q _ H' HF' ((S1.grow G).setV r) (s1.trans G.ff)
def J6(i:Nat)(fz:List Nat)(hN:X.N.Nodup)(hi:X.N[i]?=some x)(hx:Loc X.env.scope x)(he:DE X e f)(hs:swapsWith e (some (.Name x pos')) pos.line X.env=pure false:=by rfl)
  (hf:X.fn x=true\/X.env.scope.names.lookup x=some .local:=by first|exact .inl rfl|exact .inr rfl|assumption):DS X HF₀ H₀ (.Assign [.Name x pos'] e pos) (aS i fz f):=bO (lY hN hi hx he hs hf) Mh
def bz(i:Nat)(fz:List Nat)(f:Env->Option (List D)):ar->Option Out:=λρ=>(f (bW (hand fz 0 ρ))).map λds=>.nx ((hand fz 0 ρ).set i (.own ds))
def E9:∀E σ H,tS X.K HF₀ H₀ (bz i fz f) E σ H->CC (tF X.K f) (td i) E σ H:=λE σ H ⟨HF,ρ,o,S,hg,q⟩=>by
 let⟨ds,h,rfl⟩:=ag hg;let⟨HF1,s1,S1⟩:=S.hand fz;refine⟨HF1,_,ds,S1.gr.fh,S1.frz,h,λa vs H' HF' G ha hf h' r=>q _ H' HF' ?_ (s1.trans G.ff)⟩;have S2:=S1.grow G;refine S2.setO (.refl _) h' hf (S1.gr.hh.free ha) r λj es _ hj z=>?_;let⟨b,us,e1,e2,_⟩:=S1.own j es hj;rw[e1] at z;cases z;rw[ha] at e2;cases e2
def sF(i:Nat)(fz:List Nat)(hN:X.N.Nodup)(hi:X.N[i]?=some x)(hx:Loc X.env.scope x)(he:DF X e f)(hs:swapsWith e (some (.Name x pos')) pos.line X.env=pure false:=by rfl)
  (hf:X.fn x=true\/X.env.scope.names.lookup x=some .local:=by first|exact .inl rfl|exact .inr rfl|assumption):DS X HF₀ H₀ (.Assign [.Name x pos'] e pos) (bz i fz f):=bO (lY hN hi hx he hs hf) E9
def FR(i:Nat)(fz:List Nat){cs:List Nat}
  (hc:X.calm=true) (S:lF X scope N (jd t cs)) (hi:DI X tg iter fi)
  (hY:∀fp s H,DG (aR X scope N fp s H) tg tgt/\M0 (aR X scope N fp s H) ifs tt/\DE (aR X scope N fp s H) elt te)
  (hN:X.N.Nodup) (hiy:X.N[i]?=some y) (hy:X.env.scope.names.lookup y=some .local)
  (hsw:swapsWith (.ListComp elt [⟨tg,iter,ifs,0⟩] scope pos) (some (.Name y py)) spos.line X.env=pure true)
  (hs:∀x,foldedSetIterable iter X.env x=pure x:=by intro _;rfl):DS X HF₀ H₀ (.Assign [.Name y py] (.ListComp elt [⟨tg,iter,ifs,0⟩] scope pos) spos) (bz i fz (aw t cs fi tgt tt te)) :=
 bO (Gr (g:=NX X.K tgt) (tt:=JZ X.K tt) (te:=tD X.K te) hc S hi hY hN hiy hy hsw hs) λE σ H q=>by
  have:=E9 E σ H q;exact EV σ H _ this
def P3(K:W.Frag)(HF₀ H₀:Hp)(f:ar->D->Option ar):TG:=λv σ H Q=>∃HF ρ d ρ',eh K HF₀ H₀ HF H ρ σ/\Rep K HF d v/\f ρ d=some ρ'/\∀σ',eh K HF₀ H₀ HF H ρ' σ'->Q σ' H
def Nf(X:Cx)(HF₀ H₀:Hp)(tg:Expr)(f:ar->D->Option ar):Prop:=PG X tg (P3 X.K HF₀ H₀ f)
def p8(i:Nat):ar->D->Option ar:=λρ d=>some (ρ.set i (.val d))
def B9(i:Nat)(hN:X.N.Nodup)(hi:X.N[i]?=some x)(hx:Loc X.env.scope x)(hf:X.fn x=true\/X.env.scope.names.lookup x=some .local:=by first|exact .inl rfl|exact .inr rfl|assumption):Nf X HF₀ H₀ (.Name x pos) (p8 i) :=
 lE (cI hN hi hx hf) λv σ H Q ⟨HF,ρ,d,ρ',S,r,hf,q⟩=>by cases hf;exact q _ (S.setV r)
def dk(i j:Nat):ar->D->Option ar:=λρ d=>match d with
 | .tuple [x,y]=>some ((ρ.set i (.val x)).set j (.val y))
 | _=>none
def HE(i j:Nat){px py:Pos}{k:Nat}(hc:X.calm=true)(hN:X.N.Nodup)(hi:X.N[i]?=some x)(hx:Loc X.env.scope x)(hj:X.N[j]?=some y)(hy:Loc X.env.scope y)
  (hf:X.fn x=true\/X.env.scope.names.lookup x=some .local:=by first|exact .inl rfl|exact .inr rfl|assumption) (hf':X.fn y=true\/X.env.scope.names.lookup y=some .local:=by first|exact .inl rfl|exact .inr rfl|assumption) :
  Nf X HF₀ H₀ (.Tuple [.Name x px,.Name y py] k pos) (dk i j) :=
 lE (si hc (cE (cI hN hi hx hf) (cE (cI hN hj hy hf') mW))) λv σ H Q ⟨HF,ρ,d,ρ',S,r,hf,q⟩=>by
  unfold dk at hf;split at hf
  ·cases hf;simp?[Rep] at r;let⟨a,vs,rfl,hs,rr⟩:=r;let⟨v1,r1,rfl,a1,b1⟩:=rr.cons_inv;let⟨v2,r2,rfl,a2,b2⟩:=b1.cons_inv;rw[b2.nil_inv] at hs;exact⟨a,_,rfl,ay S.gr.fh hs,rfl,v1,_,rfl,v2,_,rfl,rfl,q _ ((S.setV a1).setV a2)⟩
  ·cases hf
def dm(tgt:ar->D->Option ar)(gb:ar->Option Out):List D->ar->Option Out
 | [],ρ=>some (.nx ρ)
 | d::ds,ρ=>(tgt ρ d).bind λρ1=>(gb ρ1).bind fun|.nx ρ2=>dm tgt gb ds ρ2|.rt v=>some (.rt v)
def dh(fz:List Nat)(fi:Env->Option (List D))(tgt:ar->D->Option ar)(gb:ar->Option Out):ar->Option Out:=λρ=>(fi (bW (hand fz 0 ρ))).bind λds=>dm tgt gb ds (hand fz 0 ρ)
def Kz(fz:List Nat)(hp:PassesOwn (model X.prog X.w) X.A X.env X.xe)(hc:X.calm=true)(hi:DI X tg iter fi)(hg:Nf X HF₀ H₀ tg tgt)(hb:xk X HF₀ H₀ body gb)
  (hs:∀x,foldedSetIterable iter X.env x=pure x:=by intro _;rfl):DS X HF₀ H₀ (.For tg iter body [] pos) (dh fz fi tgt gb):=bO (KQ hp hc hi hg hb hs) λE σ H ⟨HF,ρ,o,S,hg,q⟩=>by
 let⟨ds,h,hg⟩:=bs hg;let⟨HF1,s1,S1⟩:=S.hand fz;refine⟨HF1,_,ds,S1.gr.fh,S1.frz,h,λJ H2 HF2 G it=>?_⟩;refine⟨λi m σ' H'=>m+i=ds.length/\∃HF' ρ',eh X.K HF₀ H₀ HF' H' ρ' σ'/\aH HF2 HF'/\dm tgt gb (ds.drop i) ρ'=some o,⟨ds.length,rfl,HF2,_,S1.grow G,.refl _,hg⟩,?_⟩;rintro i m σ' H' ⟨hm,HF',ρ',S',s',hf⟩;by_cases hi:i < ds.length
 ·refine .inr ?_;have hd:ds.drop i=ds[i]::ds.drop (i+1):=kN hi;have he:ds[i]?=some ds[i]:=List.getElem?_eq_some_iff.mpr ⟨hi,rfl⟩;generalize ds[i]=d at hd he;rw[hd] at hf;unfold dm at hf;let⟨ρ1,h1,hf⟩:=bs hf;let⟨o1,h2,hf⟩:=bs hf;let⟨go,yld⟩:=it.go i d H' HF' he s' S'.gr.fh;refine⟨go,λσ2 H3=>∃HF3 ρ3,eh X.K HF₀ H₀ HF3 H3 ρ3 σ2/\aH HF2 HF3/\dm tgt gb (ds.drop (i+1)) ρ3=some o,λσ2 H3 ⟨HF3,ρ3,a1,a2,a3⟩=>⟨m - 1,by lia,by lia,HF3,ρ3,a1,a2,a3⟩,λx H3 y=>?_⟩;let⟨HF3,G3,rx⟩:=yld x H3 y;refine⟨HF3,ρ',d,ρ1,S'.grow G3,rx,h1,λσ2 S2=>⟨HF3,ρ1,o1,S2,h2,?_⟩⟩;cases o1 with
  | nx ρ2=>exactλσ4 H4 HF4 S4 s4=>⟨HF4,ρ2,S4,(s'.trans G3.ff).trans s4,hf⟩
  | rt d=>cases hf;exact q
 ·have hi':i=ds.length:=by lia
  subst hi';rw[List.drop_length] at hf;cases hf;exact .inl ⟨it.stop H' HF' s' S'.gr.fh,q σ' H' HF' S' ((s1.trans G.ff).trans s')⟩
end
def Hn(X:Cx)(sc:Scope):Prop:=∀x k,sc.names.lookup x=some k->X.env.kindOf x=some k\/(k=.free/\X.env.kindOf x=some .cell)
structure Bk(X:Cx)(N:List Str)(sc:Scope)(k:Nat):Prop where
 n:X.N=N
 nd:N.Nodup
 tb:Hn X sc
 calm:X.calm=true
 fn:∀x,sc.names.lookup x=some .cell->X.fn x=true
 room:gu k X.A
 xe:X.xe=λ_ _=>False
 kd:X.env.scope.kind=.function
def cw:List Str:=["len","isinstance","int","bool","tuple","list","range","all","any","set","sorted","enumerate","zip","sum","min","max","reversed","abs","dict","str","type","iter","next"]
def Bn(X:Cx):Prop:=∀x∈cw,X.mg x=none
def sG(sc:Scope)(x:Str):Bool:=decide (sc.names.lookup x=some .globalImplicit)
def uO(N:List Str)(sc:Scope)(i:Nat)(x:Str):Bool:=decide (N[i]?=some x)&&(decide (sc.names.lookup x=some .local)||decide (sc.names.lookup x=some .cell)||decide (sc.names.lookup x=some .free))&&!(x == ("__debug__":Str))&&!(x == ("__classdict__":Str))
def mD(N:List Str)(sc:Scope)(i:Nat)(x:Str):Bool:=decide (N[i]?=some x)&&(decide (sc.names.lookup x=some .local)||decide (sc.names.lookup x=some .cell))
def Bk.gl(C:Bk X N sc k)(h:sG sc x=true):Gl X x:=by
 rcases C.tb x _ (yN h) with q|⟨q,_⟩
 ·exact q
 ·cases q
def Bk.vis(C:Bk X N sc k)(h:uO N sc i x=true):X.N[i]?=some x/\FA X.env.scope x/\(x == ("__debug__":Str))=false/\(x == ("__classdict__":Str))=false:=by
 unfold uO at h;simp?[zF,qV,zJ,yM] at h;let⟨⟨⟨h1,h2⟩,h3⟩,h4⟩:=h;refine⟨by rw[C.n];exact h1,?_,h3,h4⟩;rcases h2 with (h2|h2)|h2
 ·rcases C.tb x _ h2 with q|⟨q,_⟩
  ·exact .inl q
  ·cases q
 ·rcases C.tb x _ h2 with q|⟨q,_⟩
  ·exact .inr (.inl q)
  ·cases q
 ·rcases C.tb x _ h2 with q|⟨_,q⟩
  ·exact .inr (.inr q)
  ·exact .inr (.inl q)
def Bk.loc(C:Bk X N sc k)(h:mD N sc i x=true):X.N.Nodup/\X.N[i]?=some x/\Loc X.env.scope x/\(X.fn x=true\/X.env.scope.names.lookup x=some .local):=by
 unfold mD at h;simp?[zF,qV,zJ] at h;let⟨h1,h2⟩:=h;refine⟨by rw[C.n];exact C.nd,by rw[C.n];exact h1,?_⟩;rcases h2 with h2|h2
 ·rcases C.tb x _ h2 with q|⟨q,_⟩
  ·exact⟨.inl q,.inr q⟩
  ·cases q
 ·rcases C.tb x _ h2 with q|⟨q,_⟩
  ·exact⟨.inr q,.inl (C.fn x h2)⟩
  ·cases q
def Bk.blt(C:Bk X N sc k)(B:Bn X)(h:sG sc x=true)(hm:x∈cw)(hv:bootBuiltins x=some v):my X x v:=⟨C.gl h,B x hm,hv⟩
def Bk.v(C:Bk X N sc k)(i:Nat)(h:uO N sc i x=true):DE X (.Name x pos) (ae i):=let ⟨a,b,c,d⟩:=C.vis h;LZ i a b c d
def Bk.pass(C:Bk X N sc k):PassesOwn (model X.prog X.w) X.A X.env X.xe:=by rw[C.xe];exact PassesOwn.never
def wt(sc scope:Scope)(N N':List Str)(t:Nat)(cs:List Nat):Bool :=
 decide (scope.kind=.function)&&scope.names.all (λp=>(!decide (p.2=NameKind.free)||decide (sc.names.lookup p.1=some .cell)||decide (sc.names.lookup p.1=some .free))&&(!decide (p.2=NameKind.local)||decide (scope.names.lookup p.1=some .local)))
  &&scope.names.all (λp=>!decide (p.2=NameKind.cell)||!scope.names.any λq=>decide (q.1=p.1)&&decide (q.2=NameKind.free))
  &&decide (N'.length=t+cs.length)&&decide (N'.drop t=cs.filterMap λj=>N[j]?)&&cs.all (λj=>decide (j < N.length))&&(N'.drop t).all (λx=>decide (scope.names.lookup x=some .free))&&decide N'.Nodup
def filterMap_get(N:List α):∀ (cs:List Nat),(∀j∈cs,j < N.length)->∀ (i:Nat),(cs.filterMap λj=>N[j]?)[i]?=(cs[i]?).bind λj=>N[j]?
 | [],_,i=>by simp
 | c::cs,h,i=>by
  have hc:=h c zE;rw[jB,zK hc];cases i with
  | zero=>simp[hc]
  | succ i =>
   simp?[yV];exact filterMap_get N cs (λj hj=>h j (zC _ hj)) i
def Bk.comp(C:Bk X N sc k){cs:List Nat}(h:wt sc scope N N' t cs=true):lF X scope N' (jd t cs)/\∀fp s H,Bk (aR X scope N' fp s H) N' scope k:=by
 unfold wt at h;simp?[zF,zJ,xD,qV,yM,yY] at h;obtain⟨⟨⟨⟨⟨⟨⟨h1,h2⟩,h3⟩,h4⟩,h5⟩,h6⟩,h7⟩,h8⟩:=h;refine⟨⟨h1,λx hx hk=>?_,λ{x} a b=>?_,λx hx hk=>?_,λσ i x v e1 e2=>?_,λσ=>?_⟩,λfp s H=>⟨rfl,h8,λx k hx=>lJ hx,C.calm,λx hx=>zY hx,C.room,rfl,h1⟩⟩
 ·rcases (h2 x hx).1 with (q|q)|q
  ·exact absurd hk q
  ·rcases C.tb _ _ q with z|⟨z,_⟩
   ·exact .inl z
   ·cases z
  ·rcases C.tb _ _ q with z|⟨_,z⟩
   ·exact .inr z
   ·exact .inl z
 ·rcases h3 _ a with q|q
  ·exact q rfl
  ·have:(scope.names.any λq=>decide (q.1=x)&&decide (q.2=NameKind.free))=true:=List.any_eq_true.mpr ⟨_,b,by simp⟩;rw[this] at q;cases q
 ·rcases (h2 x hx).2 with q|q
  ·exact absurd hk q
  ·exact q
 ·unfold jd at e2;by_cases hi:i < t
  ·rw[yP (by simpa using hi),yU,yI hi] at e2;cases e2
  ·rw[yQ (by simpa using hi),zO,xI] at e2;let⟨j,hj,e2⟩:=ag e2;have e3:(N'.drop t)[i - t]?=some x:=by rw[List.getElem?_drop];rw[show t+(i - t)=i by lia];exact e1
   refine⟨h7 x (xY e3),j,?_,?_⟩
   ·rw[h5,filterMap_get N cs h6,hj] at e3;rw[C.n];exact e3
   ·cases e:σ[j]? with
    | none=>rw[e] at e2;cases e2
    | some o=>rw[e] at e2;have e2:o=some v:=e2;rw[e2]
 ·unfold jd;rw[zN,xI,zD,h4]
def aY(g:ar->Option Out)(n:Nat)(args:List D):Option D:=(g (args.map Slot.val++List.replicate (n - args.length) .non)).map fun|.rt d=>d|.nx _=>.none
def qr{ds:List D}{n i:Nat}{ks:List (Str×List Int)}:¬ (ds.map Slot.val++List.replicate n .non)[i]?=some (.dic ks):=λh=>by
 rcases List.mem_append.mp (xY h) with z|z
 ·let⟨d,_,e⟩:=List.mem_map.mp z;cases e
 ·cases List.eq_of_mem_replicate z
def IH{K:W.Frag}{st:Stmt}(F:C4 K x qual st f fd)(S:b9 N ps (ai st))
  (body:∀X:Cx,X.prog=P->X.w=w->X.K=K->X.mg=mg->X.base=base->Bk X N (ai st) k->X.env.code=fd.code->X.env.qual=qual++".<locals>."->∀HF₀ H₀,xk X HF₀ H₀ (bc st) g):mI P w K mg base FD (k+1) f fd ps (Nz K ps.length (aY g N.length)):=by
 let⟨oc,od,kV,doc,pm,an,cdv,ct,osl,rfl,lk,hcd⟩:=F.ex;refine B1 lk hcd S (λvs H Q E ⟨HF,ds,d,h1,_,h2,h3,_⟩=>by rw[h2.length,h3]) λA outer s H vs Q E hr ⟨HF,ds,d,sm,tb,rr,hl,hd,q⟩=>?_;refine⟨_,(body (nN FD P w K mg base N qual (ai st) f cdv A outer s H E).nox rfl rfl rfl rfl rfl ⟨rfl,S.nd,λy kd hy=>.inl hy,rfl,λ_ _=>rfl,hr,rfl,S.kind⟩ rfl rfl HF H).nox,?_⟩;unfold aY at hd;let⟨o,ho,hd⟩:=ag hd;have hpl:ps.length<=N.length:=by have:=qX List.length S.pre;rw[jR] at this;lia
 refine⟨HF,_,o,⟨.refl sm,λi e h=>?_,λi es h=>?_,λi j es fs a h=>?_,?_,tb,λi ks h=>absurd h qr,λi j ks ls h=>absurd h qr⟩,ho,?_⟩
 ·have hi:i < ds.length:=by
   by_cases hi:i < ds.length
   ·exact hi
   ·rw[yQ (by simpa using hi),yU] at h;split at h<;>cases h
  rw[yP (by simpa using hi),zO] at h;let⟨d',hd',h⟩:=ag h;cases h;let⟨v,hv,rv⟩:=rr.getD hd';refine⟨v,?_,rv⟩;unfold L2.start;rw[yP (by simpa [rr.length] using hi),zO,hv];rfl
 ·exfalso;by_cases hi:i < ds.length
  ·rw[yP (by simpa using hi),zO] at h;let⟨d',hd',h⟩:=ag h;cases h
  ·rw[yQ (by simpa using hi),yU] at h;split at h<;>cases h
 ·exfalso;by_cases hi:i < ds.length
  ·rw[yP (by simpa using hi),zO] at h;let⟨d',hd',h⟩:=ag h;cases h
  ·rw[yQ (by simpa using hi),yU] at h;split at h<;>cases h
 ·unfold L2.start;rw[zN,zN,zD,zD,xI,xI,rr.length];exact yJ _
 ·cases o with
  | rt d'=>cases hd;exactλv H' HF' G r=>q v H' HF' G r
  | nx ρ'=>cases hd;exactλσ' H' HF' S' _=>q .non H' HF' S'.gr (by simp[Rep])
def Qh{K:W.Frag}{st:Stmt}(F:C4 K x qual st f fd)(S:b9 N ps (ai st))(hb:Binds K fd ps [])(hm:mg x=some (.ref f))
  (body:∀X:Cx,X.prog=P->X.w=w->X.K=K->X.mg=mg->X.base=base->Bk X N (ai st) k->X.env.code=fd.code->X.env.qual=qual++".<locals>."->∀HF₀ H₀,xk X HF₀ H₀ (bc st) g):Fm P w K mg base (k+1) x ps.length (aY g N.length):=⟨f,fd,ps,IH F S body,hm,F.kp,hb⟩
def nH(fz:List Nat)(f:Env->Option D)(ρ:ar):Option (D×ar):=(f (aL ρ)).bind λd=>if kz d=true then some (d,ρ) else (f (bW (hand fz 0 ρ))).map λd'=>(d',hand fz 0 ρ)
def lS{K:W.Frag}(S:eh K HF₀ H₀ HF H ρ σ)(h:nH fz f ρ=some (d,ρ'))
  (q:∀v H' HF',aH HF HF'->eh K HF₀ H₀ HF' H' ρ' σ->aH H H'->Rep K HF' d v->Q v H'):tD K f σ H Q:=by
 let⟨d1,h1,h⟩:=bs h;split at h
 ·rename_i hs;cases h;exact⟨H,aL ρ,d,.refl _,S.all,h1,λv H' HF' G r=>q v H' HF (.refl _) (S.step G.hh) G.hh (tv hs r)⟩
 ·let⟨d2,h2,h⟩:=ag h;cases h;let⟨HF1,s1,S1⟩:=S.hand fz;exact⟨HF1,_,d,S1.gr.fh,S1.frz,h2,λv H' HF' G r=>q v H' HF' (s1.trans G.ff) (S1.grow G) G.hh r⟩
def oZ(i:Nat)(m:List D->Option (List D))(ρ:ar):Option Out:=match ρ[i]? with
 | some (.own ds)=>(m ds).map λes=>.nx (ρ.set i (.own es))
 | _=>none
def iT(h:oZ i m ρ=some o):∃ds es,ρ[i]?=some (.own ds)/\m ds=some es/\o=.nx (ρ.set i (.own es)):=by
 unfold oZ at h;split at h
 ·rename_i ds hd;let⟨es,h1,h2⟩:=ag h;exact⟨ds,es,hd,h1,h2.symm⟩
 ·cases h
def eh.mut{K:W.Frag}(S:eh K HF₀ H₀ HF H ρ σ)(h:ρ[i]?=some (.own ds))(ha:σ[i]?=some (some (.ref a)))(hH:H a=some (.lst vs))(r:au K HF es us) :
  eh K HF₀ H₀ HF (upd H a (.lst us)) (ρ.set i (.own es)) σ:=by
 let⟨a',vs',e1,e2,e3,e5,e4⟩:=S.own i ds h;rw[ha] at e1;cases e1;have hl:i < ρ.length:=(List.getElem?_eq_some_iff.mp h).1;have gr:bw HF₀ H₀ HF (upd H a (.lst us)):=⟨λb o e=>by rw[aC (aK e e5)];exact S.gr.hh b o e,S.gr.ff,λb o e=>by rw[aC (aK e e3)];exact S.gr.fh b o e,S.gr.nw⟩
 have nt:∀ {j:Nat}{ks:List (Str×List Int)},(ρ.set i (.own es))[j]?=some (.dic ks)->ρ[j]?=some (.dic ks):=λ{j ks} h=>by
  rw[xF] at h;by_cases hij:i=j
  ·rw[yI hij] at h;split at h<;>cases h
  ·rw[yK hij] at h;exact h
 refine⟨gr,λj d hj=>?_,λj xs hj=>?_,λj k xs ys b f1 f2 f3 f4=>?_,by rw[yA];exact S.len,S.tb,λj ks hj=>?_,λj k ks ls h1 h2=>S.one j k ks ls (nt h1) (nt h2)⟩
 ·rw[xF] at hj;by_cases hij:i=j
  ·rw[yI hij] at hj;split at hj<;>cases hj
  ·rw[yK hij] at hj;exact S.val j d hj
 ·rw[xF] at hj;by_cases hij:i=j
  ·subst hij;rw[yI rfl,yI hl] at hj;cases hj;exact⟨a,us,ha,aD,e3,e5,r⟩
  ·rw[yK hij] at hj;let⟨b,ws,f1,f2,f3,f5,f4⟩:=S.own j xs hj;refine⟨b,ws,f1,?_,f3,f5,f4⟩;rw[aC]
   ·exact f2
   ·rintro rfl;exact hij (S.inj i j ds xs b h hj ha f1)
 ·have old:∀ {j:Nat}{xs:List D},(ρ.set i (.own es))[j]?=some (.own xs)->∃ys,ρ[j]?=some (.own ys):=λ{j xs} hj=>by
   rw[xF] at hj;by_cases hij:i=j
   ·subst hij;exact⟨ds,h⟩
   ·rw[yK hij] at hj;exact⟨xs,hj⟩
  let⟨xs',g1⟩:=old f1;let⟨ys',g2⟩:=old f2;exact S.inj j k xs' ys' b g1 g2 f3 f4
 ·let⟨b,kvs,g1,g2,g3,g5,g4⟩:=S.dic j ks (nt hj);refine⟨b,kvs,g1,?_,g3,g5,g4⟩;rw[aC λz=>by rw[z,e2] at g2;cases g2];exact g2
def oG(i:Nat)(fz:List Nat)(f:Env->Option D):ar->Option Out:=λρ=>(nH fz f ρ).bind λp=>oZ i (λds=>if ds.length < sizeLine then some (ds++[p.1]) else none) p.2
def A7(i:Nat)(fz:List Nat)(hN:X.N[i]?=some x)(hv:FA X.env.scope x)(h:DE X e f)(hd:(x == ("__debug__":Str))=false:=by decide)(hcd:(x == ("__classdict__":Str))=false:=by decide)
  (hfew:((backTo cpos (starEach [e] X.env)).all (λx=>!x.1)&&(backToKw cpos (keywordEach [] X.env)).all (λx=>x.1.isSome)&&decide ([e].length+([]:List Keyword).length+(if ([]:List Keyword).isEmpty then 0 else 1) < 30))=true:=by rfl)
  (hline:(apos.endLine == cpos.line)=true:=by rfl) (hs:starEach [e] X.env=(false,eval e X.env)::starEach [] X.env:=by rfl) :
  DS X HF₀ H₀ (.Expr (.Call (.Attribute (.Name x px) "append" apos) [e] [] cpos) pos) (oG i fz f) :=
 bO (kr (jf qK PySem.F.slot_list_append PySem.F.type_list_append pV (gQ hN hv hd hcd) (bh h cA hs) rfl hfew hline hs rfl)) λE σ H ⟨HF,ρ,o,S,hg,q⟩=>by
  let⟨⟨d,ρ'⟩,h1,hg⟩:=bs hg;let⟨ds,es,h2,h3,rfl⟩:=iT hg;have hown:∃ds',ρ[i]?=some (.own ds'):=by
   let⟨d1,_,h1⟩:=bs h1;split at h1
   ·cases h1;exact⟨ds,h2⟩
   ·let⟨d2,_,h1⟩:=ag h1;cases h1;rw[iy] at h2;let⟨s,hs,h2⟩:=ag h2;cases s with
    | non=>split at h2<;>cases h2
    | dic _=>split at h2<;>cases h2
    | val _=>split at h2<;>cases h2
    | own xs=>exact⟨xs,hs⟩
  let⟨ds',hown⟩:=hown;let⟨a,vs,e1,e2,e3,e5,e4⟩:=S.own i ds' hown;refine⟨.ref a,e1,.inl ⟨rfl,vs,fD.of e2⟩,lS S h1 λv H' HF' s1 S' sh r=>?_⟩;let⟨a',vs',f1,f2,f3,f5,f4⟩:=S'.own i ds h2;rw[e1] at f1;cases f1;split at h3
  ·rename_i hz;cases h3;exact⟨a,vs',v,rfl,rfl,f2,by rw[f4.length];exact hz,q σ _ HF' (S'.mut h2 e1 f2 (f4.append (au.cons r au.nil))) s1⟩
  ·cases h3
def qv(K:W.Frag)(o:Obj):Option (Addr×Str):=match o.data with
 | .func fd=>if nF.contains fd.qualname=true then (match fd.code with
   | .ref c=>(match K.lookup c with
    | some ⟨_,_,.fields vs,_⟩=>(match (vs[11]?:Option Value) with
     | some (.ref P)=>if W.codeHdIn K c P=true then some (P,fd.qualname++".<locals>."++"<lambda>") else none
     | _=>none)
    | _=>none)
   | _=>none) else none
 | _=>none
def fT(K:W.Frag):List (Addr×Str):=K.filterMap λp=>qv K p.2
def la(K:W.Frag)(ts:List Addr):Bool:=(fT K).all λp=>ts.contains p.1&&(K.lookup p.1).isNone&&decide ((fT K).lookup p.1=some p.2)
def tO{K:W.Frag}(h:qv K o=some (P,q)):∃c,W.codeHdIn K c P=true:=by
 unfold qv at h;split at h
 ·split at h
  ·split at h
   ·split at h
    ·split at h
     ·split at h
      ·cases h;exact⟨_,‹_›⟩
      ·cases h
     ·cases h
    ·cases h
   ·cases h
  ·cases h
 ·cases h
def tw{K:W.Frag}(h:(P,q)∈fT K):∃c,W.codeHdIn K c P=true:=by
 let⟨p,_,e⟩:=List.mem_filterMap.mp h;exact tO e
def wL{K:W.Frag}(a:K.lookup f=some ⟨oc,od,.func fd,sl⟩)(b:fd.qualname∈nF)(d:fd.code=.ref c)(e:W.codeHdIn K c P=true) :
  (P,fd.qualname++".<locals>."++"<lambda>")∈fT K:=by
 refine List.mem_filterMap.mpr ⟨(f,_),W.mem_of_lookupK a,?_⟩;have e':=e;unfold W.codeHdIn at e';unfold qv;simp?[d,List.contains_iff_mem,b,xE];split at e'
 ·rename_i vs sl' hl;simp?[hl];simp?[zF] at e';have e1:=e'.1.1.1.1.1;split at e1
  ·rename_i P' hv;have:P'=P:=by simpa using e1
   subst this;simp?[hv,e,xE]
  ·cases e1
 ·cases e'
def BQ:∀ {l:List (Addr×α)},l.lookup b=some q->(b,q)∈l
 | [],e=>by cases e
 | (c,x)::r,e=>by
  rw[zZ] at e;cases h:b == c with
  | true=>rw[h] at e;cases e;rw[eq_of_beq h];exact zE
  | false=>rw[h] at e;exact zC _ (BQ e)
def fq(K:W.Frag)(h0:Hp):Hp:=λb=>match (fT K).lookup b with|some q=>some (.tab q)|none=>h0 b
def Au{K:W.Frag}(h:la K ts=true):di K (fq K h0):=λf oc od fd sl c P a b d e=>by
 have hm:=wL a b d e;have:=List.all_eq_true.mp h _ hm;simp?[zF,zJ] at this;unfold fq;rw[this.2]
def Ar{w:World}{K:W.Frag}{CX:FY}{k:Nat}{fa:Addr}{fd:FuncData}{sp:Sp}{vs:List Value}{ns:List Int}
  (KX:K.In s₁.heap) (hns:s₁.heap.Ns mainGlobals mg) (hb:s₁.heap.Ns builtinsNs mb) (hbb:∀x:Str,x≠"__name__"->mb x=bootBuiltins x) (hlim:s₁.heap.NoLimit) (hbm:OH mg s₁.heap) (hg:s₁.gens=#[])
  (ht:la K ts=true) (hts:∀P∈ts,s₁.heap.get? P=some (W.tabObj #[]))
  (ha:s₁.heap.get? a=some { cls:=.type "list",data:=.seq vs.toArray }) (hi:IntsAre vs ns) (hl:ns.length<=sizeLine) (hr:gu k callerA)
  (F:∀base:Heap,K.In base->base.Ns mainGlobals mg->mI P w K mg base CX k fa fd [x] sp) (hbind:∀ (s:Shared) (u:Value),BindsTo s fd ⟨[u],[]⟩ [(x,u)])
  (hsp:∀H:Hp,di K H->fD K H a (ns.map V.int)->sp [.ref a] H (λv _=>v=.bl true) λ_ _ _=>False)
  (hCX:∀H e s',CX [] H s₁ (λ_ _ _=>False) e s'->False) :
  codeAny (model P w) callerA (.call (.ref fa) ⟨[.ref a],[]⟩) (λr s'=>r=.ok (.ret (.bool true))/\OldK s₁.heap s'.heap/\s'.os=s₁.os/\AllBare s'.gens) s₁:=by
 have rv:=o7 hi;have lenV:=hi.length;have tabAt:∀b q,(fT K).lookup b=some q->s₁.heap.get? b=some (W.tabObj #[])/\K.lookup b=none/\∃c,W.CodeHd s₁.heap c b:=λb q e=>by
  have hm:=BQ e;have:=List.all_eq_true.mp ht _ hm;simp?[zF,zJ,List.contains_iff_mem,Option.isNone_iff_eq_none] at this;let⟨c,hc⟩:=tw hm;exact⟨hts b this.1.1,this.1.2,c,W.codeHd_of_K KX hc⟩
 have aT:(fT K).lookup a=none:=by
  cases e:(fT K).lookup a with
  | none=>rfl
  | some q=>have:=(tabAt a q e).1;rw[ha] at this;cases this
 have core:∀h0:Hp,fD K (fq K h0) a (ns.map V.int)->lK P w (fq K h0) s₁.heap->(∀b,h0 b≠none->b=a)->(h0 a≠none->K.lookup a=none)->(∀b,h0 b=none\/∃o xs,h0 b=some (.frz o (.lst xs))) ->
   codeAny (model P w) callerA (.call (.ref fa) ⟨[.ref a],[]⟩) (λr s'=>r=.ok (.ret (.bool true))/\OldK s₁.heap s'.heap/\s'.os=s₁.os/\AllBare s'.gens) s₁:=by
  intro h0 hS hok hA hK hO;have look:∀b u,fq K h0 b=some u->(∃q,(fT K).lookup b=some q/\u=.tab q)\/(b=a/\h0 b=some u):=λb u e=>by
   unfold fq at e;split at e
   ·rename_i q hq;cases e;exact .inl ⟨q,hq,rfl⟩
   ·exact .inr ⟨hA b (by rw[e];simp),e⟩
  have fJ:∀ {b:Addr}{o:Obj},s₁.heap.get? b=some o->fq K h0 b=none->(rR s₁.heap (fq K h0)).get? b=some o:=λe n=>DK e n;have noA:∀ {b:Addr}{o:Obj},s₁.heap.get? b=some o->(∀vs n,o.data≠.seq vs n)->(∀vs,o.data≠.fields vs)->fq K h0 b=none:=λ{b o} e d d2=>by
   cases q:fq K h0 b with
   | none=>rfl
   | some u =>
    rcases look b u q with ⟨q',z,_⟩|⟨z,_⟩
    ·rw[(tabAt b q' z).1] at e;cases e;exact absurd rfl (d2 _)
    ·subst z;rw[ha] at e;cases e;exact absurd rfl (d _ _)
  have nsK:∀ {b:Addr}{m:Str->Option Value},s₁.heap.Ns b m->(rR s₁.heap (fq K h0)).Ns b m:=λ{b m} ⟨o,es,ep,e,d,r⟩=>⟨o,es,ep,fJ e (noA e (λ_ _ z=>by rw[d] at z;cases z) λ_ z=>by rw[d] at z;cases z),d,r⟩
  have hKb:K.In (rR s₁.heap (fq K h0)):=λb o e=>fJ (KX b o e) (by
   cases q:fq K h0 b with
   | none=>rfl
   | some u =>
    rcases look b u q with ⟨q',z,_⟩|⟨z,z2⟩
    ·rw[(tabAt b q' z).2.1] at e;cases e
    ·subst z;rw[hK (by rw[z2];simp)] at e;cases e)
  have hM:Mod K mg (rR s₁.heap (fq K h0)):=⟨hKb,nsK hns,⟨mb,nsK hb,hbb⟩,let ⟨mc,h1,h2⟩:=hlim;⟨mc,nsK h1,h2⟩,
   let ⟨bm,o,b1,b2,b3,b4,b5,b6,b7⟩:=hbm;⟨bm,o,b1,b2,b3,fJ b4 (noA b4 (λ_ _ z=>by rw[b7] at z;cases z) λ_ z=>by rw[b7] at z;cases z),b5,b6,b7⟩⟩
  have e0:vg P w K mg (rR s₁.heap (fq K h0)) callerA [] s₁ (fq K h0):=⟨rfl,hM,λb o e=>Iz e,Nat.le_of_eq (Am _ _),trivial,λb hb=>absurd (show b∈([]:List Addr) from hb) (by simp),hok,.of_eq hg⟩
  refine jN ((F _ hKb (nsK hns)).run callerA [] s₁ (fq K h0) ⟨[.ref a],[]⟩ [.ref a] [.ref a] _ _ hr e0 (hbind s₁ (.ref a)) (.cons rfl .nil) (hsp _ (Au ht) hS)) λr s' h=>?_;cases r with
  | error e=>exact (hCX _ e s' h).elim
  | ok fl =>
   cases fl with
   | next=>exact False.elim h
   | brk=>exact False.elim h
   | cont=>exact False.elim h
   | ret u =>
    let⟨v,H',os,bare,un,hok',r',q⟩:=h;have q':v=.bl true:=q;subst q';obtain rfl:u=Value.bool true:=r';have key:∀b o,s₁.heap.get? b=some o->s'.heap.get? b=some o\/(isCodeTable s₁.heap b/\o=W.tabObj #[]/\∃ps,s'.heap.get? b=some (W.tabObj ps)):=λb o e=>by
     cases q:fq K h0 b with
     | none=>exact .inl (un.keep b o e q (by intro z;exact absurd (show b∈([]:List Addr) from z) (by simp)) (by simp))
     | some u =>
      rcases look b u q with ⟨q',z,rfl⟩|⟨z,z2⟩
      ·let⟨t1,_,c,t3⟩:=tabAt b q' z;let⟨more,m1⟩:=un.tbls.gr b q' #[] q t1;rw[e] at t1;cases t1;exact .inr ⟨(t3.tab e).isCodeTable,rfl,_,m1⟩
      ·rcases hO b with z3|⟨ob,xs,z3⟩
       ·rw[z2] at z3;cases z3
       ·rw[z2] at z3;cases z3;have z4:=un.frzs b ob _ q;let⟨e1,_⟩:=hok b _ q;let⟨e2,_⟩:=hok' b _ z4;rw[e] at e1;cases e1;exact .inl e2
    refine⟨rfl,⟨λb o e=>?_,λb o e=>?_⟩,os,bare⟩
    ·rcases key b o e with z|⟨t,rfl,ps,z⟩
     ·exact .inl z
     ·exact .inr (.inl ⟨t,rfl,#[],ps,rfl,by rw[Array.empty_append];exact z⟩)
    ·rcases key b o e with z|⟨_,_,ps,z⟩
     ·exact⟨o,z⟩
     ·exact⟨_,z⟩
 have hoT:∀ (h0:Hp) b q,(fT K).lookup b=some q->cL P w (fq K h0) s₁.heap b (.tab q):=λh0 b q e=>⟨#[],(tabAt b q e).1,trivial,λpos v z=>by cases z⟩
 cases hk:K.lookup a with
 | some o =>
  have e:=KX a o hk;rw[ha] at e;cases e;refine core (λ_=>none) (.inr ⟨_,vs.toArray,_,hk,rfl,rfl,rfl,by rw[zH,lenV];exact hl,by simpa using rv⟩) (λb u z=>?_) (λb z=>absurd rfl z) (λz=>absurd rfl z) λ_=>.inl rfl;unfold fq at z;split at z
  ·rename_i q hq;cases z;exact hoT _ b q hq
  ·cases z
 | none =>
  refine core (λb=>if b=a then some (.frz { cls:=.type "list",data:=.seq vs.toArray } (.lst (ns.map V.int))) else none) (.inl (.inr ⟨{ cls:=.type "list",data:=.seq vs.toArray },?_⟩)) (λb u z=>?_) (λb z=>?_) (λ_=>hk) λb=>?_
  ·unfold fq;rw[aT];exact yI rfl
  ·unfold fq at z;split at z
   ·rename_i q hq;cases z;exact hoT _ b q hq
   ·by_cases hb:b=a
    ·replace z:=(yI hb).symm.trans z;cases z;subst hb;exact⟨ha,by rw[zD];exact hl,vs,_,rv,ha⟩
    ·replace z:=(yK hb).symm.trans z;cases z
  ·by_cases hb:b=a
   ·exact hb
   ·exact absurd (yK hb) z
  ·by_cases hb:b=a
   ·exact .inr ⟨_,_,yI hb⟩
   ·exact .inl (yK hb)
def Er{l:W.OpenLaw}{n k:Nat}{q:Program}{loose:List Str}{XP:(Str->Option Value)->Heap->Prop}{YP:World->Heap->Prop}{d:DefRec}{K:Params->W.Frag}{CX:World->FY}{sp:World->Sp}{x:Str}{ts:List Addr}
  (hn:l.most=some n) (hn2:n<=sizeLine) (hdf:d.params.defaults=[]) (hr:gu k callerA)
  (hY:∀ (w:World) (h:Heap),YP w h->(K w.params).In h/\∀P∈ts,h.get? P=some (W.tabObj #[])) (ht:∀w:World,la (K w.params) ts=true)
  (F:∀ (w:World) (mg:Str->Option Value) (fa:Addr) (h:Heap),(K w.params).In h->h.Ns mainGlobals mg->mg d.name=some (.ref fa) ->
   ∃fd:FuncData,(∀ (s:Shared) (u:Value),BindsTo s fd ⟨[u],[]⟩ [(x,u)]) /\
    ∀base:Heap,(K w.params).In base->base.Ns mainGlobals mg->mI l.prog w (K w.params) mg base (CX w) k fa fd [x] (sp w))
  (hsp:∀ (w:World) (H:Hp) (a:Addr) (ns:List Int),ns.length<=n->di (K w.params) H->fD (K w.params) H a (ns.map V.int)->sp w [.ref a] H (λv _=>v=.bl true) λ_ _ _=>False)
  (hCX:∀ (w:World) (H:Hp) (s:Shared) (e:Value) (s':Shared),CX w [] H s (λ_ _ _=>False) e s'->False) :
  W.WalkO q loose XP YP l.row.toRowW d [] (λf vs=>PySem.call f vs):=by
 refine Att.attach_call hn hdf λw s₀ s₁ mg mb fa o pm cd doc a vs ns G Y ho hd hcd hmg hobj hints hlen hg=>?_;let⟨KX,hts⟩:=hY w _ Y;let⟨fd,hb,hF⟩:=F w mg fa _ KX G.T.g hmg;have hbm:OH mg s₁.heap:=by
  let⟨bm,ob,b1,b2,b3,b4,b5,b6⟩:=G.T.bmain;refine⟨bm,ob,b1,b2,λz=>?_,b3,b4,b5,b6⟩;let⟨o',es,ep,e1,e2,_⟩:=G.T.g;rw[<- z,b3] at e1;cases e1;rw[b6] at e2;cases e2
 exact Ar KX G.T.g G.T.b G.T.builtins G.T.nolimit hbm hg (ht w) hts hobj hints (yB hlen hn2) hr hF hb (λH hT hS=>hsp w H a ns hlen hT hS) λH e s'=>hCX w H s₁ e s'
end Dl
namespace SP
open PySem PySem.W PyProof.Rows
def run(lt:Nat->Nat->Bool):KasT α->α
 | .ret a=>a
 | .ask i j k=>run lt (k (lt i j))
def fZ(lt:Nat->Nat->Bool)(f:α->KasT β):∀t:KasT α,run lt (t.bind f)=run lt (f (run lt t))
 | .ret a=>rfl
 | .ask i j k=>by
  show run lt ((k (lt i j)).bind f)=run lt (f (run lt (k (lt i j))));exact fZ lt f (k (lt i j))
def FI(n:Nat):KasT α->Prop
 | .ret _=>True
 | .ask i j k=>i < n/\j < n/\∀b,FI n (k b)
def wp_run(hc:∀i j C,i < n->j < n->C (lt i j) s->cmp i j C s):∀ (t:KasT α) {Q:α->Shared->Prop},FI n t->Q (run lt t) s->t.kasWp cmp Q s
 | .ret a,Q,_,h=>h
 | .ask i j k,Q,b,h=>hc i j _ b.1 b.2.1 (wp_run hc (k (lt i j)) (b.2.2 _) h)
def ni(n:Nat)(R:α->Prop):KasT α->Prop
 | .ret a=>R a
 | .ask i j k=>i < n/\j < n/\∀b,ni n R (k b)
def lr:∀ {t:KasT α},ni n R t->(∀a,R a->FI n (f a))->FI n (t.bind f)
 | .ret a,b,h=>h a b
 | .ask i j k,b,h=>⟨b.1,b.2.1,λc=>lr (b.2.2 c) h⟩
def gP:∀ {t:KasT α},ni n R t->(∀a,R a->ni n S (f a))->ni n S (t.bind f)
 | .ret a,b,h=>h a b
 | .ask i j k,b,h=>⟨b.1,b.2.1,λc=>gP (b.2.2 c) h⟩
def Bd(n:Nat)(p:Array Nat):Prop:=∀a,p.getD a 0 < n
def Bd.perm(h:Bd n p)(e:q.Perm p):Bd n q:=by
 intro a;rw[qA];cases ha:q[a]? with
 | none=>have:=h p.size;rw[qA] at this;simpa using this
 | some x =>
  have hx:x∈q:=Array.mem_of_getElem? ha;have hx':x∈p:=e.mem_iff.mp hx;let⟨i,hi,rfl⟩:=Array.mem_iff_getElem.mp hx';have:=h i;rw[qA] at this;simpa [hi] using this
def Dk(h:Bd n p):∀f m,ni n (λ_=>True) (kas_asc p f m)
 | 0,m=>trivial
 | f+1,m=>⟨h _,h _,λc=>by
  dsimp only;split
  ·trivial
  ·exact Dk h f (m+1)⟩
def tj(h:Bd n p)(i j:Nat):Bd n (kas_rev p i j):=h.perm (mirror_perm _ _ _ _)
def sM:∀ (f:Nat) {p:Array Nat}(h:Bd n p) (m q:Nat),ni n (λr=>Bd n r.1) (kas_desc f p m q)
 | 0,p,h,m,q=>h
 | f+1,p,h,m,q=>⟨h _,h _,λc=>by
  dsimp only;split
  ·split
   ·exact sM f (tj h _ _) (m+1) 0
   ·exact sM f h (m+1) 0
  ·exact⟨h _,h _,λd=>by
    dsimp only;split
    ·exact h
    ·exact sM f h (m+1) (q+1)⟩⟩
def Ad(h:Bd n p)(m nrem:Nat):ni n (λr=>Bd n r.2) (kas_tail3 m nrem p):=gP (Dk (tj h 0 m) _ _) λ_ _=>tj h 0 m
def m9(h:Bd n p)(m nrem:Nat):ni n (λr=>Bd n r.2) (kas_descPart m nrem p):=gP (sM _ h _ _) λr hr=>by
 split
 ·exact Ad (tj hr _ _) _ _
 ·exact Ad hr _ _
def HL(h:Bd n p)(nrem:Nat):ni n (λr=>Bd n r.2) (kas_count nrem p):=gP (Dk h _ _) λm _=>by
 split
 ·exact h
 ·split
  ·exact⟨h _,h _,λc=>by
    dsimp only;split
    ·exact h
    ·exact m9 (tj h _ _) _ _⟩
  ·exact m9 h _ _
def qw(h:Bd n p)(k:Nat):∀f l r,ni n (λ_=>True) (kas_place p k f l r)
 | 0,l,r=>trivial
 | f+1,l,r=>by
  unfold kas_place;split
  ·trivial
  ·exact⟨h _,h _,λc=>by
    dsimp only;split
    ·exact qw h k f _ _
    ·exact qw h k f _ _⟩
def Jf:∀ (f:Nat) {p:Array Nat}(h:Bd n p) (k:Nat),FI n (kas_bin f p k)
 | 0,p,h,k=>trivial
 | f+1,p,h,k=>lr (qw h k _ _ _) λl _=>Jf f (h.perm (bubble_perm _ _ _)) (k+1)
def J2(h1:1<=n):FI n (kas_sort n):=by
 have h:Bd n (List.toArray (List.range n)):=λa=>by
  rw[qA];by_cases ha:a < n
  ·simp[ha]
  ·simp[ha];lia
 refine lr (HL h n) λr hr=>?_;split
 ·exact Jf _ hr _
 ·trivial
section
variable (z:Nat->Int)
def Z(p:Array Nat)(a:Nat):Int:=z (p.getD a 0)
def dR:Nat->Nat->Bool:=λi j=>decide (z i < z j)
def km(h:p[a]?=q[b]?):Z z p a=Z z q b:=by
 unfold Z;rw[qA,qA,h]
def Dd(hj:j<=p.size)(k:Nat):Z z (kas_rev p i j) k=if i<=k/\k < j then Z z p (i+j - 1 - k) else Z z p k:=by
 have e:=getElem?_mirror_all (xs:=p) (i:=i) hj k;unfold kas_rev;by_cases h1:i<=k/\k < j
 ·rw[yI h1] at e ⊢;exact km z e
 ·rw[yK h1] at e ⊢;exact km z e
def CY(hs:src < p.size)(hd:d<=src)(k:Nat):Z z (bubble p src d) k=if k=src - d then Z z p src else if src - d < k/\k<=src then Z z p (k - 1) else Z z p k:=by
 have e:=getElem?_bubble hs d hd k;by_cases h1:k=src - d
 ·rw[yI h1] at e ⊢;exact km z e
 ·rw[yK h1] at e ⊢;by_cases h2:src - d < k/\k<=src
  ·rw[yI h2] at e ⊢;exact km z e
  ·rw[yK h2] at e ⊢;exact km z e
def Up(p:Array Nat)(n:Nat):Prop:=∀a b,a<=b->b < n->Z z p a<=Z z p b
def Dn(p:Array Nat)(n:Nat):Prop:=∀a b,a<=b->b < n->Z z p b<=Z z p a
variable {z}
def FZ(h:Up z p n)(hn:1<=n)(h1:Z z p (n - 1)<=Z z p n):Up z p (n+1):=by
 intro a b hab hb;by_cases hbn:b < n
 ·exact h a b hab hbn
 ·have e:b=n:=by lia
  subst e;by_cases ha:a=b
  ·subst ha;exact xW _
  ·exact jP (h a (b - 1) (by lia) (by lia)) h1
def On:∀ (f n:Nat),1<=n->Up z p n->n<=run (dR z) (kas_asc p f n)/\run (dR z) (kas_asc p f n)<=n+f/\Up z p (run (dR z) (kas_asc p f n))/\(run (dR z) (kas_asc p f n) < n+f->Z z p (run (dR z) (kas_asc p f n)) < Z z p (run (dR z) (kas_asc p f n) - 1))
 | 0,n,hn,h=>⟨yJ _,yJ _,h,λq=>absurd q (qB _)⟩
 | f+1,n,hn,h=>by
  unfold kas_asc;show n<=run (dR z) (if dR z (p.getD n 0) (p.getD (n - 1) 0)=true then .ret n else kas_asc p f (n+1))/\run (dR z) (if dR z (p.getD n 0) (p.getD (n - 1) 0)=true then .ret n else kas_asc p f (n+1))<=n+(f+1)/\Up z p (run (dR z) (if dR z (p.getD n 0) (p.getD (n - 1) 0)=true then .ret n else kas_asc p f (n+1)))/\(run (dR z) (if dR z (p.getD n 0) (p.getD (n - 1) 0)=true then .ret n else kas_asc p f (n+1)) < n+(f+1)->Z z p (run (dR z) (if dR z (p.getD n 0) (p.getD (n - 1) 0)=true then .ret n else kas_asc p f (n+1))) < Z z p (run (dR z) (if dR z (p.getD n 0) (p.getD (n - 1) 0)=true then .ret n else kas_asc p f (n+1)) - 1))
  by_cases hc:dR z (p.getD n 0) (p.getD (n - 1) 0)=true
  ·rw[yI hc];exact⟨yJ _,jQ _ _,h,λ_=>yN hc⟩
  ·rw[yK hc];have h1:Z z p (n - 1)<=Z z p n:=by
    have:¬ (Z z p n < Z z p (n - 1)):=λq=>hc (zY q);lia
   let⟨a,b,c,d⟩:=On f (n+1) (by lia) (FZ h hn h1);exact⟨by lia,by lia,c,λq=>d (by lia)⟩
def vx(hj:j<=p.size)(h:∀a b,i<=a->a < j->i<=b->b < j->Z z p a=Z z p b)(k:Nat):Z z (kas_rev p i j) k=Z z p k:=by
 rw[Dd z hj];split
 ·rename_i hk;exact h _ _ (by lia) (by lia) hk.1 hk.2
 ·rfl
def Dm(e:∀k,Z z q k=Z z p k)(h:Dn z p n):Dn z q n:=λa b hab hb=>by rw[e,e];exact h a b hab hb
def Lk(hn:n<=p.size)(h:Dn z p n):Up z (kas_rev p 0 n) n:=by
 intro a b hab hb;rw[Dd z hn,Dd z hn,yI ⟨xR _,by lia⟩,yI ⟨xR _,hb⟩];exact h _ _ (by lia) (by lia)
def kg(p:Array Nat)(i j:Nat):(kas_rev p i j).size=p.size:=mirror_size _ _ _ _
def lg(p:Array Nat)(i j:Nat):(kas_rev p i j).Perm p:=mirror_perm _ _ _ _
structure Ky(z:Nat->Int)(p₀ p:Array Nat)(n q nrem:Nat):Prop where
 perm:p.Perm p₀
 size:p.size=p₀.size
 le:n<=nrem
 qn:q+1<=n
 dn:Dn z p n
 eq:∀a b,n - (q+1)<=a->a < n->n - (q+1)<=b->b < n->Z z p a=Z z p b
def Gj(hz:nrem<=p₀.size):∀ (f:Nat) (p:Array Nat) (n q:Nat),n+f<=nrem->Ky z p₀ p n q nrem ->
  let r:=run (dR z) (kas_desc f p n q);Ky z p₀ r.1 r.2.1 r.2.2 nrem
 | 0,p,n,q,hn,h=>h
 | f+1,p,n,q,hn,h=>by
  intro r;have hr:r=run (dR z) (if dR z (p.getD n 0) (p.getD (n - 1) 0)=true then (if q > 0 then kas_desc f (kas_rev p (n - (q+1)) n) (n+1) 0 else kas_desc f p (n+1) 0)
   else .ask (p.getD (n - 1) 0) (p.getD n 0) λd=>if d=true then .ret (p,n,q) else kas_desc f p (n+1) (q+1)):=rfl
  have hq:=h.qn;by_cases hc:dR z (p.getD n 0) (p.getD (n - 1) 0)=true
  ·rw[yI hc] at hr;have hlt:Z z p n < Z z p (n - 1):=yN hc;have step:∀p':Array Nat,p'.Perm p₀->p'.size=p₀.size->(∀k,Z z p' k=Z z p k)->Ky z p₀ p' (n+1) 0 nrem:=λp' a1 a2 a3=>by
    refine⟨a1,a2,by lia,by lia,λa b hab hb=>?_,λa b h1 h2 h3 h4=>by rw[show a=b by lia]⟩;rw[a3,a3];by_cases hbn:b < n
    ·exact h.dn a b hab hbn
    ·have e:b=n:=by lia
     subst e;by_cases ha:a=b
     ·subst ha;exact xW _
     ·exact jP (Int.le_of_lt hlt) (h.dn a (b - 1) (by lia) (by lia))
   by_cases hq0:q > 0
   ·rw[yI hq0] at hr;rw[hr];exact Gj hz f _ (n+1) 0 (by lia) (step _ ((lg _ _ _).trans h.perm) (by rw[kg,h.size]) (vx (by rw[h.size];lia) h.eq))
   ·rw[yK hq0] at hr;rw[hr];exact Gj hz f p (n+1) 0 (by lia) (step p h.perm h.size λ_=>rfl)
  ·rw[yK hc] at hr;have hge:Z z p (n - 1)<=Z z p n:=by
    have:¬ (Z z p n < Z z p (n - 1)):=λq=>hc (zY q);lia
   have hr':r=run (dR z) (if dR z (p.getD (n - 1) 0) (p.getD n 0)=true then .ret (p,n,q) else kas_desc f p (n+1) (q+1)):=hr;by_cases hd:dR z (p.getD (n - 1) 0) (p.getD n 0)=true
   ·rw[yI hd] at hr';rw[hr'];exact h
   ·rw[yK hd] at hr';rw[hr'];have heq:Z z p n=Z z p (n - 1):=by
     have:¬ (Z z p (n - 1) < Z z p n):=λq=>hd (zY q);lia
    refine Gj hz f p (n+1) (q+1) (by lia) ⟨h.perm,h.size,by lia,by lia,λa b hab hb=>?_,λa b h1 h2 h3 h4=>?_⟩
    ·by_cases hbn:b < n
     ·exact h.dn a b hab hbn
     ·have e:b=n:=by lia
      subst e;by_cases ha:a=b
      ·subst ha;exact xW _
      ·rw[heq];exact h.dn a (b - 1) (by lia) (by lia)
    ·have key:∀c,n+1 - (q+1+1)<=c->c < n+1->Z z p c=Z z p (n - 1):=λc c1 c2=>by
      by_cases hcn:c < n
      ·exact h.eq c (n - 1) (by lia) hcn (by lia) (by lia)
      ·have e:c=n:=by lia
       subst e;exact heq
     rw[key a h1 h2,key b h3 h4]
structure NG(z:Nat->Int)(p₀:Array Nat)(nrem:Nat)(r:Nat×Array Nat):Prop where
 perm:r.2.Perm p₀
 size:r.2.size=p₀.size
 ge:1<=r.1
 le:r.1<=nrem
 up:Up z r.2 r.1
def tail3(hz:nrem<=p₀.size)(h1:1<=n)(hn:n<=nrem)(hp:p.Perm p₀)(hs:p.size=p₀.size)(hd:Dn z p n):NG z p₀ nrem (run (dR z) (kas_tail3 n nrem p)):=by
 unfold kas_tail3;rw[fZ];let⟨a,b,c,_⟩:=On (nrem - n) n h1 (Lk (by lia) hd);exact⟨(lg _ _ _).trans hp,by show (kas_rev p 0 n).size=_;rw[kg,hs],by show 1<=run _ (kas_asc _ _ _);lia,by show run _ (kas_asc _ _ _)<=nrem;lia,c⟩
def descPart(hz:nrem<=p₀.size)(h1:1<=n)(hn:n < nrem)(hp:p.Perm p₀)(hs:p.size=p₀.size)(hd:Dn z p n)(hlt:Z z p n<=Z z p (n - 1)):NG z p₀ nrem (run (dR z) (kas_descPart n nrem p)):=by
 unfold kas_descPart;rw[fZ];have D:=Gj (z:=z) hz (nrem - (n+1)) p (n+1) 0 (by lia) ⟨hp,hs,by lia,by lia,λa b hab hb=>by
  by_cases hbn:b < n
  ·exact hd a b hab hbn
  ·have e:b=n:=by lia
   subst e;by_cases ha:a=b
   ·subst ha;exact xW _
   ·exact jP hlt (hd a (b - 1) (by lia) (by lia)),λa b h1 h2 h3 h4=>by rw[show a=b by lia]⟩
 dsimp only at D;generalize run (dR z) (kas_desc (nrem - (n+1)) p (n+1) 0)=r at D;have hq:=D.qn;split
 ·exact tail3 hz (by lia) D.le ((lg _ _ _).trans D.perm) (by rw[kg,D.size]) (Dm (vx (by have:=D.size;have:=D.le;lia) D.eq) D.dn)
 ·exact tail3 hz (by lia) D.le D.perm D.size D.dn
def count(hz:nrem<=p.size)(h1:1<=nrem):NG z p nrem (run (dR z) (kas_count nrem p)):=by
 unfold kas_count;rw[fZ];let⟨a,b,c,d⟩:=On (z:=z) (p:=p) (nrem - 1) 1 (yJ _) (λx y hxy hy=>by rw[show x=y by lia];exact xW _);generalize run (dR z) (kas_asc p (nrem - 1) 1)=n at a b c d;split
 ·exact⟨Array.Perm.refl _,rfl,a,by show n<=nrem;lia,c⟩
 ·rename_i hne;have hlt:n < nrem:=by
   have:n≠nrem:=λe=>hne (by simp[e]);lia
  have hd:=d (by lia);split
  ·rename_i hn1;show NG z p nrem (run (dR z) (if dR z (p.getD 0 0) (p.getD (n - 1) 0)=true then .ret (n,p) else kas_descPart n nrem (kas_rev p 0 n)));by_cases hc:dR z (p.getD 0 0) (p.getD (n - 1) 0)=true
   ·rw[yI hc];exact⟨Array.Perm.refl _,rfl,a,by show n<=nrem;lia,c⟩
   ·rw[yK hc];have hge:Z z p (n - 1)<=Z z p 0:=by
     have:¬ (Z z p 0 < Z z p (n - 1)):=λq=>hc (zY q);lia
    have all:∀x,x < n->Z z p x=Z z p 0:=λx hx=>by
     have e1:=c 0 x (xR _) hx;have e2:=c x (n - 1) (by lia) (by lia);lia
    have same:=vx (z:=z) (p:=p) (i:=0) (j:=n) (by lia) λx y _ hx _ hy=>by rw[all x hx,all y hy]
    refine descPart hz (by lia) hlt (lg _ _ _) (by rw[kg]) (λx y hxy hy=>?_) ?_
    ·rw[same,same,all x (by lia),all y hy];exact xW _
    ·rw[same,same];lia
  ·exact descPart hz (by lia) hlt (Array.Perm.refl _) rfl (λx y hxy hy=>by rw[show x=y by lia];exact xW _) (by lia)
def place(hu:Up z p k):∀ (f l r:Nat),r - l<=f->l<=r->r<=k->(∀a,a < l->Z z p a<=Z z p k)->(∀a,r<=a->a < k->Z z p k<=Z z p a) ->
  let m:=run (dR z) (kas_place p k f l r);m<=k/\(∀a,a < m->Z z p a<=Z z p k)/\(∀a,m<=a->a < k->Z z p k<=Z z p a)
 | 0,l,r,hf,hl,hr,h1,h2=>by
  intro m;have e:l=r:=by lia
  subst e;exact⟨hr,h1,h2⟩
 | f+1,l,r,hf,hl,hr,h1,h2=>by
  intro m;have hm:m=run (dR z) (if l >= r then .ret l else .ask (p.getD k 0) (p.getD ((l+r) / 2) 0) λc=>if c=true then kas_place p k f l ((l+r) / 2) else kas_place p k f ((l+r) / 2+1) r):=rfl;by_cases hlr:l >= r
  ·rw[yI hlr] at hm;rw[hm];have e:l=r:=by lia
   subst e;exact⟨hr,h1,h2⟩
  ·rw[yK hlr] at hm;have hm':m=run (dR z) (if dR z (p.getD k 0) (p.getD ((l+r) / 2) 0)=true then kas_place p k f l ((l+r) / 2) else kas_place p k f ((l+r) / 2+1) r):=hm;by_cases hc:dR z (p.getD k 0) (p.getD ((l+r) / 2) 0)=true
   ·rw[yI hc] at hm';rw[hm'];have hlt:Z z p k < Z z p ((l+r) / 2):=yN hc;exact place hu f l ((l+r) / 2) (by lia) (by lia) (by lia) h1 λa ha hak=>jP (Int.le_of_lt hlt) (hu _ a ha hak)
   ·rw[yK hc] at hm';rw[hm'];have hge:Z z p ((l+r) / 2)<=Z z p k:=by
     have:¬ (Z z p k < Z z p ((l+r) / 2)):=λq=>hc (zY q);lia
    exact place hu f ((l+r) / 2+1) r (by lia) (by lia) hr (λa ha=>jP (hu a ((l+r) / 2) (by lia) (by lia)) hge) h2
def bin:∀ (f:Nat) (p:Array Nat) (k:Nat),p.Perm p₀->p.size=p₀.size->k+f<=p₀.size->Up z p k ->
  (run (dR z) (kas_bin f p k)).Perm p₀/\(run (dR z) (kas_bin f p k)).size=p₀.size/\Up z (run (dR z) (kas_bin f p k)) (k+f)
 | 0,p,k,hp,hs,hk,hu=>⟨hp,hs,hu⟩
 | f+1,p,k,hp,hs,hk,hu=>by
  unfold kas_bin;rw[fZ];have P:=place hu k 0 k (by lia) (by lia) (yJ _) (λa ha=>absurd ha (vD _)) λa ha hak=>absurd ha (by lia);dsimp only at P;generalize run (dR z) (kas_place p k k 0 k)=l at P;let⟨p1,p2,p3⟩:=P;have zb:=CY z (p:=p) (src:=k) (d:=k - l) (by lia) (by lia);have e:k - (k - l)=l:=by lia
  rw[e] at zb;let⟨q1,q2,q3⟩:=bin f (bubble p k (k - l)) (k+1) ((bubble_perm _ _ _).trans hp) (by rw[bubble_size,hs]) (by lia) λa b hab hb=>by
   rw[zb,zb];by_cases ha1:a=l
   ·rw[yI ha1];by_cases hb1:b=l
    ·rw[yI hb1];exact xW _
    ·rw[yK hb1];rw[yI (by lia)];exact p3 _ (by lia) (by lia)
   ·rw[yK ha1];by_cases hb1:b=l
    ·rw[yI hb1,yK (by lia)];exact p2 a (by lia)
    ·rw[yK hb1];by_cases ha2:l < a/\a<=k
     ·rw[yI ha2,yI (by lia)];exact hu _ _ (by lia) (by lia)
     ·rw[yK ha2];by_cases hb2:l < b/\b<=k
      ·rw[yI hb2];exact hu _ _ (by lia) (by lia)
      ·rw[yK hb2];exact hu _ _ hab (by lia)
  exact⟨q1,q2,by rw[show k+(f+1)=k+1+f by lia];exact q3⟩
def iU(h1:1<=n):(run (dR z) (kas_sort n)).toList.Perm (List.range n)/\((run (dR z) (kas_sort n)).toList.map z).Pairwise (·<=·):=by
 have hsz:(List.toArray (List.range n)).size=n:=by simp
 have C:=count (z:=z) (p:=List.toArray (List.range n)) (nrem:=n) (by lia) h1;have fin:∀p:Array Nat,p.Perm (List.toArray (List.range n))->p.size=n->Up z p n->p.toList.Perm (List.range n)/\(p.toList.map z).Pairwise (·<=·):=λp a b c=>by
  refine⟨by have:=a.toList;simpa using this,?_⟩;rw[List.pairwise_iff_getElem];intro i j hi hj hij;have hi':i < n:=by simpa [b] using hi
  have hj':j < n:=by simpa [b] using hj
  have:=c i j (jO hij) hj';unfold Z at this;have e1:p.getD i 0=p[i]:=by simp[Array.getD,b,hi']
  have e2:p.getD j 0=p[j]:=by simp[Array.getD,b,hj']
  rw[e1,e2] at this;simpa using this
 unfold kas_sort;rw[fZ];generalize run (dR z) (kas_count n (List.toArray (List.range n)))=r at C;let⟨k,p⟩:=r;have hs:=C.size;rw[hsz] at hs;split
 ·rename_i hlt;have hge:=C.ge;have e:max k 1=k:=by have:1<=k:=hge;lia
  rw[e];let⟨q1,q2,q3⟩:=bin (z:=z) (n - k) p k C.perm C.size (by rw[hsz];have:k < n:=hlt;lia) C.up;refine fin _ q1 (by rw[q2,hsz]) ?_;rw[show k+(n - k)=n by have:k < n:=hlt;lia] at q3;exact q3
 ·rename_i hnlt;have hle:=C.le;have e:k=n:=by have h3:k<=n:=hle;have h4:¬ k < n:=hnlt;lia
  subst e;exact fin p C.perm hs C.up
end
end SP
namespace Srt
open PySem PySem.W PySem.Calls PyProof.Rows
def outV(z:Nat->Int)(vs:List Value):List Value:=if vs.length < 2 then vs else (SP.run (SP.dR z) (kas_sort vs.length)).toList.map λi=>vs.getD i Value.none
def outV_len(z:Nat->Int)(vs:List Value):(outV z vs).length=vs.length:=by
 unfold outV;split
 ·rfl
 ·rename_i h;have:=(SP.iU (z:=z) (n:=vs.length) (by lia)).1.length_eq;simpa using this
def list_sortG{P:PySem.Fin->Shared->Prop}(ho:s.heap.get? a=some (seqObj "list" vs.toArray n))(h64:vs.length < 64)(z:Nat->Int)(κ:SortKind)
  (hk:2<=vs.length->∀h':Heap,(∀b o,b≠a->s.heap.get? b=some o->h'.get? b=some o)->∀Q':SortKind->Shared->Prop,Q' κ { s with heap:=h' }->wpAny (model prog w) A (keyKind' vs.toArray) Q' (λ_ _=>False) { s with heap:=h' })
  (hlt:2<=vs.length->∀h':Heap,(∀b o,b≠a->s.heap.get? b=some o->h'.get? b=some o)->∀i j C,i < vs.length->j < vs.length->C (SP.dR z i j) { s with heap:=h' }->kas_ask prog w A κ vs i j C { s with heap:=h' })
  (h:∀ (h':Heap) (c:Nat),(∀b o,b≠a->s.heap.get? b=some o->h'.get? b=some o)->h'.get? a=some (seqObj "list" (outV z vs).toArray c)->P (.done (.ret .none)) { s with heap:=h' }) :
  wpAny (model prog w) A (Builtin.«list.sort» ⟨[.ref a],[]⟩) P E s:=by
 rw[list_sort_plain];have ha:a < s.heap.objs.size:=zW ho;have hsl:vs.length<=sizeLine:=by rw[sizeLine_eq];lia
 refine zT (listItems_at ho rfl (zT (listUpdate_at ho rfl ?_ (by simpa using hsl) (xR _))));obtain⟨e1,ho1⟩:∃e,(s.heap.update a (Obj.mapSeq λ_=>(#[]:Array Value))).get? a=some (seqObj "list" #[] e):=⟨_,get?_update_seq ho λ_=>#[]⟩
 have kp1:∀b o,b≠a->s.heap.get? b=some o->(s.heap.update a (Obj.mapSeq λ_=>(#[]:Array Value))).get? b=some o:=λb o hb e=>(xJ _ _ (jI hb)).trans e;refine zT (seqEpoch_at ho1 rfl (zT (wpAny_newTuple ?_ (by simpa using hsl))));refine zT (wpAny_newList (xU ?_) (xR _));have ho3:(((s.heap.update a (Obj.mapSeq λ_=>(#[]:Array Value))).push (seqObj "tuple" vs.toArray 0)).push (seqObj "list" #[] 0)).get? a=some (seqObj "list" #[] e1):=zS _ (zS _ ho1);have kp3:∀b o,b≠a->s.heap.get? b=some o->(((s.heap.update a (Obj.mapSeq λ_=>(#[]:Array Value))).push (seqObj "tuple" vs.toArray 0)).push (seqObj "list" #[] 0)).get? b=some o:=λb o hb e=>zS _ (zS _ (kp1 b o hb e));show wpAny _ A _ P E { s with heap:=((s.heap.update a (Obj.mapSeq λ_=>(#[]:Array Value))).push (seqObj "tuple" vs.toArray 0)).push (seqObj "list" #[] 0) };generalize ((s.heap.update a (Obj.mapSeq λ_=>(#[]:Array Value))).push (seqObj "tuple" vs.toArray 0)).push (seqObj "list" #[] 0)=h3 at ho3 kp3;clear ho1 kp1;dsimp only;have fin:∀st':SortSt,(arrOf st').map (·.2)=(outV z vs).toArray->failedOf st'=none ->
   wpAny (model prog w) A (do
    let sorted:=(arrOf st').map (·.2);let touched:=(<- seqEpoch a) != e1
    Builtin.List.listUpdate (.ref a) λ_=>sorted
    if let some e:=failedOf st' then rule "list.sort.comparison-raised";throw e
    if touched then rule "list.sort.modified";raiseError "ValueError" "list modified during sort"
    ret .none) P E { s with heap:=h3 }:=λst' h1 h2=>by
  dsimp only;rw[h1,h2];refine zT (seqEpoch_at ho3 rfl ?_);refine zT (listUpdate_at ho3 rfl ?_ (xR _) (by show (outV z vs).toArray.size<=_;rw[zH,outV_len];lia));obtain⟨c,hc⟩:∃c,(h3.update a (Obj.mapSeq λ_=>(outV z vs).toArray)).get? a=some (seqObj "list" (outV z vs).toArray c):=⟨_,get?_update_seq ho3 λ_=>(outV z vs).toArray⟩
  have q:=h _ c (λb o hb e=>(xJ _ _ (jI hb)).trans (kp3 b o hb e)) hc;simp?[bne_self_eq_false,yL,qL];exact zU q
 by_cases h2:vs.toArray.size < 2
 ·rw[yI h2,yI h2];refine zT (zU ?_);rw[StateT.run_pure];refine zT (zU (fin _ ?_ rfl));have h2':vs.length < 2:=by simpa using h2
  unfold outV;rw[yI h2'];show ((vs.toArray.zip vs.toArray).map (·.2))=vs.toArray;apply Array.toList_inj.mp;simp?[Array.toList_map,Array.toList_zip];exact List.map_snd_zip (yJ _)
 ·rw[yK h2,yK h2];have h2':2<=vs.length:=by
   have:¬ vs.length < 2:=by simpa using h2
   lia
  refine zT (yX (hk h2' h3 kp3 (λκ' s'=>κ'=κ/\s'={ s with heap:=h3 }) ⟨rfl,rfl⟩) (λκ' s' hs=>?_) λ_ _ x=>x.elim);let⟨rfl,rfl⟩:=hs;refine zT (yX (kat_run (Q:=λst' s'=>s'={ s with heap:=h3 }/\(arrOf st').map (·.2)=(outV z vs).toArray/\failedOf st'=none) (G:=λp s'=>s'={ s with heap:=h3 }/\p=SP.run (SP.dR z) (kas_sort vs.length))
   rfl h2' h64 (λp st' s' a1 a2 a3 a4=>⟨a4.1,?_,a3⟩) (SP.wp_run (hlt h2' h3 kp3) (kas_sort vs.length) (SP.J2 (by lia)) ⟨rfl,rfl⟩)) ?_ λ_ _ e=>e)
  ·rw[kat_snds rfl a2,a4.2];unfold outV;rw[yK (by lia)]
  ·rintro⟨⟨⟩,st'⟩ s' ⟨hs,h4,h5⟩;subst hs;exact fin st' h4 h5
def Coll(h:Heap)(l:Addr)(vs:List Value):Prop:=∃ (o:Obj) (T:String) (n:Nat),(T="list"\/T="tuple")/\h.get? l=some o/\o.cls=.type T/\o.data=.seq vs.toArray n
def collectC(hl:Coll s.heap l vs)
  (h:Q vs { s with heap:=(s.heap.push (seqObj "list" #[] 0)).update s.heap.objs.size (Obj.mapSeq (·++vs.toArray)) }) (hsz:vs.length<=sizeLine):wpAny (model prog w) A (collect (.ref l)) Q E s:=by
 let⟨o,T,n,hT,ho,hc,hd⟩:=hl;unfold collect;refine zT (wpAny_runValue (jV entry_proto_collect' ?_));show wpAny _ _ (do again (.builtin "list.__iadd__" ⟨[<- newList [],.ref l],[]⟩)) _ _ s;refine zT (wpAny_newList (zU ⟨vT _ (by decide +kernel),jV entry_list_iadd' ?_⟩));show wpAny _ _ (Builtin.List.listExtendWith (.ref s.heap.objs.size) (.ref l) (.ref s.heap.objs.size)) _ _ { s with heap:=s.heap.push (seqObj "list" #[] 0) };unfold Builtin.List.listExtendWith;have ho':(s.heap.push (seqObj "list" #[] 0)).get? l=some o:=zS _ ho;refine zT (vV (T:=T) ⟨o,ho',hc⟩ ?_);rw[yI (by rcases hT with rfl|rfl<;>simp)];refine zT (listItems_at ho' hd (zT (listItems_at (xs:=#[]) (n:=0) (zV _ rfl) rfl ?_)));rw[yK (by simp)];refine zT (listUpdate_at (xs:=#[]) (n:=0) (zV _ rfl) rfl ?_ (xR _) (by show (#[]++vs.toArray).size<=sizeLine+1;simp?[Array.size_append,zH,xH];lia));refine zU ?_;refine zT (wpAny_load (get?_update_seq (zV _ rfl) _) ?_);show wpAny _ _ (pure ((#[]:Array Value)++vs.toArray).toList) Q E _;rw[show ((#[]:Array Value)++vs.toArray).toList=vs by simp];exact zU h
def sortedG{s:Shared}{Q:Value->Shared->Prop}(hl:Coll s.heap l vs)(h64:vs.length < 64)(z:Nat->Int)(κ:SortKind)
  (hk:2<=vs.length->∀h':Heap,(∀b o,s.heap.get? b=some o->h'.get? b=some o)->∀Q':SortKind->Shared->Prop,Q' κ { s with heap:=h' }->wpAny (model prog w) A.in1.in1 (keyKind' vs.toArray) Q' (λ_ _=>False) { s with heap:=h' })
  (hlt:2<=vs.length->∀h':Heap,(∀b o,s.heap.get? b=some o->h'.get? b=some o)->∀i j C,i < vs.length->j < vs.length->C (SP.dR z i j) { s with heap:=h' }->kas_ask prog w A.in1.in1 κ vs i j C { s with heap:=h' })
  (h:∀ (h':Heap) (D:Addr) (c:Nat),(∀b o,s.heap.get? b=some o->h'.get? b=some o)->s.heap.objs.size<=D->h'.get? D=some (seqObj "list" (outV z vs).toArray c)->Q (.ref D) { s with heap:=h' }) :
  wpAny (model prog w) A (call (.builtin "sorted") [.ref l]) Q E s:=by
 have hsl:vs.length<=sizeLine:=by rw[sizeLine_eq];lia
 refine Calls.call_function_entry kind_sorted plain_sorted entry_sorted (args_sorted1 _) ?_;unfold Builtin.«sorted»;refine zT (m:=checkCount "sorted" 1 1 _) (zU (zT (collectC hl ?_ hsl)));refine zT (wpAny_newList ?_ (by simpa using hsl));have hsz:((s.heap.push (seqObj "list" #[] 0)).update s.heap.objs.size (Obj.mapSeq (·++vs.toArray))).objs.size=s.heap.objs.size+1:=by rw[Heap.size_update,size_push']
 have kp:∀b o,s.heap.get? b=some o->(((s.heap.push (seqObj "list" #[] 0)).update s.heap.objs.size (Obj.mapSeq (·++vs.toArray))).push (seqObj "list" vs.toArray 0)).get? b=some o:=λb o e =>
  zS _ ((xJ _ _ (jD (zW e))).trans (zS _ e))
 have hoD:(((s.heap.push (seqObj "list" #[] 0)).update s.heap.objs.size (Obj.mapSeq (·++vs.toArray))).push (seqObj "list" vs.toArray 0)).get? (s.heap.objs.size+1)=some (seqObj "list" vs.toArray 0):=by
  rw[<- hsz];exact zV _ rfl
 show wpAny _ _ _ _ _ { s with heap:=((s.heap.push (seqObj "list" #[] 0)).update s.heap.objs.size (Obj.mapSeq (·++vs.toArray))).push (seqObj "list" vs.toArray 0) };rw[hsz];generalize ((s.heap.push (seqObj "list" #[] 0)).update s.heap.objs.size (Obj.mapSeq (·++vs.toArray))).push (seqObj "list" vs.toArray 0)=h1 at kp hoD;have kk:∀h':Heap,(∀b o,b≠s.heap.objs.size+1->h1.get? b=some o->h'.get? b=some o)->∀b o,s.heap.get? b=some o->h'.get? b=some o:=λh' q b o e=>q b o (yO (jJ (zW e))) (kp b o e);refine zT (xU (qQ slot_list_sort ⟨_,hoD,rfl⟩ entry_list_sort (list_sortG hoD h64 z κ (λa h' q=>hk a h' (kk h' q)) (λa h' q=>hlt a h' (kk h' q)) λh' c q e=>⟨_,rfl,?_⟩) (args_list_sort _)));exact zU ⟨_,rfl,h h' _ c (kk h' q) (by lia) e⟩
end Srt
namespace Dl
open PySem L2 PySem.Spec PyProof.Rows
def oK(i:Nat)(fz:List Nat)(f:Env->Option (List D)):ar->Option Out:=λρ=>(f (bW (hand fz 0 ρ))).bind λus=>oZ i (λds=>if ds.length+us.length<=sizeLine then some (ds++us) else none) (hand fz 0 ρ)
def AV(i:Nat)(fz:List Nat)(hN:X.N[i]?=some x)(hv:FA X.env.scope x)(h:DF X e f)(hd:(x == ("__debug__":Str))=false:=by decide)(hcd:(x == ("__classdict__":Str))=false:=by decide)
  (hfew:((backTo cpos (starEach [e] X.env)).all (λx=>!x.1)&&(backToKw cpos (keywordEach [] X.env)).all (λx=>x.1.isSome)&&decide ([e].length+([]:List Keyword).length+(if ([]:List Keyword).isEmpty then 0 else 1) < 30))=true:=by rfl)
  (hline:(apos.endLine == cpos.line)=true:=by rfl) (hs:starEach [e] X.env=(false,eval e X.env)::starEach [] X.env:=by rfl) :
  DS X HF₀ H₀ (.Expr (.Call (.Attribute (.Name x px) "extend" apos) [e] [] cpos) pos) (oK i fz f) :=
 bO (kr (jf qK PySem.F.slot_list_extend PySem.F.type_list_extend AL (gQ hN hv hd hcd) (bh h cA hs) rfl hfew hline hs rfl)) λE σ H ⟨HF,ρ,o,S,hg,q⟩=>by
  let⟨us,h1,hg⟩:=bs hg;let⟨ds,es,h2,h3,rfl⟩:=iT hg;let⟨HF1,s1,S1⟩:=S.hand fz;let⟨a,vs,e1,e2,e3,e5,e4⟩:=S1.own i ds h2;refine⟨.ref a,e1,.inl ⟨rfl,vs,fD.of e2⟩,HF1,_,us,S1.gr.fh,S1.frz,h1,λb ws H' HF' G hb hf h' r=>?_⟩;have S2:=S1.grow G;let⟨a',vs',f1,f2,f3,f5,f4⟩:=S2.own i ds h2;rw[e1] at f1;cases f1;split at h3
  ·rename_i hz;cases h3;exact⟨a,b,vs',ws,rfl,rfl,f2,h',by rw[f4.length,r.length];exact hz,q σ _ HF' (S2.mut h2 e1 f2 (f4.append r)) (s1.trans G.ff)⟩
  ·cases h3
def Jp(ds:List D)(k:Int)(d:D):List D:=let j:=if k < 0 then (k+(ds.length:Int)).toNat else min k.toNat ds.length;ds.take j++d::ds.drop j
def GN:V->List V->Hp->VK->Prop:=λx vs H Q=>∃l xs k y,x=.ref l/\vs=[.int k,y]/\H l=some (.lst xs)/\xs.length < sizeLine/\-(2 ^ 62)<=k/\k < 2 ^ 62 /\
 Q .non (upd H l (.lst (xs.take (if k < 0 then (k+(xs.length:Int)).toNat else min k.toNat xs.length)++y::xs.drop (if k < 0 then (k+(xs.length:Int)).toNat else min k.toNat xs.length))))
def Bw:FM X "list.insert" GN:=by
 intro pins s σ H x vs v us Q I rx rv h;let⟨l,xs,k,y,rfl,rfl,hH,hz,k1,k2,q⟩:=h;cases rx;let⟨u1,u2,rfl,⟨t,rfl⟩,ru⟩:=L2.aE.two rv;let⟨z,its,n,r,hl,e⟩:=I.lstM hH;have hfit:¬(!Builtin.List.listFitsIndex k)=true:=by
  have:Builtin.List.listFitsIndex k=true:=by
   unfold Builtin.List.listFitsIndex;simp?[zF,zJ];lia
  rw[this];simp
 refine qS F.slot_list_insert ⟨_,e,rfl⟩ F.entry_list_insert (F.args_list_insert_3 _ _ _) (AutoListH.list_insert_list_int_val_1 l its.toArray n k t u2 hfit (by rw[zH];lia)) ⟨e,?_⟩;have hlen:its.length=xs.length:=hl.symm;refine⟨.non,_,I.lset (its':=its.take (if k < 0 then (k+(xs.length:Int)).toNat else min k.toNat xs.length)++u2::its.drop (if k < 0 then (k+(xs.length:Int)).toNat else min k.toNat xs.length)) hH e ?_ ((r.take _).append (.cons ru (r.drop _))) ?_,rfl,q⟩
 ·dsimp only;rw[zH,hlen];apply Array.toList_inj.mp;simp;exact jZ (by rw[qE,hlen];exact yJ _)
 ·rw[zN,zL,jR,qE];lia
def Mg(i:Nat)(fz:List Nat)(fk f:Env->Option D):ar->Option Out:=λρ=>(fk (aL ρ)).bind λkd=>match kd with
 | .int k=>(nH fz f ρ).bind λp=>oZ i (λds=>if oX k=true/\ds.length < sizeLine then some (Jp ds k p.1) else none) p.2
 | _=>none
def Bl(i:Nat)(fz:List Nat)(hN:X.N[i]?=some x)(hv:FA X.env.scope x)(hk:DE X e fk)(h:DE X e2 f)(hd:(x == ("__debug__":Str))=false:=by decide)(hcd:(x == ("__classdict__":Str))=false:=by decide)
  (hfew:((backTo cpos (starEach [e,e2] X.env)).all (λx=>!x.1)&&(backToKw cpos (keywordEach [] X.env)).all (λx=>x.1.isSome)&&decide ([e,e2].length+([]:List Keyword).length+(if ([]:List Keyword).isEmpty then 0 else 1) < 30))=true:=by rfl)
  (hline:(apos.endLine == cpos.line)=true:=by rfl) (hs:starEach [e,e2] X.env=(false,eval e X.env)::starEach [e2] X.env:=by rfl) (hs2:starEach [e2] X.env=(false,eval e2 X.env)::starEach [] X.env:=by rfl) :
  DS X HF₀ H₀ (.Expr (.Call (.Attribute (.Name x px) "insert" apos) [e,e2] [] cpos) pos) (Mg i fz fk f) :=
 bO (kr (jf qK PySem.F.slot_list_insert PySem.F.type_list_insert Bw (gQ hN hv hd hcd) (bh hk (bh h cA hs2) hs) rfl hfew hline hs (by rw[hs2];rfl))) λE σ H ⟨HF,ρ,o,S,hg,q⟩=>by
  let⟨kd,hkd,hg⟩:=bs hg;cases kd<;>try cases hg
  rename_i k;let⟨⟨d,ρ'⟩,h1,hg⟩:=bs hg;let⟨ds,es,h2,h3,rfl⟩:=iT hg;have hown:∃ds',ρ[i]?=some (.own ds'):=by
   let⟨d1,_,h1⟩:=bs h1;split at h1
   ·cases h1;exact⟨ds,h2⟩
   ·let⟨d2,_,h1⟩:=ag h1;cases h1;rw[iy] at h2;let⟨s,hs,h2⟩:=ag h2;cases s with
    | non=>split at h2<;>cases h2
    | dic _=>split at h2<;>cases h2
    | val _=>split at h2<;>cases h2
    | own xs=>exact⟨xs,hs⟩
  let⟨ds',hown⟩:=hown;let⟨a,vs,e1,e2,e3,e5,e4⟩:=S.own i ds' hown;refine⟨.ref a,e1,.inl ⟨rfl,vs,fD.of e2⟩,H,aL ρ,_,.refl _,S.all,hkd,λvk Hk HFk Gk rk=>?_⟩;simp?[Rep] at rk;subst rk;refine lS (S.step Gk.hh) h1 λv H' HF' s1 S' sh r=>?_;let⟨a',vs',f1,f2,f3,f5,f4⟩:=S'.own i ds h2;rw[e1] at f1;cases f1;split at h3
  ·rename_i hz;cases h3;have ok:=hz.1;unfold oX at ok;rw[zF] at ok;refine⟨a,vs',k,v,rfl,rfl,f2,by rw[f4.length];exact hz.2,yN ok.1,yN ok.2,q σ _ HF' (S'.mut h2 e1 f2 ?_) s1⟩;unfold Jp;rw[f4.length];exact (f4.take _).append (au.cons r (f4.drop _))
  ·cases h3
def gF:D->D->Option (List D)
 | .list xs,.list ys=>small (xs++ys)
 | _,_=>none
def C0(K:W.Frag):R2:=λx y H Q=>∃a b xs ys,x=.ref a/\y=.ref b/\fD K H a xs/\fD K H b ys/\xs.length+ys.length<=sizeLine/\∀p,H p=none->Q (.ref p) (upd H p (.lst (xs++ys)))
def ow:eC X (binaryOp .Add) (C0 X.K):=by
 intro pins s σ H x y v u Q I rx ry h;let⟨a,b,xs,ys,rfl,rfl,ha,hb,hz,q⟩:=h;cases rx;cases ry;let⟨its,r1,p1,_⟩:=I.list ha;let⟨its2,r2,p2,_⟩:=I.list hb;let⟨⟨cls,dd,data,sl⟩,ho,hc,n,hd⟩:=id p1.isList;let⟨⟨cls2,dd2,data2,sl2⟩,ho2,hc2,n2,hd2⟩:=id p2.isList;simp only at hc hd hc2 hd2;subst hc hd hc2 hd2;refine vW ⟨_,ho,rfl⟩ ⟨_,ho2,rfl⟩ noFill_list_add seq_list_add PySem.F.slot_list_add PySem.F.entry_list_add (PySem.F.args_list_add_2 _ _) (list_addW a b its.toArray its2.toArray n n2 dd dd2 sl sl2 (by rw[zH,zH,<- r1.length,<- r2.length];exact hz)) ⟨ho,ho2,?_⟩;have e:its.toArray++its2.toArray=(its++its2).toArray:=by simp
 rw[e];exact⟨.ref s.heap.objs.size,_,I.lnew (t':=s.toks) (r1.append r2) (by rw[zN];exact hz),rfl,q _ I.fresh⟩
def pU(g:D->D->Option (List D))(f1 f2:Env->Option D):Env->Option (List D):=λρ=>(f1 ρ).bind λx=>(f2 ρ).bind λy=>g x y
def JH(ha:DE X a fa)(hb:DE X b fb):DF X (.BinOp a .Add b pos) (pU gF fa fb):=aG (w8 ow ha hb) λσ H Q ⟨HF,ρ,d,sm,eo,hf,q⟩=>by
 let⟨x,hx,hf⟩:=bs hf;let⟨y,hy,hg⟩:=bs hf;refine⟨HF,ρ,x,sm,eo,hx,λv1 H1 HF1 g1 r1=>⟨HF1,ρ,y,g1.fh,eo.mono g1.ff,hy,λv2 H2 HF2 g2 r2=>?_⟩⟩;have r1:=r1.mono g2.ff;cases x<;>cases y<;>simp?[gF] at hg<;>try cases hg
 rename_i xs ys;let⟨rfl,hz⟩:=dz hg;simp?[Rep] at r1 r2;let⟨a,vs,rfl,ha,ra⟩:=r1;let⟨b,us,rfl,hb,rb⟩:=r2;have G:=g1.trans g2;exact⟨a,b,vs,us,rfl,rfl,g2.fh.seq ha,g2.fh.seq hb,by rw[ra.length,rb.length,<- zN];exact hz,λp hp=>q p _ _ HF2 (G.trans (.own G.fh hp)) (G.hh.free hp) (G.fh.free hp) aD (ra.append rb)⟩
def boolsOf:List D->Option (List Bool)
 | []=>some []
 | .bool b::r=>(boolsOf r).map (b::·)
 | _::_=>none
def gO:∀ {ds:List D}{bs:List Bool},boolsOf ds=some bs->ds=bs.map PyData.bool
 | [],bs,h=>by cases h;rfl
 | d::r,bs,h=>by
  cases d<;>simp?[boolsOf] at h<;>try cases h
  let⟨bs',h1,rfl⟩:=ag h;rw[gO h1];rfl
def dw{K:W.Frag}:∀ {bs:List Bool}{vs:List V},au K H (bs.map PyData.bool) vs->vs=bs.map V.bl
 | [],vs,h=>h.nil_inv
 | b::bs,vs,h=>by
  let⟨v,r,rfl,a,c⟩:=h.cons_inv;simp?[Rep] at a;rw[a,dw c];rfl
def jh:∀ {bs:List Bool}{us:List Value},aE (bs.map V.bl) us->us=bs.map Value.bool
 | [],us,h=>by cases h;rfl
 | b::bs,us,h=>by
  cases h with
  | cons r rr=>cases r;rw[jh rr];rfl
def range_all(bs:List Bool):(List.range bs.length).all (λi=>bs.getD i false)=bs.all id:=by
 induction bs with
 | nil=>rfl
 | cons b bs ih=>rw[zL,vA,xP,List.all_map,xP];simpa [vZ] using qX (b&&·) ih
def range_any(bs:List Bool):(List.range bs.length).any (λi=>bs.getD i false)=bs.any id:=by
 induction bs with
 | nil=>rfl
 | cons b bs ih=>rw[zL,vA,kP,List.any_map,kP];simpa [vZ] using qX (b||·) ih
def wQ(hc:X.calm=true):cK X (.builtin "all") (λxs H Q=>∃ (a:Addr) (bs:List Bool),xs=[.ref a]/\fD X.K H a (bs.map V.bl)/\Q (.bl (bs.all id)) H):=by
 intro pins s σ H xs us Q I r h;let⟨a,bs,rfl,hq,q⟩:=h;let⟨u,rfl,rx⟩:=vals1 r;cases rx;let⟨its,rv,pl,hz⟩:=I.list hq;have hv:=jh rv;subst hv;have hh:X.A.in1.handled=none:=I.ok.hd hc;refine call_all_walk (qG pl.isList ?_);let⟨o,ho,hcl,n,hd⟩:=pl.isList;have hne:a≠s.heap.objs.size:=yO (zW ho);refine⟨_,_,_,_,_,_,λi=>bs.getD i false,rfl,Walks.list hh s.heap.objs.size a hne (bs.map Value.bool).toArray,⟨⟨_,zV _ rfl,rfl,rfl⟩,pl.isList.push _⟩,λi v s' Q' E' hP hQ=>?_,λh' tk kp=>?_⟩
 ·have e:v=Value.bool (bs.getD i false):=by
   have hP:(bs.map Value.bool).toArray[i]?=some v:=hP;rw[vI,zO] at hP;let⟨b,hb,rfl⟩:=ag hP;rw[zG,hb];rfl
  subst e;exact xS hQ
 ·refine⟨.bl (bs.all id),H,?_,?_,q⟩
  ·exact I.kept (t':=tk) λb o' e=>kp b o' (by simp;exact yO (zW e)) (zS _ e)
  ·show Value.bool _=Value.bool _;have:=range_all bs;simp?[zH,zD];rw[this]
def kf:List D->Option D:=λds=>(oneOf ds).bind λd=>match d with
 | .list es=>(boolsOf es).map λbs=>.bool (bs.all id)
 | _=>none
def Le(hc:X.calm=true)(B:my X "all" (.builtin "all"))(ha:DA X [e] fs)(he:starEach [e] X.env=(false,eval e X.env)::starEach [] X.env:=by rfl):DE X (.Call (.Name "all" p) [e] [] pos) (aU kf fs) :=
 gy (wQ hc) (by
  intro HF H ds vs d Q sm r hg q;let⟨x,hx,hg⟩:=bs hg;rw[e8 hx] at r;cases x<;>try cases hg
  let⟨bs,hb,rfl⟩:=ag hg;let⟨v,r',rfl,a,b⟩:=r.cons_inv;rw[b.nil_inv];simp?[Rep] at a;let⟨p,us,rfl,h,rr⟩:=a;rw[gO hb] at rr;have:=dw rr;subst this;exact⟨p,bs,rfl,sm.seq h,q _ H HF (.refl sm) (by simp[Rep])⟩) B ha (by decide) (by decide) he rfl
abbrev lexLt:=HT.lexLt
def eO:∀a:List Int,lexLt a a=false
 | []=>rfl
 | x::a=>by show HT.lexLt (x::a) (x::a)=false;rw[HT.dq,yI rfl];exact eO a
def dA:∀ {a b c:List Int},lexLt a b=true->lexLt b c=true->lexLt a c=true
 | [],[],_,h,_=>by cases h
 | [],_::_,[],_,h=>by cases h
 | [],_::_,_::_,_,_=>rfl
 | _::_,[],_,h,_=>by cases h
 | _::_,_::_,[],_,h=>by cases h
 | x::a,y::b,z::c,h1,h2=>by
  have h1:HT.lexLt (x::a) (y::b)=true:=h1;have h2:HT.lexLt (y::b) (z::c)=true:=h2;show HT.lexLt (x::a) (z::c)=true;rw[HT.dq] at h1 h2 ⊢;by_cases e1:x=y
  ·rw[yI e1] at h1;by_cases e2:y=z
   ·rw[yI e2] at h2;rw[yI (e1.trans e2)];exact dA h1 h2
   ·rw[yK e2] at h2;rw[yK (by lia)];have:=yN h2;exact zY (by lia)
  ·rw[yK e1] at h1;have q1:=yN h1;by_cases e2:y=z
   ·rw[yK (by lia)];exact zY (by lia)
   ·rw[yK e2] at h2;have q2:=yN h2;rw[yK (by lia)];exact zY (by lia)
def gc:∀ {a b:List Int},lexLt a b=false->lexLt b a=false->a=b
 | [],[],_,_=>rfl
 | [],_::_,h,_=>by cases h
 | _::_,[],_,h=>by cases h
 | x::a,y::b,h1,h2=>by
  have h1:HT.lexLt (x::a) (y::b)=false:=h1;have h2:HT.lexLt (y::b) (x::a)=false:=h2;rw[HT.dq] at h1 h2;by_cases e:x=y
  ·rw[yI e] at h1;rw[yI e.symm] at h2;rw[e,gc h1 h2]
  ·rw[yK e] at h1;rw[yK (λz=>e z.symm)] at h2;have:=of_decide_eq_false h1;have:=of_decide_eq_false h2;lia
def lexLe(a b:List Int):Bool:=!lexLt b a
def uG(a b c:List Int)(h1:lexLe a b=true)(h2:lexLe b c=true):lexLe a c=true:=by
 unfold lexLe at *;rw[yM] at *;cases e:lexLt c a with
 | false=>rfl
 | true =>
  cases e1:lexLt a b with
  | true=>rw[dA e e1] at h2;cases h2
  | false =>
   have:=gc e1 h1;subst this;rw[e] at h2;cases h2
def uH(a b:List Int):(lexLe a b||lexLe b a)=true:=by
 unfold lexLe;cases e1:lexLt b a with
 | false=>rfl
 | true =>
  cases e2:lexLt a b with
  | false=>rfl
  | true=>have:=dA e1 e2;rw[eO] at this;cases this
def nX(h1:lexLe a b=true)(h2:lexLe b a=true):a=b:=by
 unfold lexLe at *;rw[yM] at *;exact gc h2 h1
def o8{α:Type}{le:α->α->Bool}(anti:∀a b,le a b=true->le b a=true->a=b):∀ {l m:List α},l.Perm m->l.Pairwise (λa b=>le a b=true)->m.Pairwise (λa b=>le a b=true)->l=m
 | [],m,p,_,_=>p.nil_eq
 | a::l,[],p,_,_=>by have:=p.length_eq;simp at this
 | a::l,b::m,p,h1,h2=>by
  let⟨h1a,h1b⟩:=List.pairwise_cons.mp h1;let⟨h2a,h2b⟩:=List.pairwise_cons.mp h2;have e:a=b:=by
   have ha:a∈b::m:=p.mem_iff.mp zE;have hb:b∈a::l:=p.mem_iff.mpr zE;rcases List.mem_cons.mp ha with e|ha
   ·exact e
   ·rcases List.mem_cons.mp hb with e|hb
    ·exact e.symm
    ·exact anti a b (h1a b hb) (h2a a ha)
  subst e;rw[o8 anti (List.perm_cons a |>.mp p) h1b h2b]
def oD(l:List (List Int)):List (List Int):=l.mergeSort lexLe
def DM(l:List (List Int)):(oD l).Perm l:=List.mergeSort_perm l lexLe
def JO(l:List (List Int)):(oD l).Pairwise (λa b=>lexLe a b=true):=List.pairwise_mergeSort uG uH l
def D1{l:List (List Int)}(p:l.Perm m)(h:l.Pairwise (λa b=>lexLe a b=true)):l=oD m:=o8 (λ_ _=>nX) (p.trans (DM m).symm) h (JO m)
def rk(l:List (List Int))(a:List Int):Int:=((l.countP λb=>lexLt b a:Nat):Int)
def IV(ha:a∈l):lexLt a b=decide (rk l a < rk l b):=by
 unfold rk;have mono:∀ {a b:List Int},lexLt a b=true->(l.countP λc=>lexLt c a)<=l.countP λc=>lexLt c b:=λ{a b} h=>List.countP_mono_left λc _ hc=>dA hc h;have strict:∀ {a b:List Int}(ha:a∈l),lexLt a b=true->(l.countP λc=>lexLt c a) < l.countP λc=>lexLt c b:=λ{a b} ha h=>by
  have key:∀m:List (List Int),a∈m->(m.countP λc=>lexLt c a) < m.countP λc=>lexLt c b:=λm hm=>by
   induction m with
   | nil=>cases hm
   | cons x m ih =>
    rw[List.countP_cons,List.countP_cons];have mo:(m.countP λc=>lexLt c a)<=m.countP λc=>lexLt c b:=List.countP_mono_left λc _ hc=>dA hc h;rcases List.mem_cons.mp hm with e|hm
    ·subst e;rw[eO,h];simp?[yL,qL,xE];lia
    ·have:=ih hm;by_cases hx:lexLt x a=true
     ·rw[hx,dA hx h];simp?[xE];lia
     ·have hx':lexLt x a=false:=by simpa using hx
      rw[hx'];simp?[yL,qL];split<;>lia
  exact key l ha
 cases e:lexLt a b with
 | true=>exact (zY (by have:=strict ha e;lia)).symm
 | false =>
  refine (zX ?_).symm;cases e2:lexLt b a with
  | true=>have:=mono e2;lia
  | false=>rw[gc e e2];lia
section
variable {prog:Program}{w:World}{A:Around}{E:Value->Shared->Prop}{s:Shared}
def t9:∀ {us ws:List Value}{ns ms:List Int}(i:Nat),IntsAre us ns->IntsAre ws ms->Q (lexLt ns ms) s->W.KatLex prog w A true (decide (ns.length < ms.length)) Q (us.zip ws) i s
 | [],[],_,_,i,.nil,.nil,h=>h
 | [],_::_,_,_,i,.nil,.cons _ _ _,h=>by
  show Q (decide (0 < _+1)) s;rw[zY (Nat.succ_pos _)];exact h
 | _::_,[],_,_,i,.cons _ _ _,.nil,h=>by
  show Q (decide (_+1 < 0)) s;rw[zX (vD _)];exact h
 | _::us,_::ws,_,_,i,.cons n t r1,.cons m u r2,h=>by
  have h:Q (HT.lexLt (n::_) (m::_)) s:=h;rw[HT.dq] at h;refine W.kat_cons (SeqAt.EqAt.int_int n t m u prog w _ _ ?_);cases e:(n == m) with
  | true =>
   have e':n=m:=eq_of_beq e;rw[yI e'] at h;refine W.kat_yes ?_;have:=t9 (i+1) r1 r2 h;simp?[zL,Nat.add_lt_add_iff_right];exact this
  | false =>
   have e':¬ n=m:=λq=>by rw[q] at e;simp at e
   rw[yK e'] at h;refine W.kat_no ?_;by_cases hi:(true&&i == 0)=true
   ·rw[hi];exact oneLt_int h
   ·have hi':(true&&i == 0)=false:=by simpa using hi
    rw[hi'];refine W.kat_one _ _ (lt_int ?_);exact h
end
def ak(ns:List Int):D:=.tuple (ns.map PyData.int)
def intsOf:List D->Option (List Int)
 | []=>some []
 | .int n::r=>(intsOf r).map (n::·)
 | _::_=>none
def cP:∀ {ds:List D}{ns:List Int},intsOf ds=some ns->ds=ns.map PyData.int
 | [],ns,h=>by cases h;rfl
 | d::r,ns,h=>by
  cases d<;>simp?[intsOf] at h<;>try cases h
  let⟨ns',h1,rfl⟩:=ag h;rw[cP h1];rfl
def eS:∀ns:List Int,intsOf (ns.map PyData.int)=some ns
 | []=>rfl
 | n::ns=>by simp[intsOf,eS ns]
def yt:D->Option (List Int)|.tuple ds=>(intsOf ds).bind λns=>if ns=[] then none else some ns|_=>none
def va(h:yt d=some ns):d=ak ns/\ns≠[]:=by
 cases d<;>try cases h
 let⟨ms,h1,h2⟩:=bs h;split at h2
 ·cases h2
 ·rename_i hn;cases h2;rw[cP h1];exact⟨rfl,hn⟩
def Bo(h:ns≠[]):yt (ak ns)=some ns:=by
 unfold ak yt;simp?[eS,zA];rw[yK h]
def rowsOf:List D->Option (List (List Int))
 | []=>some []
 | d::r=>(yt d).bind λns=>(rowsOf r).map (ns::·)
def mz:∀ {ds:List D}{nss:List (List Int)},rowsOf ds=some nss->ds=nss.map ak/\∀ns∈nss,ns≠[]
 | [],nss,h=>by cases h;exact⟨rfl,λ_ z=>by cases z⟩
 | d::r,nss,h=>by
  let⟨ns,h1,h⟩:=bs h;let⟨rest,h2,rfl⟩:=ag h;let⟨e,hn⟩:=va h1;let⟨e2,hn2⟩:=mz h2;refine⟨by rw[e,e2];rfl,λm hm=>?_⟩;rcases List.mem_cons.mp hm with q|q
  ·subst q;exact hn
  ·exact hn2 m q
def m7:∀ {nss:List (List Int)},(∀ns∈nss,ns≠[])->rowsOf (nss.map ak)=some nss
 | [],_=>rfl
 | ns::r,h=>by
  simp?[zI,rowsOf,Bo (h ns zE),zA,m7 λm hm=>h m (zC _ hm),zB]
structure tI(h:Heap)(v:Value)(ns:List Int):Prop where
 ex:∃ (a:Addr) (o:Obj) (its:Array Value) (n:Nat),v=.ref a/\h.get? a=some o/\o.cls=.type "tuple"/\o.data=.seq its n/\IntsAre its.toList ns
def tI.keep(r:tI h v ns)(k:∀b o,h.get? b=some o->h'.get? b=some o):tI h' v ns:=let ⟨a,o,its,n,e,e1,e2,e3,e4⟩:=r.ex;⟨a,o,its,n,e,k _ _ e1,e2,e3,e4⟩
def uB:∀ {vs:List Value}{nss:List (List Int)},Paired (tI h) vs nss->(∀ns∈nss,ns≠[])->∃fs:List Value,W.KatTups h vs fs/\fs.length=vs.length/\∀f∈fs,∃n t,f=Value.int n t
 | _,_,.nil,_=>⟨[],trivial,rfl,λ_ z=>by cases z⟩
 | _,_,.cons (a:=v) (b:=ns) r p,hn=>by
  let⟨fs,h1,h2,h3⟩:=uB p λm hm=>hn m (zC _ hm);let⟨a,o,its,n,rfl,e1,e2,e3,e4⟩:=r.ex;cases hits:its.toList with
  | nil =>
   rw[hits] at e4;cases e4;exact absurd rfl (hn [] zE)
  | cons f rest =>
   rw[hits] at e4;cases e4 with
   | cons m t e5 =>
    have h0:its[0]?=some (.int m t):=by
     have:its.toList[0]?=some (Value.int m t):=by rw[hits];rfl
     simpa using this
    exact⟨.int m t::fs,W.KatTups.cons e1 e2 e3 h0 h1,by simp[h2],λg hg=>by
     rcases List.mem_cons.mp hg with q|q
     ·exact⟨m,t,q⟩
     ·exact h3 g q⟩
def js:∀ {l:List α}{m:List β}{i:Nat},Paired R l m->i < l.length->R (l.getD i d) (m.getD i d')
 | _,_,i,.nil,h=>by simp at h
 | _,_,0,.cons r _,_=>r
 | _,_,i+1,.cons _ p,h=>by simpa using js (i:=i) (d:=d) (d':=d') p (by simpa using h)
def uo(hl:Srt.Coll s.heap l vs)(hp:Paired (tI s.heap) vs nss)(hn:∀ns∈nss,ns≠[])(h64:vs.length < 64)
  (h:∀ (h':Heap) (D:Addr) (c:Nat),(∀b o,s.heap.get? b=some o->h'.get? b=some o)->s.heap.objs.size<=D->h'.get? D=some (seqObj "list" (Srt.outV (λi=>rk nss (nss.getD i [])) vs).toArray c)->Q (.ref D) { s with heap:=h' }) :
  wpAny (model prog w) A (call (.builtin "sorted") [.ref l]) Q E s:=by
 refine Srt.sortedG hl h64 (λi=>rk nss (nss.getD i [])) (tuples' true) (λh2 h' kp Q' q=>?_) (λh2 h' kp i j C hi hj q=>?_) h
 ·have hp':Paired (tI h') vs nss:=Paired.mapP hp λ_ _ r=>r.keep kp;let⟨fs,t,hlen,hf⟩:=uB hp' hn;refine W.kat_kind (s:={ s with heap:=h' }) (T:=.type "int") t (by lia) (λv hv=>?_) (by decide) q;let⟨n,t,rfl⟩:=hf v hv;exact W.Looks.of_pure rfl
 ·have ri:=(js (d:=Value.none) (d':=[]) hp hi).keep kp;have rj:=(js (d:=Value.none) (d':=[]) hp hj).keep kp;have hlen:=hp.length;let⟨a,o,its,n,ea,e1,e2,e3,e4⟩:=ri.ex;let⟨b,o',its',n',eb,f1,f2,f3,f4⟩:=rj.ex;unfold W.kas_ask;rw[ea,eb];have hmem:nss.getD i []∈nss:=by
   rw[zG,zK (by lia)];exact xX _
  have q':C (lexLt (nss.getD i []) (nss.getD j [])) { s with heap:=h' }:=by
   rw[IV hmem];exact q
  refine W.kat_lt (s:={ s with heap:=h' }) e1 e3 f1 f3 ?_;have:=t9 (prog:=prog) (w:=w) (A:=A.in1.in1) (s:={ s with heap:=h' }) 0 e4 f4 q';have l1:its.size=(nss.getD i []).length:=by have:=IntsAre.length e4;simpa using this
  have l2:its'.size=(nss.getD j []).length:=by have:=IntsAre.length f4;simpa using this
  rw[l1,l2];exact this
def BH(z:Nat->Int)(l:List α)(d:α):List α:=if l.length < 2 then l else (SP.run (SP.dR z) (W.kas_sort l.length)).toList.map λi=>l.getD i d
def iK(l:List α)(d:α):(List.range l.length).map (λi=>l.getD i d)=l:=by
 apply jC
 ·simp
 ·intro i h1 h2;simp[h2]
def sQ(z:Nat->Int)(l:List α)(d:α):(BH z l d).Perm l:=by
 unfold BH;split
 ·exact List.Perm.refl _
 ·rename_i h;have:=((SP.iU (z:=z) (n:=l.length) (by lia)).1).map λi=>l.getD i d;rw[iK] at this;exact this
def GF(nss:List (List Int)):BH (λi=>rk nss (nss.getD i [])) nss []=oD nss:=by
 refine D1 (sQ _ _ _) ?_;unfold BH;split
 ·rename_i h
  match nss,h with
  | [],_=>exact List.Pairwise.nil
  | [a],_=>exact List.pairwise_singleton _ _
 ·rename_i h;let⟨hp,hs⟩:=SP.iU (z:=λi=>rk nss (nss.getD i [])) (n:=nss.length) (by lia);rw[qZ] at hs ⊢;refine hs.imp_of_mem λ{i j} hi hj hij=>?_;have hj':j < nss.length:=by have:=hp.mem_iff.mp hj;simpa using this
  unfold lexLe;rw[IV (l:=nss) (a:=nss.getD j []) (by rw[zG,zK hj'];exact xX _)];simp?[yM,yY];lia
def ED{K:W.Frag}(z:Nat->Int)(r:au K HF ds vs):au K HF (BH z ds .none) (BH z vs .non):=by
 unfold BH;rw[r.length];split
 ·exact r
 ·rename_i h;let⟨hp,_⟩:=SP.iU (z:=z) (n:=ds.length) (by lia);have key:∀l:List Nat,(∀i∈l,i < ds.length)->au K HF (l.map λi=>ds.getD i .none) (l.map λi=>vs.getD i .non):=λl=>by
   induction l with
   | nil=>exactλ_=>au.nil
   | cons i l ih =>
    intro hl;have hi:=hl i zE;let⟨v,e1,e2⟩:=r.getD (zK hi);refine au.cons ?_ (ih λj hj=>hl j (zC _ hj));dsimp only;rw[zG,zG,e1,zK hi];exact e2
  exact key _ λi hi=>by have:=hp.mem_iff.mp hi;simpa using this
def B8(z:Nat->Int)(r:aE vs us):aE (BH z vs .non) (Srt.outV z us):=by
 unfold BH Srt.outV;rw[r.length];split
 ·exact r
 ·rename_i h;let⟨hp,_⟩:=SP.iU (z:=z) (n:=us.length) (by lia);have key:∀l:List Nat,(∀i∈l,i < vs.length)->aE (l.map λi=>vs.getD i .non) (l.map λi=>us.getD i Value.none):=λl=>by
   induction l with
   | nil=>exactλ_=>.nil
   | cons i l ih =>
    intro hl;have hi:=hl i zE;let⟨v,e1,e2⟩:=r.get (zK hi);refine .cons ?_ (ih λj hj=>hl j (zC _ hj));dsimp only;rw[zG,zG,e1,zK hi];exact e2
  exact key _ λi hi=>by have:=hp.mem_iff.mp hi;rw[r.length];simpa using this
def G0(z:Nat->Int)(nss:List (List Int)):BH z (nss.map ak) .none=(BH z nss []).map ak:=by
 unfold BH;rw[zD];split
 ·rfl
 ·rename_i h;rw[zM];let⟨hp,_⟩:=SP.iU (z:=z) (n:=nss.length) (by lia);refine yG λi hi=>?_;have hi':i < nss.length:=by have:=hp.mem_iff.mp hi;simpa using this
  simp[hi']
def Af(I:Inv X pins σ H s)(sm:aH HF H):∀ {nss:List (List Int)}{vs:List V}{us:List Value},au X.K HF (nss.map ak) vs->aE vs us->Paired (tI s.heap) us nss
 | [],_,_,h,r=>by rw[h.nil_inv] at r;cases r;exact .nil
 | ns::nss,_,_,h,r=>by
  let⟨v,vr,rfl,a,b⟩:=h.cons_inv;cases r with
  | cons r rr =>
   refine .cons ?_ (Af I sm b rr);unfold ak at a;simp?[Rep] at a;let⟨p,ws,rfl,hs,rw'⟩:=a;cases r;let⟨its,rv,⟨o,ho,hc,n,hd⟩,_⟩:=I.tuple (ay sm hs);have:ws=ns.map V.int:=by
    have key:∀ {ns:List Int}{ws:List V},au X.K HF (ns.map PyData.int) ws->ws=ns.map V.int:=λ{ns}=>by
     induction ns with
     | nil=>exactλh=>h.nil_inv
     | cons n ns ih =>
      intro ws h;let⟨v,r,rfl,a,b⟩:=h.cons_inv;simp?[Rep] at a;rw[a,ih b];rfl
    exact key rw'
   subst this;exact⟨p,o,its.toArray,n,rfl,ho,hc,hd,intsAre_of rv⟩
def ly:cK X (.builtin "sorted") (λxs H Q=>∃ (HF:Hp) (a:Addr) (vs:List V) (nss:List (List Int)),xs=[.ref a]/\aH HF H/\(fD X.K HF a vs\/eZ X.K HF a vs)/\au X.K HF (nss.map ak) vs/\(∀ns∈nss,ns≠[])/\nss.length < 64 /\
  ∀ (Dn:Addr) (us:List V),H Dn=none->au X.K HF ((oD nss).map ak) us->Q (.ref Dn) (upd H Dn (.lst us))):=by
 intro pins s σ H xs us Q I r h;let⟨HF,a,vs,nss,rfl,sm,hq,rr,hn,h64,q⟩:=h;let⟨u,rfl,rx⟩:=vals1 r;cases rx;obtain⟨its,rv,pl,hz⟩:∃its:List Value,aE vs its/\Srt.Coll s.heap a its/\vs.length<=sizeLine:=by
  rcases hq with hq|hq
  ·let⟨its,rv,pl,hz⟩:=I.list (sm.seq hq);let⟨o,ho,hc,n,hd⟩:=pl.isList;exact⟨its,rv,⟨o,"list",n,.inl rfl,ho,hc,hd⟩,hz⟩
  ·let⟨its,rv,pl,hz⟩:=I.tuple (ay sm hq);let⟨o,ho,hc,n,hd⟩:=(show s.heap.IsTuple a its.toArray from pl)
   exact⟨its,rv,⟨o,"tuple",n,.inr rfl,ho,hc,hd⟩,hz⟩
 have hl1:=rr.length;rw[zD] at hl1;refine uo pl (Af I sm rr rv) hn (by have:=rv.length;lia) λh' Dn c kp hD e=>?_;have hv:=B8 (λi=>rk nss (nss.getD i [])) rv;have hr:=ED (λi=>rk nss (nss.getD i [])) rr;rw[G0,GF] at hr;refine⟨.ref Dn,_,I.laid (t':=s.toks) (o:=.lst (BH (λi=>rk nss (nss.getD i [])) vs .non)) kp hD ⟨?_,_,c,hv,e⟩,rfl,q Dn _ (I.hok.fresh hD) hr⟩;rw[(sQ _ _ _).length_eq];exact hz
def fA:List D->Option (List D):=λds=>(oneOf ds).bind λd=>match d with
 | .list es=>(rowsOf es).bind λnss=>if nss.length < 64 then some ((oD nss).map ak) else none
 | .tuple es=>(rowsOf es).bind λnss=>if nss.length < 64 then some ((oD nss).map ak) else none
 | _=>none
def BI(B:my X "sorted" (.builtin "sorted"))(ha:DA X [e] fs)(he:starEach [e] X.env=(false,eval e X.env)::starEach [] X.env:=by rfl):DF X (.Call (.Name "sorted" p) [e] [] pos) (eQ fA fs) :=
 E2 ly (by
  intro HF H ds vs d Q sm r hg q;let⟨x,hx,hg⟩:=bs hg;rw[e8 hx] at r;have key:∀ (b:Bool) (es:List D),au X.K HF [if b then .tuple es else .list es] vs->((rowsOf es).bind λnss=>if nss.length < 64 then some ((oD nss).map ak) else none)=some d->(∃ (HF:Hp) (a:Addr) (us:List V) (nss:List (List Int)),vs=[.ref a]/\aH HF H/\(fD X.K HF a us\/eZ X.K HF a us)/\au X.K HF (nss.map ak) us/\(∀ns∈nss,ns≠[])/\nss.length < 64/\∀ (Dn:Addr) (ws:List V),H Dn=none->au X.K HF ((oD nss).map ak) ws->Q (.ref Dn) (upd H Dn (.lst ws))):=λb es r hg=>by
   let⟨nss,hb,hg⟩:=bs hg;split at hg
   ·rename_i h64;cases hg;let⟨v,r',rfl,a,e0⟩:=r.cons_inv;rw[e0.nil_inv];let⟨e1,e2⟩:=mz hb;obtain⟨p,us,rfl,h,rr⟩:∃p us,v=.ref p/\(fD X.K HF p us\/eZ X.K HF p us)/\au X.K HF es us:=by
     cases b
     ·simp?[yL,qL,Rep] at a;let⟨p,us,rfl,h,rr⟩:=a;exact⟨p,us,rfl,.inl h,rr⟩
     ·simp?[xE,Rep] at a;let⟨p,us,rfl,h,rr⟩:=a;exact⟨p,us,rfl,.inr h,rr⟩
    rw[e1] at rr;exact⟨HF,p,us,nss,rfl,sm,h,rr,e2,h64,λDn ws hD hr=>q Dn ws _ HF (.own sm hD) hD (sm.free hD) aD hr⟩
   ·cases hg
  cases x<;>try cases hg
  ·exact key false _ r hg
  ·exact key true _ r hg) B ha (by decide) (by decide) he rfl
end Dl
namespace En
open PySem PyProof.Rows
open AutoSeq1 (wpAny_loadPart')
def nextT_item(hj:s.heap.IsTupleIter j t k)(ht:s.heap.IsTuple t its)(hv:its[k]?=some v)
  (hQ:∀g,g.IsTupleIter j t (k+1)->Heap.SameBut j s.heap g->Q v { s with heap:=g }):wpAny (model prog w) A (Builtin.SmallTypes.nextOf (.ref j)) Q E s:=by
 let⟨oj,gj,cj,dj⟩:=id hj;let⟨ot,gt,_,nt,dt⟩:=ht;unfold Builtin.SmallTypes.nextOf;refine zT (xZ (name:=Str.ofString "__next__") hj.typeIs jM (qQ jM hj.typeIs F.entry_tuple_iterator_next ?_ (F.args_tuple_iterator_next_1 _)));refine zT (m:=field (.ref j) 0) (qP gj dj (x:=.ref t) rfl ?_);show wpAny _ _ (if (Value.ref t == Value.none)=true then _ else _) _ _ s;rw[yK (show ¬ ((Value.ref t == Value.none)=true) by exact yW)];refine zT (m:=field (.ref j) 1) (qP gj dj (x:=.int k 0) rfl ?_);refine zT (m:=seqItems? (.ref t)) (jW gt dt ?_);simp?[yE,hv];refine zT (wpAny_setField gj dj (by simp) (zU ⟨v,rfl,zU (hQ _ ⟨_,Heap.get?_update_self _ gj (Obj.isFreed_of_fields (Obj.data_mapFields dj _)),(Obj.cls_mapFields ..).trans cj,?_⟩ (Heap.SameBut.update ..))⟩));rw[Obj.data_mapFields dj];simp[rawInt]
def nextT_end{Q:Value->Shared->Prop}(hh:A.handled=none)(hj:s.heap.IsTupleIter j t k)(ht:s.heap.IsTuple t its)(hv:its[k]?=none)
  (hE:∀g x,Heap.ExtBut j s.heap g->(∃o,g.get? x=some o/\o.cls=.type "StopIteration")->E (.ref x) { s with heap:=g }):wpAny (model prog w) A (Builtin.SmallTypes.nextOf (.ref j)) Q E s:=by
 let⟨oj,gj,cj,dj⟩:=id hj;let⟨ot,gt,_,nt,dt⟩:=ht;unfold Builtin.SmallTypes.nextOf;refine zT (xZ (name:=Str.ofString "__next__") hj.typeIs jM (qQ jM hj.typeIs F.entry_tuple_iterator_next ?_ (F.args_tuple_iterator_next_1 _)));refine zT (m:=field (.ref j) 0) (qP gj dj (x:=.ref t) rfl ?_);show wpAny _ _ (if (Value.ref t == Value.none)=true then _ else _) _ _ s;rw[yK (show ¬ ((Value.ref t == Value.none)=true) by exact yW)];refine zT (m:=field (.ref j) 1) (qP gj dj (x:=.int k 0) rfl ?_);refine zT (m:=seqItems? (.ref t)) (jW gt dt ?_);simp?[yE,hv];refine zT (wpAny_rule (zT (wpAny_setField gj dj (by simp) (zT (m:=newExc (.type "StopIteration") []) ?_))));simp?[newExc,newTuple];refine zT (qH (zT (m:=firstArgMember _ _) (wpAny_of_eq (a:=Value.none) (by first|rfl|(simp?[firstArgMember];rfl)) ?_)) (by size_fits));refine qH ?_ (by size_fits);simp?[raiseNew];refine zT (wpAny_handled ?_)
 first|rw[show A.in1.handled=none from hh]|rw[hh]
 exact zT (zU (wpAny_throw (hE _ _ (((Heap.SameBut.update ..).extBut.push _).push _) ⟨_,zV _ rfl,rfl⟩)))
def meets_enumT(t:Addr)(its:Array Value)(n:Nat)(dd:Option Addr)(sl:Array (Option Value)) :
  Meets (Builtin.«enumerate.__new__» ⟨[.type "enumerate",.ref t],[]⟩) (λ_ R s=>s.heap.get? t=some { cls:=.type "tuple",dict:=dd,data:=.seq its n,slots:=sl } /\
   R (.ok (.ret (.ref (s.heap.push { cls:=.type "tuple_iterator",data:=.fields #[.ref t,.int 0 0] }).objs.size)))
    { s with heap:=(s.heap.push { cls:=.type "tuple_iterator",data:=.fields #[.ref t,.int 0 0] }).push { cls:=.type "enumerate",data:=.fields #[.none,.bool false,.ref s.heap.objs.size,rawInt 0,.none,.none] } }) :=
 .of_wp λprog w A R s h=>by
  let⟨hp,g,d,tk,os⟩:=s;let⟨hl,h⟩:=h;have hsub:=sub_enumerate;have hL:Heap.IsTuple (Shared.heap ⟨hp,g,d,tk,os⟩) t its:=⟨_,hl,rfl,n,rfl⟩
  wp_walk using wpAny_loadPart' hl
  refine wpAny_stack_any λst=>zU ?_;split
  ·rename_i c _ _ _ _ _;cases (c == Value.type "enumerate")
   ·wp_walk using wpAny_loadPart' hl,xO hL
    exact⟨_,rfl,h⟩
   ·wp_walk using wpAny_loadPart' hl,xO hL
    exact⟨_,rfl,h⟩
  ·wp_walk using wpAny_loadPart' hl,xO hL
   exact⟨_,rfl,h⟩
def call_enumT(ht:s.heap.IsTuple t its)
  (h:∀h',IsEnum h' (s.heap.objs.size+1) s.heap.objs.size 0 .none->h'.IsTupleIter s.heap.objs.size t 0->h'.objs.size=s.heap.objs.size+2->(∀b o,s.heap.get? b=some o->h'.get? b=some o)->Q (.ref (s.heap.objs.size+1)) { s with heap:=h' }) :
  wpAny (model prog w) A (call (.type "enumerate") [.ref t]) Q E s:=by
 let⟨⟨c,dct,dt,sl⟩,hl,hc,n,hd⟩:=ht;simp only at hc hd;subst hc hd;refine callType_new F.called_enumerate (by decide) (F.typeCall_enumerate_1 _) (F.newCall_enumerate_1 _) (λobj=>F.args_object_init_2 obj _) F.entry_enumerate_new (meets_enumT t its n dct sl) ⟨hl,?_⟩;have hz:(s.heap.push { cls:=.type "tuple_iterator",data:=.fields #[.ref t,.int 0 0] }).objs.size=s.heap.objs.size+1:=by rw[xG]
 have he:=zV (s.heap.push { cls:=.type "tuple_iterator",data:=.fields #[.ref t,.int 0 0] }) (o:={ cls:=.type "enumerate",data:=.fields #[.none,.bool false,.ref s.heap.objs.size,rawInt 0,.none,.none] }) rfl;show _/\_;rw[hz] at he ⊢;refine⟨⟨_,he,rfl⟩,h _ he ⟨_,zS _ (zV _ rfl),rfl,rfl⟩ ?_ λb o x=>zS _ (zS _ x)⟩;show (Heap.push _ _).objs.size=_;rw[xG,hz]
end En
namespace Dl
open PySem L2 PySem.Spec PyProof.Rows
section
variable {ch:List Addr}
def uc(I:Inv X pins σ H s)(hch:∀b∈ch,gZ X pins H b)(k:∀b o,b∉ch->s.heap.get? b=some o->h'.get? b=some o){T:Addr}{vals:List Value}{xs:List V}(hT:s.heap.objs.size<=T)(ht:mE h' T vals.toArray)
  (rv:aE xs vals) (hz:xs.length<=sizeLine):Inv X pins σ (upd H T (.tup xs)) { s with heap:=h',toks:=t' }:=by
 have nT:H T=none:=I.hok.fresh hT;have ne:∀b o,s.heap.get? b=some o->b≠T:=λb o e=>yO (zP (zW e) hT);have ne2:∀b o,H b=some o->b≠T:=λb o e=>aK e nT;have nch:∀b o,H b=some o->b∉ch:=λb o e z=>by rw[(hch b z).1] at e;cases e
 refine I.step (g':=s.gens) (d':=s.drawn) (ch:=ch) (λb hb=>?_) (λb o _ _ hc e _=>k b o hc e) (λb o _ _ hc e _=>⟨o.slots,k b o hc e⟩) (λb o _ e n=>by rw[aC (ne b o e)];exact n)
  (λb o hc e=>⟨o,k b o hc e⟩) (λb ys e=>by rw[aC (ne2 b _ e)];exact e) (λb o u e=>by rw[aC (ne2 b _ e)];exact e) (.kept (λb u ⟨q,z⟩ e=>k b u (nch b _ z) e) λb u e _=>by rw[aC (ne2 b _ e)];exact e) (λm hm=>?_) (λb u e=>?_) I.bare
 ·let⟨f0,f1,f2,f3,f4,f5⟩:=hch b hb;exact⟨f3,f1,f4,f5⟩
 ·let⟨o,es,ep,ho,r⟩:=hm;exact⟨o,es,ep,k _ o (λz=>(hch _ z).2.1 rfl) ho,r⟩
 ·by_cases hb:b=T
  ·subst hb;rw[aD] at e;cases e;exact⟨hz,vals,rv,ht⟩
  ·rw[aC hb] at e;refine (I.hok b u e).stay (λc v hc q=>k c v ?_ q) (λ_ q=>?_) λc v q _=>?_
   ·rcases hc with z|z
    ·rw[z];exact nch b u e
    ·exact nch c _ z
   all_goals first
    | (rw[aC (ne2 _ _ q)];exact q)
    | exact q
def Nt(I:Inv X pins σ H s)(hf:gZ X pins H b)(h:X.K.lookup a=some o):a≠b:=by
 rintro rfl;have hb:=I.ok.mod.kin a o h;rcases hf.2.2.2.1 with z|z
 ·exact I.ok.noex a o hb z
 ·exact absurd (zP (zW (I.ok.bs a o hb).1) z) (qB _)
def KG(I:Inv X pins σ H s)(hf:gZ X pins H b)(h:fD X.K H a xs):a≠b:=by
 rcases h with (h|⟨o,h⟩)|⟨o,its,n,h,_⟩
 ·exact aK h hf.1
 ·exact aK h hf.1
 ·exact Nt I hf h
def JF(I:Inv X pins σ H s)(hf:gZ X pins H b)(h:eZ X.K H a xs):a≠b:=by
 rcases h with (h|⟨o,h⟩)|⟨o,its,n,h,_⟩
 ·exact aK h hf.1
 ·exact aK h hf.1
 ·exact Nt I hf h
end
def OI(sq:Hp->List V->Prop):It:=⟨λi H=>∃xs x,sq H xs/\xs[i]?=some x,λi H v H'=>∃T y,v=.ref T/\H T=none/\H'=upd H T (.tup [.int (i:Nat),y])/\∀xs,sq H xs->xs[i]?=some y,λi H=>∃xs,sq H xs/\xs.length<=i⟩
def cR(k:Nat):List D->List D
 | []=>[]
 | d::ds=>.tuple [.int (k:Nat),d]::cR (k+1) ds
def qj:∀ {ds:List D}{k i:Nat}{d:D},(cR k ds)[i]?=some d->∃x,ds[i]?=some x/\d=.tuple [.int ((k+i:Nat):Int),x]
 | [],k,i,d,h=>by simp[cR] at h
 | x::ds,k,0,d,h=>by simp[cR] at h;exact⟨x,rfl,h.symm⟩
 | x::ds,k,i+1,d,h=>by
  simp?[cR,yV] at h;let⟨y,h1,h2⟩:=qj h;refine⟨y,by simpa using h1,?_⟩;rw[h2,show k+1+i=k+(i+1) by lia]
def iR:∀ (ds:List D) (k:Nat),(cR k ds).length=ds.length
 | [],k=>rfl
 | x::ds,k=>by simp[cR,iR ds (k+1)]
def AA{K:W.Frag}(h:sq HF vs)(mo:∀H H',aH H H'->sq H vs->sq H' vs)(r:au K HF ds vs):pd K (OI sq) HF (cR 0 ds) where
 go:=λi d H₁ HF₁ e s1 s2=>by
  let⟨x,hx,rfl⟩:=qj e;rw[qY];let⟨v,hv,rv⟩:=r.getD hx;have q:=mo _ _ s2 (mo _ _ s1 h);refine⟨⟨vs,v,q,hv⟩,λy H₂ ⟨T,z,e1,hT,e2,hy⟩=>?_⟩;have:=hy vs q;rw[hv] at this;cases this;subst e1 e2;exact⟨_,.new s2 hT,cJ (s2.free hT) (au.cons (by simp[Rep]) (au.cons (rv.mono s1) au.nil))⟩
 stop:=λH₁ HF₁ s1 s2=>⟨vs,mo _ _ s2 (mo _ _ s1 h),by rw[iR,r.length];exact yJ _⟩
def Oo(sq1 sq2:Hp->List V->Prop):It:=⟨λi H=>∃xs ys x y,sq1 H xs/\sq2 H ys/\xs[i]?=some x/\ys[i]?=some y,
 λi H v H'=>∃T x y,v=.ref T/\H T=none/\H'=upd H T (.tup [x,y])/\(∀xs,sq1 H xs->xs[i]?=some x)/\∀ys,sq2 H ys->ys[i]?=some y,
 λi H=>∃xs ys,sq1 H xs/\sq2 H ys/\(xs.length<=i\/ys.length<=i)⟩
section
variable {ch:List Addr}
def AH(I:Inv X pins σ H s)(hch:∀b∈ch,gZ X pins H b)(k:∀b o,b∉ch->s.heap.get? b=some o->h'.get? b=some o):Inv X pins σ H { s with heap:=h',toks:=t' }:=by
 have nch:∀b o,H b=some o->b∉ch:=λb o e z=>by rw[(hch b z).1] at e;cases e
 refine I.step (g':=s.gens) (d':=s.drawn) (ch:=ch) (λb hb=>?_) (λb o _ _ hc e _=>k b o hc e) (λb o _ _ hc e _=>⟨o.slots,k b o hc e⟩) (λb o _ e n=>n)
  (λb o hc e=>⟨o,k b o hc e⟩) (λb ys e=>e) (λb o u e=>e) (.kept (λb u ⟨q,z⟩ e=>k b u (nch b _ z) e) λb u e _=>e) (λm hm=>?_) (λb u e=>?_) I.bare
 ·let⟨f0,f1,f2,f3,f4,f5⟩:=hch b hb;exact⟨f3,f1,f4,f5⟩
 ·let⟨o,es,ep,ho,r⟩:=hm;exact⟨o,es,ep,k _ o (λz=>(hch _ z).2.1 rfl) ho,r⟩
 ·refine (I.hok b u e).stay (λc v hc q=>k c v ?_ q) (λ_ q=>q) λc v q _=>q;rcases hc with z|z
  ·rw[z];exact nch b u e
  ·exact nch c _ z
end
structure P5(z TI TO i1 i2:Addr):Prop where
 a1:TI≠z
 a2:TO≠z
 a3:i1≠z
 a4:i2≠z
 a5:TI≠TO
 a6:TI≠i1
 a7:TI≠i2
 a8:TO≠i1
 a9:TO≠i2
 a0:i1≠i2
def gq:List D->List D->List D
 | x::xs,y::ys=>.tuple [x,y]::gq xs ys
 | _,_=>[]
def nz:∀ {xs ys:List D}{i:Nat}{d:D},(gq xs ys)[i]?=some d->∃x y,xs[i]?=some x/\ys[i]?=some y/\d=.tuple [x,y]
 | [],_,i,d,h=>by simp[gq] at h
 | _::_,[],i,d,h=>by simp[gq] at h
 | x::xs,y::ys,0,d,h=>by simp[gq] at h;exact⟨x,y,rfl,rfl,h.symm⟩
 | x::xs,y::ys,i+1,d,h=>by
  simp?[gq,yV] at h;let⟨a,b,h1,h2,h3⟩:=nz h;exact⟨a,b,by simpa using h1,by simpa using h2,h3⟩
def k8:∀ (xs ys:List D),(gq xs ys).length=min xs.length ys.length
 | [],_=>by simp[gq]
 | _::_,[]=>by simp[gq]
 | x::xs,y::ys=>by simp[gq,k8 xs ys]
def CG{K:W.Frag}(h1:sq1 HF vs)(mo1:∀H H',aH H H'->sq1 H vs->sq1 H' vs)(h2:sq2 HF us)(mo2:∀H H',aH H H'->sq2 H us->sq2 H' us)(r1:au K HF xs vs)(r2:au K HF ys us) :
  pd K (Oo sq1 sq2) HF (gq xs ys) where
 go:=λi d H₁ HF₁ e s1 s2=>by
  let⟨x,y,hx,hy,rfl⟩:=nz e;let⟨v,hv,rv⟩:=r1.getD hx;let⟨u,hu,ru⟩:=r2.getD hy;have q1:=mo1 _ _ s2 (mo1 _ _ s1 h1);have q2:=mo2 _ _ s2 (mo2 _ _ s1 h2);refine⟨⟨vs,us,v,u,q1,q2,hv,hu⟩,λw H₂ ⟨T,a,b,e1,hT,e2,ha,hb⟩=>?_⟩;have ea:=ha vs q1;have eb:=hb us q2;rw[hv] at ea;rw[hu] at eb;cases ea;cases eb;subst e1 e2;exact⟨_,.new s2 hT,cJ (s2.free hT) (au.cons (rv.mono s1) (au.cons (ru.mono s1) au.nil))⟩
 stop:=λH₁ HF₁ s1 s2=>⟨vs,us,mo1 _ _ s2 (mo1 _ _ s1 h1),mo2 _ _ s2 (mo2 _ _ s1 h2),by rw[k8,r1.length,r2.length];lia⟩
def cut(xs:List α)(lo hi:Option Int):List α:=(xs.drop (HT.bg xs.length 0 lo)).take (HT.bg xs.length xs.length hi - HT.bg xs.length 0 lo)
def yn(xs:List α)(lo hi:Option Int):(cut xs lo hi).length<=xs.length:=by
 unfold cut;rw[jR,qE];lia
def nE{K:W.Frag}(r:au K H ds vs)(lo hi:Option Int):au K H (cut ds lo hi) (cut vs lo hi):=by
 unfold cut;rw[r.length];exact (r.drop _).take _
section
def Aq{vl:Value}{lo:Option Int}(ht:IsTup s.heap t its)(hs:s.heap.IsSliceOf sl vl vu .none)(pl:IsPart vl lo)(pu:IsPart vu hi)
  (hw:HT.bg its.size 0 lo=0/\HT.bg its.size its.size hi=its.size) (h:Q (.ref t) s):wpAny (model prog w) A (getItem (.ref t) (.ref sl)) Q E s:=by
 let⟨os,hos,hcs,hds⟩:=id hs;have hTs:s.TypeIs (.ref sl) "slice":=⟨os,hos,hcs⟩
 unfold getItem
 try with_reducible refine xU ?_
 first|refine zT (zU ?_)|skip
 refine zT (wpAny_sequenceKey ht.typeIs (by decide) (zT (xZ (name:=Str.ofString "__getitem__") ht.typeIs jA (qQ jA ht.typeIs entry_tuple_getitem ?_ (args_tuple_getitem _ _)))));refine zT (m:=Builtin.Tuple.tupleItemsOf (.ref t)) (tupleItemsOf_ ht (zT (vV hTs ?_)));rw[yI (by decide)];refine zT (HT.gz hs pl pu ?_);show wpAny _ _ (if (((HT.bg its.size 0 lo:Nat):Int) == 0&&(1:Int) == 1&&(HT.bg its.size its.size hi - HT.bg its.size 0 lo) == its.size)=true then _ else _) _ _ s;rw[hw.1,hw.2,yI (by simp)];unfold Builtin.Tuple.tupleIsExact;refine zT (zT (vV ht.typeIs (zU ?_)));rw[yI (by decide)]
 first
  | exact zT (wpAny_rule (zU ⟨_,rfl,zU h⟩))
  | exact zT (wpAny_rule (zT (zU (zU ⟨_,rfl,zU h⟩))))
def Ou(K:W.Frag):V->Option Int->Option Int->Hp->VK->Prop:=λx lo hi H Q=>∃a xs,x=.ref a/\eZ K H a xs/\(cut xs lo hi=xs->Q (.ref a) H)/\∀p,H p=none->Q (.ref p) (upd H p (.tup (cut xs lo hi)))
def LR:GY X (Ou X.K):=by
 intro pins s σ H x v vl vu lo hi sl Q I rx hs pl pu h;let⟨a,xs,rfl,hx,q1,q2⟩:=h;by_cases hw:HT.bg xs.length 0 lo=0/\HT.bg xs.length xs.length hi=xs.length
 ·cases rx;let⟨its,r,ht,hz⟩:=I.tuple hx;have hlen:its.toArray.size=xs.length:=by rw[zH];exact r.length.symm
  refine⟨"tuple",_,PyProof.Rows.slot_tuple_getitem.lookup,ht.typeIs,Aq ht hs pl pu (by rw[hlen];exact hw) ⟨.ref a,H,I,rfl,q1 ?_⟩⟩;unfold cut;rw[hw.1,hw.2,List.drop_zero,Nat.sub_zero,List.take_length]
 ·exact Kv pins s σ H (.ref a) v vl vu lo hi sl Q I rx hs pl pu ⟨a,xs,rfl,hx,hw,q2⟩
def Os(K:W.Frag):V->Option Int->Option Int->Hp->VK->Prop:=λx lo hi H Q=>∃a xs,x=.ref a/\fD K H a xs/\∀p,H p=none->Q (.ref p) (upd H p (.lst (cut xs lo hi)))
def u0(lo hi:Option Int)(n:Nat):sliceBounds lo hi none n=(((HT.bg n 0 lo:Nat):Int),((HT.bg n n hi:Nat):Int),1):=by
 have h1:(1:Int) > 0:=by lia
 refine Prod.ext ?_ (Prod.ext ?_ rfl)
 ·cases lo with
  | none=>simp[sliceBounds,HT.bg]
  | some x =>
   by_cases h:x < 0
   ·simp?[sliceBounds,HT.bg,kC,h1,xE,yI h];lia
   ·simp?[sliceBounds,HT.bg,kC,h1,xE,yK h];lia
 ·cases hi with
  | none=>simp[sliceBounds,HT.bg]
  | some x =>
   by_cases h:x < 0
   ·simp?[sliceBounds,HT.bg,kC,h1,xE,yI h];lia
   ·simp?[sliceBounds,HT.bg,kC,h1,xE,yK h];lia
def F4:GY X (Os X.K):=by
 intro pins s σ H x v vl vu lo hi sl Q I rx hs pl pu h;let⟨a,xs,rfl,hx,q⟩:=h;cases rx;let⟨its,r,p,hz⟩:=I.list hx;have hlen:=r.length;refine⟨"list",_,slot_list_getitem.lookup,p.isList.typeIs,wpAny_getItem_list_slice p.isList hs pl pu .none (by simp) ?_ (by rw[zH];lia)⟩;rw[W.kmk_pick_nat its.toArray (u0 lo hi its.toArray.size)];have e:((its.toArray.toList.drop (HT.bg its.toArray.size 0 lo)).take (HT.bg its.toArray.size its.toArray.size hi - HT.bg its.toArray.size 0 lo))=cut its lo hi:=by unfold cut;simp
 rw[e];have rc:aE (cut xs lo hi) (cut its lo hi):=by unfold cut;rw[hlen];exact (r.drop _).take _
 exact⟨.ref s.heap.objs.size,_,I.lnew (t':=s.toks) rc (yB (yn xs lo hi) hz),rfl,q _ I.fresh⟩
def Qf(K:W.Frag)(f:Env->Option (Option Int)):TO:=λσ H Q=>∃HF ρ o,aH HF H/\cx K HF ρ σ/\f ρ=some o/\∀H' HF',bw HF H HF' H'->Q o H'
def DO(X:Cx)(e:Option Expr)(f:Env->Option (Option Int)):Prop:=PO X e (Qf X.K f)
def cZ:Env->Option (Option Int):=λ_=>some none
def gI:D->Option Int|.int i=>some i|_=>none
def lh(f:Env->Option D):Env->Option (Option Int):=λρ=>(f ρ).bind λd=>(gI d).map some
def G9:DO X none cZ:=λpins s σ H Q I ⟨HF,ρ,o,sm,eo,hf,q⟩=>GV pins s σ H Q I (by cases hf;exact q H HF (.refl sm))
def FX(h:DE X e f):DO X (some e) (lh f):=λpins s σ H Q I ⟨HF,ρ,o,sm,eo,hf,q⟩=>zk h pins s σ H Q I (by
 let⟨d,hd,hf⟩:=bs hf;let⟨i,hi,rfl⟩:=ag hf;cases d<;>try cases hi
 exact⟨HF,ρ,_,sm,eo,hd,λv H1 HF1 g1 r1=>⟨_,by simpa only[Rep] using r1,q H1 HF1 g1⟩⟩)
variable {lo hi:Option Expr}{fl fh:Env->Option (Option Int)}
def cC(g:D->Option Int->Option Int->Option β)(fa:Env->Option D)(fl fh:Env->Option (Option Int)):Env->Option β:=λρ=>(fa ρ).bind λx=>(fl ρ).bind λl=>(fh ρ).bind λh=>g x l h
end
def tL:∀ {l:List α},(∀x∈l,f x=g x)->l.filterMap f=l.filterMap g
 | [],_=>rfl
 | x::l,h=>by rw[jB,jB,h x zE,tL λy hy=>h y (zC _ hy)]
def B4(xs:List Value):((List.range xs.length).filterMap λ(k:Nat)=>xs.toArray[(((xs.length:Nat):Int) - 1+(k:Int) * (-1)).toNat]?)=xs.reverse:=by
 have e:∀k∈List.range xs.length,xs.toArray[(((xs.length:Nat):Int) - 1+(k:Int) * (-1)).toNat]?=xs.reverse[k]?:=λk hk=>by
  have hk':k < xs.length:=by simpa using hk
  have:(((xs.length:Nat):Int) - 1+(k:Int) * (-1)).toNat=xs.length - 1 - k:=by lia
  rw[this,vI,List.getElem?_reverse hk']
 rw[tL e];have:=xs.length_reverse;apply List.ext_getElem?;intro i;have key:∀ (l:List Value),(List.range l.length).filterMap (λ(k:Nat)=>l[k]?)=l:=λl=>by
  induction l with
  | nil=>rfl
  | cons x l ih =>
   rw[zL,vA,jB];simp?[xN];rw[List.filterMap_map]
   congr 1
 have k2:=key xs.reverse;rw[List.length_reverse] at k2;rw[k2]
def GC{prog:Program}{w:World}{A:Around}{E:Value->Shared->Prop}{s:Shared}{t sl:Addr}{its:List Value}{tk:Tok}{Q:Value->Shared->Prop}(ht:IsTup s.heap t its.toArray)(hs:s.heap.IsSliceOf sl .none .none (.int (-1) tk))
  (hz:its.length<=sizeLine) (h:Q (.ref s.heap.objs.size) { s with heap:=s.heap.push { cls:=.type "tuple",data:=.seq its.reverse.toArray } }):wpAny (model prog w) A (getItem (.ref t) (.ref sl)) Q E s:=by
 let⟨os,hos,hcs,hds⟩:=id hs;have hTs:s.TypeIs (.ref sl) "slice":=⟨os,hos,hcs⟩
 unfold getItem
 try with_reducible refine xU ?_
 first|refine zT (zU ?_)|skip
 refine zT (wpAny_sequenceKey ht.typeIs (by decide) (zT (xZ (name:=Str.ofString "__getitem__") ht.typeIs jA (qQ jA ht.typeIs entry_tuple_getitem ?_ (args_tuple_getitem _ _)))));refine zT (m:=Builtin.Tuple.tupleItemsOf (.ref t)) (tupleItemsOf_ ht (zT (vV hTs ?_)));rw[yI (by decide)];have hap:∀ {R:Int×Int×Nat->Shared->Prop},R (((its.length:Nat):Int) - 1,-1,its.length) s->wpAny (model prog w) A.in1 (Builtin.Slice.sliceApplied (.ref sl) (pure ((its.toArray.size:Nat):Int))) R E s:=λ{R} hR=>by
  unfold Builtin.Slice.sliceApplied Builtin.Slice.sliceFields;refine zT (zT (qP hos hds (x:=.none) rfl (zT (qP hos hds (x:=.none) rfl (zT (qP hos hds (x:=.int (-1) tk) rfl (zU ?_)))))));refine zT (slicePart_int ?_);show wpAny _ _ (if ((-1:Int) == 0)=true then _ else _) _ _ s;rw[yK (by decide)];refine zT (slicePart_none (zT (slicePart_none (zT (zU ?_)))));have e1:Builtin.Slice.sliceAdjust none none (-1) ((its.toArray.size:Nat):Int)=(((its.length:Nat):Int) - 1,-1):=by simp[Builtin.Slice.sliceAdjust]
  show wpAny _ _ (match Builtin.Slice.sliceAdjust none none (-1) ((its.toArray.size:Nat):Int) with|(lo,hi)=>pure (lo,(-1:Int),Builtin.Slice.slicePlaces lo hi (-1))) _ _ s;rw[e1];have e2:Builtin.Slice.slicePlaces (((its.length:Nat):Int) - 1) (-1) (-1)=its.length:=by
   unfold Builtin.Slice.slicePlaces;rw[yK (by decide)];simp?[Int.neg_neg,Int.ediv_one];split<;>lia
  show wpAny _ _ (pure (((its.length:Nat):Int) - 1,(-1:Int),Builtin.Slice.slicePlaces (((its.length:Nat):Int) - 1) (-1) (-1))) _ _ s;rw[e2];exact zU hR
 first
  | refine zT (hap ?_)
  | refine zT (wpAny_of_in1 (hap ?_))
 show wpAny _ _ (if ((((its.length:Nat):Int) - 1) == 0&&(-1:Int) == 1&&its.length == its.toArray.size)=true then _ else _) _ _ s;rw[yK (by simp),B4];have hz':sizeOk (.seq its.reverse.toArray):=by show its.reverse.toArray.size<=sizeLine;simpa using hz
 first
  | exact zT (m:=Builtin.Tuple.tupleExact _) (qH (zU ⟨_,rfl,zU h⟩) hz')
  | exact zT (m:=Builtin.Tuple.tupleExact _) (qH (zT (zU (zU ⟨_,rfl,zU h⟩))) hz')
  | exact zT (zT (m:=Builtin.Tuple.tupleExact _) (qH (zU (zU ⟨_,rfl,zU h⟩)) hz'))
  | exact zT (zT (m:=Builtin.Tuple.tupleExact _) (qH (zU ⟨_,rfl,zU h⟩) hz'))
def J9(ha:PE X a ta):PE X (.Subscript a (.Slice none none (some (.UnaryOp .USub (.Constant (.int 1) j p4) p3)) p2) pos) (λσ H Q=>ta σ H λx H1=>∃b xs,x=.ref b/\eZ X.K H1 b xs/\∀p,H1 p=none->Q (.ref p) (upd H1 p (.tup xs.reverse))):=by
 intro pins s σ H Q I h;refine Subscript_ (bK (ha pins s σ H _ I h) λv s1 ⟨x,H1,I1,r1,b,xs,e,hq,q⟩=>?_);subst e;cases r1;refine wpAny_Slice ?_;rw[evalPart_none];refine zU (zU ?_);have hst:=zk (X:=X) (Jm (op:=.USub) C8 (wM (X:=X) (i:=1) (j:=j) (pos:=p4)) (pos:=p3)) pins s1 σ H1 (λo H'=>o=some (-1)/\H'=H1) I1 ⟨1,rfl,-1,rfl,rfl,rfl⟩;refine bK hst λvst s2 ⟨o,H2,I2,pst,e1,e2⟩=>?_;subst e1 e2;cases pst with
 | int _ tk =>
 let⟨its,r,ht,hz⟩:=I2.tuple hq;have I4:Inv X pins σ H2 { s2 with heap:=s2.heap.push { cls:=.type "slice",data:=.fields #[.none,.none,.int (-1) tk] } }:=I2.kept (t':=s2.toks) λb ob q=>zS _ q;let⟨its',r',ht',_⟩:=I4.tuple hq;refine tail_any (ops:=[.ref b,.ref s2.heap.objs.size]) ht'.typeIs PyProof.Rows.slot_tuple_getitem.lookup (GC ht' (Heap.IsSliceOf.new ..) (by rw[<- r'.length];exact hz) ?_) (by with_unfolding_all rfl);have hv:aE xs.reverse its'.reverse:=L2.aE.reverse r';exact⟨.ref _,_,I4.laid (t':=s2.toks) (o:=.tup xs.reverse) (λb ob q=>zS _ q) (yJ _) ⟨by rw[List.length_reverse];exact hz,_,hv,mE.new _ _⟩,rfl,q _ I4.fresh⟩
def ou:D->Option D|.tuple ds=>some (.tuple ds.reverse)|_=>none
def f1(g:D->Option D)(f:Env->Option D):Env->Option D:=λρ=>(f ρ).bind g
def Jy(ha:DE X a fa):DE X (.Subscript a (.Slice none none (some (.UnaryOp .USub (.Constant (.int 1) j p4) p3)) p2) pos) (f1 ou fa):=aG (J9 ha) λσ H Q ⟨HF,ρ,d,sm,eo,hf,q⟩=>by
 let⟨x,hx,hf⟩:=bs hf;refine⟨HF,ρ,x,sm,eo,hx,λv1 H1 HF1 g1 r1=>?_⟩;cases x<;>try cases hf
 simp?[Rep] at r1;let⟨b,vs,rfl,hs,rr⟩:=r1;exact⟨b,vs,rfl,ay g1.fh hs,λp hp=>q _ _ _ (g1.trans (.new g1.fh hp)) (cJ (g1.fh.free hp) rr.reverse)⟩
end Dl
namespace HT
open PySem PyProof.Rows
section
open PySem.SeqAt
open PySem.AutoSeq1 (wpAny_loadPart')
open PySem.MeetsSeq PySem.MeetsSeq2 PySem.MeetsSeq3
end
end HT
namespace Dl
open PySem L2 PySem.Spec PyProof.Rows
def k7:D->Option (List Int)|.tuple ds=>intsOf ds|_=>none
def j6(h:k7 x=some ns):x=.tuple (ns.map PyData.int):=by
 cases x<;>try cases h
 rename_i xs;have h:intsOf xs=some ns:=h;rw[cP h]
end Dl
namespace En
open PySem PyProof.Rows
open AutoSeq1 (wpAny_loadPart')
def noFill_tup:fillsNumberSlot (.type "tuple") "mul"=pure false:=PySem.fillsNumberSlot_seq (id:="tuple.__mul__") (r:=some (.builtin "tuple.__rmul__")) F.slot_tuple_mul.lookup (by decide +kernel) F.slot_tuple_rmul.lookup (by decide +kernel)
def repeat_tup:seqRepeat? (.type "tuple")=pure (some (.builtin "tuple.__mul__")):=by
 unfold seqRepeat?;rw[PySem.seqSlot_of (T:="tuple") (name:="__mul__") (id:="tuple.__mul__") F.slot_tuple_mul.lookup (by decide +kernel),PySem.seqSlot_of (T:="tuple") (name:="__rmul__") (id:="tuple.__rmul__") F.slot_tuple_rmul.lookup (by decide +kernel)];rfl
def rmul_tup(a:Int)(t:Tok)(l:Addr)(its:Array Value)(n:Nat)(dd:Option Addr)(sl:Array (Option Value)) :
  Meets (Builtin.«int.__rmul__» ⟨[.int a t,.ref l],[]⟩) (λ_ R s=>s.heap.get? l=some { cls:=.type "tuple",dict:=dd,data:=.seq its n,slots:=sl }/\R (.ok (.ret Value.notImplemented)) s) :=
 .of_wp λprog w A R s h=>by
  let⟨hp,g,d,tk,os⟩:=s;let⟨hl,h⟩:=h
  wp_walk
  exact⟨_,rfl,h⟩
def mulT_same(l:Addr)(its:Array Value)(n:Nat)(dd:Option Addr)(sl:Array (Option Value))(k:Int)(t:Tok)(h1:¬ (decide (k < -(2 ^ 63))||decide (k >= 2 ^ 63))=true)(h2:(its.isEmpty||k == 1)=true) :
  Meets (Builtin.«tuple.__mul__» ⟨[.ref l,.int k t],[]⟩) (λ_ R s=>s.heap.get? l=some { cls:=.type "tuple",dict:=dd,data:=.seq its n,slots:=sl }/\R (.ok (.ret (.ref l))) s) :=
 .of_wp λprog w A R s h=>by
  let⟨hp,g,d,tk,os⟩:=s;let⟨hl,h⟩:=h;have f1:=AutoSeq1.idx_int
  wp_walk using wpAny_loadPart' hl
  rw[yK h1]
  wp_walk using wpAny_loadPart' hl
  exact⟨_,rfl,h⟩
def mulT_none(l:Addr)(its:Array Value)(n:Nat)(dd:Option Addr)(sl:Array (Option Value))(k:Int)(t:Tok)(h1:¬ (decide (k < -(2 ^ 63))||decide (k >= 2 ^ 63))=true)(h2:¬ (its.isEmpty||k == 1)=true)(h3:(decide (k<=0)||its.isEmpty)=true) :
  Meets (Builtin.«tuple.__mul__» ⟨[.ref l,.int k t],[]⟩) (λ_ R s=>s.heap.get? l=some { cls:=.type "tuple",dict:=dd,data:=.seq its n,slots:=sl }/\R (.ok (.ret (.ref s.heap.objs.size))) { s with heap:=s.heap.push { cls:=.type "tuple",data:=.seq #[] } }) :=
 .of_wp λprog w A R s h=>by
  let⟨hp,g,d,tk,os⟩:=s;let⟨hl,h⟩:=h;have f1:=AutoSeq1.idx_int
  wp_walk using wpAny_loadPart' hl
  rw[yK h1]
  wp_walk using wpAny_loadPart' hl
  exact⟨_,rfl,h⟩
def mulT_many(l:Addr)(its:Array Value)(n:Nat)(dd:Option Addr)(sl:Array (Option Value))(k:Int)(t:Tok)(h1:¬ (decide (k < -(2 ^ 63))||decide (k >= 2 ^ 63))=true)(h2:¬ (its.isEmpty||k == 1)=true)(h3:¬ (decide (k<=0)||its.isEmpty)=true)
  (h4:¬ ((its.size:Nat):Int) * k > (2 ^ 63 - 1) / 8) (h5:¬ Builtin.Tuple.tupleTooMany (((its.size:Nat):Int) * k)=true) (hz:((List.replicate k.toNat its).foldl (·++·) #[]).size<=sizeLine) :
  Meets (Builtin.«tuple.__mul__» ⟨[.ref l,.int k t],[]⟩) (λ_ R s=>s.heap.get? l=some { cls:=.type "tuple",dict:=dd,data:=.seq its n,slots:=sl }/\R (.ok (.ret (.ref s.heap.objs.size))) { s with heap:=s.heap.push { cls:=.type "tuple",data:=.seq ((List.replicate k.toNat its).foldl (·++·) #[]) } }) :=
 .of_wp λprog w A R s h=>by
  let⟨hp,g,d,tk,os⟩:=s;let⟨hl,h⟩:=h;have f1:=AutoSeq1.idx_int
  wp_walk using wpAny_loadPart' hl
  rw[yK h1]
  wp_walk using wpAny_loadPart' hl
  rw[yK h4]
  wp_walk using wpAny_loadPart' hl
  exact⟨_,rfl,h⟩
end En
namespace Dl
open PySem L2 PySem.Spec PyProof.Rows
def Jk(K:W.Frag):R2:=λx y H Q=>∃a k xs,x=.ref a/\y=.int k/\eZ K H a xs/\-(2 ^ 62)<=k/\k < 2 ^ 62/\xs.length * k.toNat<=sizeLine/\((List.replicate k.toNat xs).flatten=xs->Q (.ref a) H) /\
 ∀p,H p=none->Q (.ref p) (upd H p (.tup (List.replicate k.toNat xs).flatten))
def Iu:eC X (binaryOp .Mult) (Jk X.K):=by
 intro pins s σ H x y v u Q I rx ry h;let⟨a,k,xs,rfl,rfl,hq,k1,k2,hz,q1,q2⟩:=h;cases rx;let⟨t,rfl⟩:=ry;let⟨its,r,pl,hzx⟩:=I.tuple hq;have hl:=r.length;let⟨⟨cls,dd,data,sl⟩,ho,hc,n,hd⟩:=id pl;simp only at hc hd;subst hc hd;have b1:¬ (decide (k < -(2 ^ 63))||decide (k >= 2 ^ 63))=true:=by
  simp?[qV,zJ];lia
 refine wpAny_binaryOp_repeat_ref (T:="tuple") (U:="int") (by decide) ⟨_,ho,rfl⟩ (λs'=>vR s' k t) En.noFill_tup F.fills_int_mul vH En.repeat_tup F.slot_int_index.lookup
  (qS vH (vR s k t) F.entry_int_rmul (F.args_int_rmul_2 _ _) (En.rmul_tup k t a its.toArray n dd sl) ⟨ho,rfl,⟨_,ho,rfl⟩,?_⟩)
 have hfl:∀m:Nat,List.foldl (λx1 x2=>x1++x2) #[] (List.replicate m its.toArray)=(List.replicate m its).flatten.toArray:=λm=>by
  have:=foldl_rep its m [];rw[xK] at this;exact this
 by_cases h2:(its.toArray.isEmpty||k == 1)=true
 ·refine qS F.slot_tuple_mul ⟨_,ho,rfl⟩ wA (vS _ _) (En.mulT_same a its.toArray n dd sl k t b1 h2) ⟨ho,⟨.ref a,H,I,rfl,q1 ?_⟩⟩;rw[qV] at h2;rcases h2 with h2|h2
  ·have:xs=[]:=by
    have e:its=[]:=by simpa using h2
    rw[e] at hl;exact List.length_eq_zero_iff.mp hl
   rw[this];simp
  ·have:k=1:=eq_of_beq h2;subst this;simp
 ·by_cases h3:(decide (k<=0)||its.toArray.isEmpty)=true
  ·refine qS F.slot_tuple_mul ⟨_,ho,rfl⟩ wA (vS _ _) (En.mulT_none a its.toArray n dd sl k t b1 h2 h3) ⟨ho,?_⟩;have hk0:k.toNat=0:=by
    simp?[qV,zJ] at h3 h2;rcases h3 with h3|h3
    ·lia
    ·exact absurd (.inl h3) h2
   have q3:=q2 s.heap.objs.size I.fresh;rw[hk0] at q3;exact⟨.ref s.heap.objs.size,_,I.laid (t':=s.toks) (o:=.tup []) (λb ob q=>zS _ q) (yJ _) ⟨xR _,[],.nil,mE.new _ _⟩,rfl,q3⟩
  ·have hm:its.length * k.toNat<=sizeLine:=by rw[<- hl];exact hz
   have hkn:(k.toNat:Int)=k:=by
    simp?[qV,zJ,not_or] at h3;lia
   have hmi:((its.toArray.size:Nat):Int) * k=((its.length * k.toNat:Nat):Int):=by rw[zH,Int.natCast_mul,hkn]
   have hv:=L2.aE.rep r k.toNat;have hlen2:(List.replicate k.toNat xs).flatten.length<=sizeLine:=by rw[len_rep,Nat.mul_comm];exact hz
   have hs8:(sizeLine:Nat)<=(2 ^ 63 - 1) / 8:=by decide
   have h4:¬ ((its.toArray.size:Nat):Int) * k > (2 ^ 63 - 1) / 8:=by rw[hmi];lia
   have h5:¬ Builtin.Tuple.tupleTooMany (((its.toArray.size:Nat):Int) * k)=true:=by
    unfold Builtin.Tuple.tupleTooMany;rw[hmi];simp?[zJ];lia
   refine qS F.slot_tuple_mul ⟨_,ho,rfl⟩ wA (vS _ _) (En.mulT_many a its.toArray n dd sl k t b1 h2 h3 h4 h5 (by rw[hfl,zH,<- hv.length];exact hlen2)) ⟨ho,?_⟩;rw[hfl];exact⟨.ref s.heap.objs.size,_,I.laid (t':=s.toks) (o:=.tup (List.replicate k.toNat xs).flatten) (λb ob q=>zS _ q) (yJ _) ⟨hlen2,_,hv,mE.new _ _⟩,rfl,q2 _ I.fresh⟩
def uj:D->D->Option D
 | .tuple ds,.int k=>if oX k=true/\ds.length * k.toNat<=sizeLine then some (.tuple (List.replicate k.toNat ds).flatten) else none
 | _,_=>none
def k6{K:W.Frag}(r:au K HF ds vs):∀k:Nat,au K HF (List.replicate k ds).flatten (List.replicate k vs).flatten
 | 0=>au.nil
 | k+1=>by rw[xB,xB,qJ,qJ];exact r.append (k6 r k)
def Dc{K:W.Frag}:da K (Jk K) uj:=by
 intro HF H x y v1 v2 d Q sm r1 r2 hg q;cases x<;>cases y<;>simp?[uj] at hg<;>try cases hg
 split at hg
 ·rename_i xs k hh;cases hg;simp?[Rep] at r1 r2;let⟨a,vs,rfl,ha,ra⟩:=r1;have ok:=hh.1;unfold oX at ok;rw[zF] at ok;refine⟨a,k,vs,rfl,r2,ay sm ha,yN ok.1,yN ok.2,by rw[ra.length];exact hh.2,λe=>q _ H HF (.refl sm) ?_,λp hp=>q _ _ _ (.new sm hp) (cJ (sm.free hp) (k6 ra _))⟩;simp?[Rep];refine⟨a,vs,rfl,ha,?_⟩;have:=k6 ra k.toNat;rw[e] at this;exact this
 ·cases hg
end Dl
namespace En
open PySem PyProof.Rows
def call_setT(hh:A.handled=none)(hl:s.heap.IsTuple l its)(hi:IntsAre its.toList ns)(hb:its.size+1 < scanBound)
  (h:∀ (h':Heap) (tk:Nat),h'.SetOf (intKind prog w) s.heap.objs.size (λk'=>(firstMet (λi=>ns.getD i 0) its.size).any (· == k')) (firstMet (λi=>ns.getD i 0) its.size).length->(∀b o,b < s.heap.objs.size->s.heap.get? b=some o->h'.get? b=some o)->Q (.ref s.heap.objs.size) { s with heap:=h',toks:=tk }) :
  wpAny (model prog w) A (call (.type "set") [.ref l]) Q E s:=by
 let⟨c,tl,hmro⟩:=F.called_set.mro;have hmade:=F.called_set.made;have hsub:=F.called_set.sub;refine kX (codeAny_of_tree ?_);show wpAny _ _ (callAny (.type "set") _) _ _ _;refine zU ⟨vT _ (by decide +kernel),jV F.entry_type_call ?_⟩;rw[Around.under_plain (weight_type_call_type "set" [.ref l] []) rfl];have h1:=F.called_set.notType;have h2:=F.called_set.canCreate;have hct:=F.typeCall_set_1 (.ref l)
 repeat (any_goals (first|assumption|wp_step))
 refine jN (code_set_new_1 (.ref l) (E:=E) (Q₁:=λobj s1=>∃led:Bool,obj=.ref s.heap.objs.size/\s1={ s with heap:=s.heap.push { cls:=.type "set",dict:=none,data:=.set #[] 0 (.fresh 0 0 led) } }) λled=>⟨led,rfl,rfl⟩) λr s1 hr=>?_;cases r with
 | error e=>exact hr
 | ok fl =>
  cases fl with
  | ret obj =>
   let⟨led,rfl,rfl⟩:=hr;have hS:(s.heap.push { cls:=.type "set",dict:=none,data:=.set #[] 0 (.fresh 0 0 led) }).get? s.heap.objs.size=some { cls:=.type "set",dict:=none,data:=.set #[] 0 (.fresh 0 0 led) }:=by exact zV _ rfl
   have hT:Shared.TypeIs { s with heap:=s.heap.push { cls:=.type "set",dict:=none,data:=.set #[] 0 (.fresh 0 0 led) } } (.ref s.heap.objs.size) "set":=⟨_,hS,rfl⟩
   have hli:=F.called_set.init.lookup;have hbi:=F.called_set.init.bind (.ref s.heap.objs.size)
   repeat (any_goals (first|assumption|wp_step))
   refine jN (vM (R:=wants (λr s2=>r=.none/\∃h' tk,s2={ s with heap:=h',toks:=tk }/\h'.SetOf (intKind prog w) s.heap.objs.size (λk'=>(firstMet (λi=>ns.getD i 0) its.size).any (· == k')) (firstMet (λi=>ns.getD i 0) its.size).length /\
     (∀b o,b < s.heap.objs.size->s.heap.get? b=some o->h'.get? b=some o)) E) F.called_set.init.plain F.entry_set_init (check_set_init_1 hT ?_)) λr2 s2 hr2=>?_
   ·let⟨ol,hol,hcl,nl,hdl⟩:=hl;let⟨ocls,odict,odata,oslots⟩:=ol;simp only at hcl hdl;subst hcl hdl;have hol':(s.heap.push { cls:=.type "set",dict:=none,data:=.set #[] 0 (.fresh 0 0 led) }).get? l=some { cls:=.type "tuple",dict:=odict,data:=.seq its nl,slots:=oslots }:=zS _ hol;have hsls:=F.sub_tuple_set;have hslf:=F.sub_tuple_frozenset;have hne:(Value.type "tuple" == Value.type "dict")=false:=by decide
    have hl1:(s.heap.push { cls:=.type "set",dict:=none,data:=.set #[] 0 (.fresh 0 0 led) }).IsTuple l its:=⟨_,hol',rfl,nl,rfl⟩
    unfold Builtin.«set.__init__» noKeywords Builtin.Frozenset.updateFrom;generalize hPI:pyIter=PI
    wp_walk
    subst hPI;refine xO hl1 (zT (wpAny_runValue ?_));have hlS:l < s.heap.objs.size:=zW hol;have hh3:A.in1.in1.in1.handled=none:=by simp[hh]
    have hneI:l≠(s.heap.push { cls:=.type "set",dict:=none,data:=.set #[] 0 (.fresh 0 0 led) }).objs.size:=by rw[xG];exact yO (jJ hlS)
    have hSf:s.heap.objs.size∉[(s.heap.push { cls:=.type "set",dict:=none,data:=.set #[] 0 (.fresh 0 0 led) }).objs.size,l]:=by
     rw[xG];simp?[zQ,yD,xQ,not_or];exact⟨yO (kE _),jD hlS⟩
    have hval:∀ (i:Nat) (v:Value),its[i]?=some v->∃t,v=.int ((λi=>ns.getD i 0) i) t:=λi v hv=>IntsAre.int_at hi i v (by rw[Array.getElem?_toList];exact hv);refine codeAny_set_update_loopS ((Walks.tuple hh3 _ l hneI its).toS) s.heap.objs.size hSf (λi=>ns.getD i 0) hval hb (its.size - 0) 0 _ (by lia) (xR _) ⟨⟨_,zV _ rfl,rfl,rfl⟩,?ht⟩ ?hS0 ?hR
    case ht=>exact⟨_,zS _ hol',rfl,nl,rfl⟩
    case hS0 =>
     have hget:((s.heap.push { cls:=.type "set",dict:=none,data:=.set #[] 0 (.fresh 0 0 led) }).push { cls:=.type "tuple_iterator",data:=.fields #[.ref l,.int 0 0] }).get? s.heap.objs.size=some { cls:=.type "set",dict:=none,data:=.set #[] 0 (.fresh 0 0 led) }:=by exact zS _ hS
     exact SetOf_congr ((setObjOf_fresh (knd:=intKind prog w) led).setOf hget (by unfold scanBound;lia)) (λ_=>rfl) rfl
    case hR =>
     intro s' hm hS';let⟨h',g',d',tk',os'⟩:=s';have eg:g'=s.gens:=hm.gens;have ed:d'=s.drawn:=hm.drawn;have eo:os'=s.os:=hm.os;subst eg ed eo;show wpAny _ _ _ _ _ _;refine zU ?_;show wpAny _ _ (ret Value.none) _ _ _;refine zU ⟨rfl,h',tk',rfl,hS',λb o hb' e=>?_⟩;refine hm.heap b o ?_ (zS _ (zS _ e));simp?[zQ,yD,xQ,not_or];exact⟨yO hb',by rw[xG];exact yO (jJ hb')⟩
   ·cases r2 with
    | error e=>exact hr2
    | ok fl2 =>
     cases fl2 with
     | ret r =>
      let⟨rfl,h',tk,rfl,hS',hk'⟩:=hr2
      repeat (any_goals (first|assumption|wp_step))
      exact h _ _ hS' hk'
     | _=>exact hr2.elim
  | _=>exact hr.elim
end En
namespace Dl
open PySem L2 PySem.Spec PyProof.Rows
variable {env:PySem.Env}
def many(ns:List Int):Nat:=(firstMet (λi=>ns.getD i 0) ns.length).length
def Bu(hc:X.calm=true):cK X (.type "set") (λxs H Q=>∃ (a:Addr) (ns:List Int),xs=[.ref a]/\eZ X.K H a (ns.map V.int)/\ns.length+1 < scanBound/\∀q S,H q=none->Q (.ref q) (upd H q (.set S (many ns)))):=by
 intro pins s σ H xs us Q I r h;let⟨a,ns,rfl,hq,hb,q⟩:=h;let⟨u,rfl,rx⟩:=vals1 r;cases rx;let⟨its,rv,pl,hz⟩:=I.tuple hq;have hi:IntsAre its.toArray.toList ns:=intsAre_of rv;have hlen:its.toArray.size=ns.length:=by have:=rv.length;simpa using this.symm
 refine En.call_setT (I.ok.hd hc) (show s.heap.IsTuple a its.toArray from pl) hi (by rw[hlen];exact hb) λh' tk hS hk=>?_;rw[hlen] at hS;exact⟨.ref s.heap.objs.size,_,I.laid (t':=tk) (λb o e=>hk b o (zW e) e) (yJ _) (show cL X.prog X.w _ h' _ (.set _ (many ns)) from hS),rfl,q _ _ I.fresh⟩
def Br:cK X (.builtin "len") (λxs H Q=>∃ (a:Addr) (S:Int->Bool) (n:Nat),xs=[.ref a]/\H a=some (.set S n)/\Q (.int n) H):=by
 intro pins s σ H xs us Q I r h;let⟨a,S,n,rfl,hq,q⟩:=h;let⟨u,rfl,rx⟩:=vals1 r;cases rx;let⟨o,es,ep,t,ho,hex,hd,hel,hmem,hlt,hf,hn⟩:=(show s.heap.SetOf (intKind X.prog X.w) a S n from I.hok a _ hq)
 have hfit:((es.size:Nat):Int) < 2 ^ 63:=by unfold scanBound at hlt;lia
 refine call_len_set ho hex hd hf hfit ⟨.int n,H,I.tok _,⟨s.toks+1,by rw[hn]⟩,q⟩
def iV:D->Option D:=λd=>(k7 d).bind λns=>if ns.length+1 < scanBound then some (.int (many ns)) else none
def Bv(hc:X.calm=true)(B:my X "len" (.builtin "len"))(C:my X "set" (.type "set"))(h:DE X e f)(he:starEach [e] X.env=(false,eval e X.env)::starEach [] X.env:=by rfl) :
  DE X (.Call (.Name "len" p) [.Call (.Name "set" p') [e] [] pos'] [] pos) (f1 iV f) :=
 aG (lb Br B.gl B.mg B.bt (bh (lV (Bu hc) C.gl C.mg C.bt (bh h cA he) (by decide) (by decide) he rfl) cA) (by decide) (by decide) rfl rfl) λσ H Q ⟨HF,ρ,d,sm,eo,hf,q⟩=>by
  let⟨x,hx,hf⟩:=bs hf;let⟨ns,h1,hf⟩:=bs hf;split at hf
  ·rename_i hb;cases hf;refine⟨HF,ρ,x,sm,eo,hx,λv1 H1 HF1 g1 r1=>?_⟩;rw[j6 h1] at r1;simp?[Rep] at r1;let⟨a,vs,rfl,hs,rr⟩:=r1;have key:∀ {ns:List Int}{ws:List V},au X.K HF1 (ns.map PyData.int) ws->ws=ns.map V.int:=λ{ns}=>by
    induction ns with
    | nil=>exactλh=>h.nil_inv
    | cons n ns ih =>
     intro ws h;let⟨v,r,rfl,a,b⟩:=h.cons_inv;simp?[Rep] at a;rw[a,ih b];rfl
   have:=key rr;subst this;refine⟨a,ns,rfl,ay g1.fh hs,hb,λb S hb'=>⟨b,S,_,rfl,aD,q _ _ HF1 (g1.trans (.own g1.fh hb')) (by simp[Rep])⟩⟩
  ·cases hf
def iN(val:Nat->Int):∀i,(firstMet val i).length=i↔((List.range i).map val).Nodup
 | 0=>by simp[firstMet]
 | i+1=>by
  have hle:=firstMet_length_le val i;rw[firstMet_succ,step_length,List.range_succ,qU,List.nodup_append];have ha:=firstMet_any val i (val i);have ih:=iN val i;constructor
  ·intro h;by_cases hin:(firstMet val i).any (· == val i)=true
   ·rw[yI hin] at h;lia
   ·rw[yK hin] at h;refine⟨ih.mp (by lia),by simp,λa hm b hb z=>?_⟩;have hb':b=val i:=by simpa using hb
    subst z hb';rw[ha] at hin;exact hin (List.any_eq_true.mpr ⟨_,hm,by simp⟩)
  ·rintro⟨h1,_,h3⟩;rw[yK ?_]
   ·rw[ih.mpr h1]
   ·rw[ha];intro hin;let⟨x,hx,he⟩:=List.any_eq_true.mp hin;have he':x=val i:=by simpa using he
    exact h3 x hx (val i) (by simp) he'
def wZ(ns:List Int):many ns=ns.length↔ns.Nodup:=by
 unfold many;rw[iN];have:(List.range ns.length).map (λi=>ns.getD i 0)=ns:=iK ns 0;rw[this]
def uP{K:W.Frag}(h:da K r g)(h':da K r' g'):da K (λx y H Q=>r x y H Q\/r' x y H Q) (λx y=>(g x y).or (g' x y)):=by
 intro HF H x y v1 v2 d Q sm r1 r2 hg q;cases e:g x y with
 | some d' =>
  have hg:(g x y).or (g' x y)=some d:=hg;rw[e] at hg;cases hg;exact .inl (h HF H x y v1 v2 d Q sm r1 r2 e q)
 | none =>
  have hg:(g x y).or (g' x y)=some d:=hg;rw[e] at hg;exact .inr (h' HF H x y v1 v2 d Q sm r1 r2 hg q)
def AM{K:W.Frag}:da K (C0 K) (λx y=>(gF x y).map PyData.list):=by
 intro HF H x y v1 v2 d Q sm r1 r2 hg q;let⟨zs,hg',rfl⟩:=ag hg;clear hg;cases x<;>cases y<;>simp?[gF] at hg'<;>try cases hg'
 let⟨rfl,hz⟩:=dz hg';simp?[Rep] at r1 r2;let⟨a,vs,rfl,ha,ra⟩:=r1;let⟨b,us,rfl,hb,rb⟩:=r2;refine⟨a,b,vs,us,rfl,rfl,sm.seq ha,sm.seq hb,by rw[ra.length,rb.length,<- zN];exact hz,λp hp=>q _ _ _ (.new sm hp) ?_⟩;simp?[Rep];exact⟨p,_,rfl,.inl (.inl aD),(ra.append rb).mono (cD (sm.free hp))⟩
def aB:D->D->Option D:=λx y=>((sO (λ_ _=>True) λi j=>.int (i+j)) x y).or ((Ie x y).or ((gF x y).map PyData.list))
def Bk.add(C:Bk X N sc k)(ha:DE X a fa)(hb:DE X b fb):DE X (.BinOp a .Add b pos) (f2 aB fa fb):=pR (KN.or (AY.or ow)) (uP Cc (uP HZ AM)) ha hb
def jw:D->D->Option D:=sO (λ_ _=>True) λi j=>.int (i - j)
def Bk.sub(C:Bk X N sc k)(ha:DE X a fa)(hb:DE X b fb):DE X (.BinOp a .Sub b pos) (f2 jw fa fb):=pR JJ Cc ha hb
def eL:D->D->Option D:=λx y=>((sO oV λi j=>.int (i * j)) x y).or (uj x y)
def Bk.mul(C:Bk X N sc k)(ha:DE X a fa)(hb:DE X b fb):DE X (.BinOp a .Mult b pos) (f2 eL fa fb):=pR (JE.or Iu) (uP DP Dc) ha hb
def lx:D->D->Option D:=sO Gs λi j=>.int (i / j)
def Bk.div(C:Bk X N sc k)(ha:DE X a fa)(hb:DE X b fb):DE X (.BinOp a .FloorDiv b pos) (f2 lx fa fb):=pR Il DP ha hb
def jr:D->D->Option D:=sO (λ_ j=>0 < j) λi j=>.int (i % j)
def Bk.mod(C:Bk X N sc k)(ha:DE X a fa)(hb:DE X b fb):DE X (.BinOp a .Mod b pos) (f2 jr fa fb):=pR JY DP ha hb
def NM:D->D->Option D:=sO (λ_ _=>True) λi j=>.bool (decide (i < j))
def Ag:D->D->Option D:=sO (λ_ _=>True) λi j=>.bool (decide (i<=j))
def uL:D->D->Option D:=sO (λ_ _=>True) λi j=>.bool (decide (j < i))
def bj:D->D->Option D:=λx y=>(IY x y).map PyData.bool
def dM:D->D->Option D:=λx y=>(JU x y).map PyData.bool
def J7:D->D->Option D:=λx y=>(OF x y).map PyData.bool
def Bk.u64(C:Bk X N sc k):X.A.units+64 < cLine:=C.room.units
def Bk.u66(C:Bk X N sc k):X.A.units+66 < cLine:=by have:=C.room.un;lia
def Bk.lt(C:Bk X N sc k)(ha:DE X a fa)(hb:DE X b fb):DE X (.Compare a [.Lt] [b] pos) (f2 NM fa fb):=dY EX iJ ha hb (cX _)
def Bk.le(C:Bk X N sc k)(ha:DE X a fa)(hb:DE X b fb):DE X (.Compare a [.LtE] [b] pos) (f2 Ag fa fb):=dY BX iJ ha hb (cX _)
def Bk.gt(C:Bk X N sc k)(ha:DE X a fa)(hb:DE X b fb):DE X (.Compare a [.Gt] [b] pos) (f2 uL fa fb):=dY IU iJ ha hb (cX _)
def Bk.eq(C:Bk X N sc k)(ha:DE X a fa)(hb:DE X b fb):DE X (.Compare a [.Eq] [b] pos) (f2 bj fa fb):=dY (EA C.u64) d0 ha hb (cX _)
def Bk.ne(C:Bk X N sc k)(ha:DE X a fa)(hb:DE X b fb):DE X (.Compare a [.NotEq] [b] pos) (f2 dM fa fb):=dY (Fq C.u64) d0 ha hb (cX _)
def Bk.isin(C:Bk X N sc k)(ha:DE X a fa)(hb:DE X b fb)(hm:behindInMarks .In b=false:=by rfl):DE X (.Compare a [.In] [b] pos) (f2 J7 fa fb):=dY (Dp C.u66) d0 ha hb hm
def Bk.tlt(C:Bk X N sc k)(ha:DE X a fa)(hb:DE X b fb):DT X (.Compare a [.Lt] [b] pos) (fB (f2 NM fa fb)):=dS EX iJ ha hb (cX _)
def Bk.tle(C:Bk X N sc k)(ha:DE X a fa)(hb:DE X b fb):DT X (.Compare a [.LtE] [b] pos) (fB (f2 Ag fa fb)):=dS BX iJ ha hb (cX _)
def Bk.tgt(C:Bk X N sc k)(ha:DE X a fa)(hb:DE X b fb):DT X (.Compare a [.Gt] [b] pos) (fB (f2 uL fa fb)):=dS IU iJ ha hb (cX _)
def Bk.teq(C:Bk X N sc k)(ha:DE X a fa)(hb:DE X b fb):DT X (.Compare a [.Eq] [b] pos) (fB (f2 bj fa fb)):=dS (EA C.u64) d0 ha hb (cX _)
def Bk.tne(C:Bk X N sc k)(ha:DE X a fa)(hb:DE X b fb):DT X (.Compare a [.NotEq] [b] pos) (fB (f2 dM fa fb)):=dS (Fq C.u64) d0 ha hb (cX _)
def Bk.tin(C:Bk X N sc k)(ha:DE X a fa)(hb:DE X b fb)(hm:behindInMarks .In b=false:=by rfl):DT X (.Compare a [.In] [b] pos) (fB (f2 J7 fa fb)):=dS (Dp C.u66) d0 ha hb hm
def bJ:D->Option Int->Option Int->Option D|.tuple ds,lo,hi=>some (.tuple (cut ds lo hi))|.list ds,lo,hi=>some (.list (cut ds lo hi))|_,_,_=>none
def Bk.cut(C:Bk X N sc k){lo:Option Expr}{fl:Env->Option (Option Int)}(ha:DE X a fa)(hl:DO X lo fl)(hh:DO X hi fh):DE X (.Subscript a (.Slice lo hi none p2) pos) (cC bJ fa fl fh):=aG (ua (LR.or F4) ha hl hh) λσ H Q ⟨HF,ρ,d,sm,eo,hf,q⟩=>by
 let⟨x,hx,hf⟩:=bs hf;let⟨l,hl,hf⟩:=bs hf;let⟨u,hu,hf⟩:=bs hf;refine⟨HF,ρ,x,sm,eo,hx,λv1 H1 HF1 g1 r1=>⟨HF1,ρ,l,g1.fh,eo.mono g1.ff,hl,λH2 HF2 g2=>⟨HF2,ρ,u,g2.fh,eo.mono (g1.ff.trans g2.ff),hu,λH3 HF3 g3=>?_⟩⟩⟩;have G:=(g1.trans g2).trans g3;have r3:=r1.mono (g2.ff.trans g3.ff);cases x<;>try cases hf
 ·simp?[Rep] at r3;let⟨b,vs,rfl,hs,rr⟩:=r3;refine .inr ⟨b,vs,rfl,G.fh.seq hs,λp hp=>q _ _ _ (G.trans (.new G.fh hp)) ?_⟩;simp?[Rep];exact⟨p,_,rfl,.inl (.inl aD),(nE rr l u).mono (cD (G.fh.free hp))⟩
 ·simp?[Rep] at r3;let⟨b,vs,rfl,hs,rr⟩:=r3;refine .inl ⟨b,vs,rfl,ay G.fh hs,λe=>q _ H3 HF3 G ?_,λp hp=>q _ _ _ (G.trans (.new G.fh hp)) (cJ (G.fh.free hp) (nE rr l u))⟩;simp?[Rep];refine⟨b,vs,rfl,hs,?_⟩;have:=nE rr l u;rw[e] at this;exact this
def B7:D->Option D|.int i=>some (.int (-i))|_=>none
def Bk.neg(C:Bk X N sc k)(ha:DE X a fa):DE X (.UnaryOp .USub a pos) (f1 B7 fa):=aG (Jm C8 ha) λσ H Q ⟨HF,ρ,d,sm,eo,hf,q⟩=>by
 let⟨x,hx,hf⟩:=bs hf;refine⟨HF,ρ,x,sm,eo,hx,λv1 H1 HF1 g1 r1=>?_⟩;cases x<;>try cases hf
 exact⟨_,by simpa only[Rep] using r1,q _ H1 HF1 g1 (by simp[Rep])⟩
def wR:bootBuiltins "len"=some (.builtin "len"):=by decide +kernel
def oR:bootBuiltins "isinstance"=some (.builtin "isinstance"):=by decide +kernel
def KC:bootBuiltins "int"=some (.type "int"):=by decide +kernel
def Fx:bootBuiltins "tuple"=some (.type "tuple"):=by decide +kernel
def GB:bootBuiltins "list"=some (.type "list"):=by decide +kernel
def uv:bootBuiltins "range"=some (.type "range"):=by decide +kernel
def Lg:bootBuiltins "all"=some (.builtin "all"):=by decide +kernel
def Km:bootBuiltins "set"=some (.type "set"):=by decide +kernel
def Bi:bootBuiltins "sorted"=some (.builtin "sorted"):=by decide +kernel
def sH:bootBuiltins "enumerate"=some (.type "enumerate"):=by decide +kernel
def J8:bootBuiltins "zip"=some (.type "zip"):=by decide +kernel
abbrev bM(f:Env->Option (List D)):Env->Option D:=λρ=>(f ρ).map PyData.list
abbrev cm:List D->Option D:=λds=>(br ds).map PyData.tuple
def Bk.locl(C:Bk X N sc k)(h:decide (sc.names.lookup x=some .local)=true):X.env.scope.names.lookup x=some .local:=by
 rcases C.tb x _ (yN h) with q|⟨q,_⟩
 ·exact q
 ·cases q
def isStar:Expr->Bool|.Starred ..=>true|_=>false
def aV(h:isStar e=false):starEach (e::es) env=(false,eval e env)::starEach es env:=by
 cases e<;>first|rfl|cases h
def KM(he:DE X e f)(hs:DA X es g)(h:isStar e=false:=by rfl):DA X (e::es) (aa f g):=G7 he hs (aV h)
def oh:swapsWith (.ListComp elt gens scope pos) (some (.Name x py)) line env=pure (env.blockKind == .function&&env.kindOf x == some .local && py.line == pos.line
     &&!(scope.names.any λ(n,k)=>n == x&&(k == .local || k == .cell))):=rfl
def ID(h:env.scope.kind=.function):env.blockKind=.function:=by unfold PySem.Env.blockKind;rw[h];rfl
def Bk.swap(C:Bk X N sc k)(h:decide (sc.names.lookup x=some .local)=true)(h2:(py.line == pos.line&&!(scope.names.any λ(n,k)=>n == x&&(k == .local || k == .cell)))=true) :
  swapsWith (.ListComp elt gens scope pos) (some (.Name x py)) line X.env=pure true:=by
 rw[oh,ID C.kd,show X.env.kindOf x=some .local from C.locl h];rw[Bool.and_assoc,h2];rfl
def Bk.noswap(C:Bk X N sc k)(h:decide (sc.names.lookup x=some .cell)=true) :
  swapsWith (.ListComp elt gens scope pos) (some (.Name x py)) line X.env=pure false:=by
 have q:X.env.kindOf x=some .cell:=by
  rcases C.tb x _ (yN h) with q|⟨q,_⟩
  ·exact q
  ·cases q
 rw[oh,q,ID C.kd];rfl
section
variable {K:W.Frag}
structure gh(K:W.Frag)(x:Str)(st:Stmt)(ps:List Str):Prop where
 ex:∃ (f:Addr) (fd:FuncData),W.nsIn K mainGlobals x=some (some (.ref f))/\C4 K x x st f fd/\Binds K fd ps []
structure uY(K:W.Frag)(mg:Str->Option Value)(x:Str)(st:Stmt)(ps:List Str):Prop where
 ex:∃ (f:Addr) (fd:FuncData),mg x=some (.ref f)/\C4 K x x st f fd/\Binds K fd ps []
def gh.mg{h:Heap}{mg:Str->Option Value}{st:Stmt}(D:gh K x st ps)(X:K.In h)(G:h.Ns mainGlobals mg):uY K mg x st ps:=by
 let⟨f,fd,a,b,c⟩:=D.ex;exact⟨f,fd,W.mg_of X G a,b,c⟩
def lQ(st:Stmt)(ps:List Str):Prop:=∀ (x qual:Str) (kV doc pm:Value) (an:Option Addr) (cdv ct:Value) (us:List Value),us.length=ps.length->bindArgs (W.fnOf x qual (fF st) (bc st) (ai st) .none kV doc pm an cdv ct) ⟨us,[]⟩=pure (ps.zip us)
def Na{st:Stmt}{kV:Value}(hb:lQ st ps)(a:W.nsIn K mainGlobals x=some (some (.ref f)))(l:K.lookup f=some ⟨oc,od,.func (W.fnOf x x (fF st) (bc st) (ai st) .none kV doc pm an cdv ct),osl⟩)
  (c:W.codeIn K cdv x=true) (k:W.keepIn K (.ref f)=true):gh K x st ps:=⟨f,_,a,EK (st:=st) l c k,(EK (st:=st) l c k).binds λkV doc pm an cdv ct us h=>hb _ _ kV doc pm an cdv ct us h⟩
structure Pp(K:W.Frag)(x:Str)(st:Stmt)(ps:List Str):Prop where
 ex:∃ (f:Addr) (fd:FuncData) (c P:Addr),W.nsIn K mainGlobals x=some (some (.ref f))/\C4 K x x st f fd/\Binds K fd ps []/\fd.code=.ref c/\W.codeHdIn K c P=true
structure Ql(K:W.Frag)(mg:Str->Option Value)(x:Str)(st:Stmt)(ps:List Str):Prop where
 ex:∃ (f:Addr) (fd:FuncData) (c P:Addr),mg x=some (.ref f)/\C4 K x x st f fd/\Binds K fd ps []/\fd.code=.ref c/\W.codeHdIn K c P=true
def Kr{K:W.Frag}(h:(cw.all λx=>match W.nsIn K mainGlobals x with|some none=>true|_=>false)=true):∀x∈cw,W.nsIn K mainGlobals x=some none:=by
 intro x hx;have:=List.all_eq_true.mp h x hx;split at this
 ·assumption
 ·cases this
def vh{K:W.Frag}{H:Hp}{a:Addr}{ns:List Int}{m:List D->Option D}(hS:fD K H a (ns.map V.int))(hT:di K H)(h:m [.list (ns.map PyData.int)]=some (.bool true)){X:_}:Nz K 1 m [.ref a] H (λv _=>v=.bl true) X:=by
 refine⟨H,[.list (ns.map PyData.int)],.bool true,.refl _,hT,au.cons ?_ au.nil,rfl,h,λv H' HF' G r=>by simpa only[Rep] using r⟩;simp?[Rep];refine⟨a,_,rfl,hS,?_⟩;clear h hS hT
 induction ns with
 | nil=>exact au.nil
 | cons n ns ih=>exact au.cons (by simp[Rep]) ih
end
def NY(h:isStar e=false)(he:DE X e f)(hs:DA X es g):DA X (e::es) (aa f g):=KM he hs h
def Cm:ar->Option Out:=λ_=>none
def Mo{st:Stmt}:DS X HF₀ H₀ st Cm:=λpins s σ H E I ⟨HF,ρ,o,S,hg,q⟩=>by cases hg
def gJ(f:Env->Option D):ar->Option Out:=λρ=>(f (aL ρ)).map λ_=>.nx ρ
def F1(hs:swapsWith e none pos.line X.env=pure false)(h:DE X e f):DS X HF₀ H₀ (.Expr e pos) (gJ f):=bO (kr h hs) λE σ H ⟨HF,ρ,o,S,hg,q⟩=>by
 let⟨d,h,rfl⟩:=ag hg;exact⟨H,aL ρ,d,.refl _,S.all,h,λv H' HF' G r=>q σ H' HF (S.step G.hh) (.refl _)⟩
def L8(t:Env->Option Bool)(gb:ar->Option Out):Nat->ar->Option Out
 | 0,_=>none
 | n+1,ρ=>(t (aL ρ)).bind λb=>if b=true then (gb ρ).bind fun|.nx ρ'=>L8 t gb n ρ'|.rt d=>some (.rt d) else some (.nx ρ)
def DR(n:Nat)(hp:PassesOwn (model X.prog X.w) X.A X.env X.xe)(hc:DT X c t)(hb:xk X HF₀ H₀ body gb):DS X HF₀ H₀ (.While c body [] pos) (L8 t gb n) :=
 bO (E6 hp hc hb) λE σ H ⟨HF,ρ,o,S,hg,q⟩=>by
  refine⟨λm σ' H'=>∃HF' ρ',eh X.K HF₀ H₀ HF' H' ρ' σ'/\aH HF HF'/\L8 t gb m ρ'=some o,⟨n,HF,ρ,S,.refl _,hg⟩,?_⟩;rintro m σ' H' ⟨HF',ρ',S',s',hf⟩;cases m with
  | zero=>cases hf
  | succ m =>
   unfold L8 at hf;let⟨b,hb,hf⟩:=bs hf;refine⟨H',aL ρ',b,.refl _,S'.all,hb,λH1 HF1 G=>?_⟩;cases b with
   | false =>
    rw[yK yW] at hf ⊢;cases hf;exact q σ' H1 HF' (S'.step G.hh) s'
   | true =>
    rw[yI rfl] at hf ⊢;let⟨o1,h2,hf⟩:=bs hf;refine⟨λσ2 H3=>∃HF3 ρ3,eh X.K HF₀ H₀ HF3 H3 ρ3 σ2/\aH HF HF3/\L8 t gb m ρ3=some o,λσ2 H3 ⟨HF3,ρ3,a1,a2,a3⟩=>⟨m,kE _,HF3,ρ3,a1,a2,a3⟩,HF',ρ',o1,S'.step G.hh,h2,?_⟩;cases o1 with
    | nx ρ2=>exactλσ4 H4 HF4 S4 s4=>⟨HF4,ρ2,S4,s'.trans s4,hf⟩
    | rt d=>cases hf;exact q
def Ll:List D->Option D
 | [.int a,.int b]=>some (.int (min a b))
 | [.int a,.int b,.int c]=>some (.int (min (min a b) c))
 | _=>none
def Cz(hc:X.calm=true):cK X (.builtin "min") (λxs H Q=>(∃a b:Int,xs=[.int a,.int b]/\Q (.int (min a b)) H)\/(∃a b c:Int,xs=[.int a,.int b,.int c]/\Q (.int (min (min a b) c)) H)):=by
 intro pins s σ H xs us Q I r h;have hh:X.A.handled=none:=I.ok.hd hc;rcases h with ⟨a,b,rfl,q⟩|⟨a,b,c,rfl,q⟩
 ·cases r with
  | cons r1 r =>
   cases r with
   | cons r2 r =>
    cases r;let⟨t,rfl⟩:=r1;let⟨u,rfl⟩:=r2;refine min_two_ints hh λh' tk kp=>⟨.int (min a b),H,I.kept (t':=tk) kp,?_,q⟩
    by_cases h:b < a
    ·rw[yI h,show min a b=b by lia];exact⟨_,rfl⟩
    ·rw[yK h,show min a b=a by lia];exact⟨_,rfl⟩
 ·cases r with
  | cons r1 r =>
   cases r with
   | cons r2 r =>
    cases r with
    | cons r3 r =>
     cases r;let⟨t,rfl⟩:=r1;let⟨u,rfl⟩:=r2;let⟨x,rfl⟩:=r3;refine min_three_ints hh λh' tk kp=>⟨.int (min (min a b) c),H,I.kept (t':=tk) kp,?_,q⟩
     by_cases h:b < a
     ·rw[yI h];by_cases h2:c < b
      ·rw[yI h2,show min (min a b) c=c by lia];exact⟨_,rfl⟩
      ·rw[yK h2,show min (min a b) c=b by lia];exact⟨_,rfl⟩
     ·rw[yK h];by_cases h2:c < a
      ·rw[yI h2,show min (min a b) c=c by lia];exact⟨_,rfl⟩
      ·rw[yK h2,show min (min a b) c=a by lia];exact⟨_,rfl⟩
def tG{K:W.Frag}(r:Rep K H d v):∀ {ds:List D}{vs:List V}(j:Nat),au K H ds vs->au K H (ds.set j d) (vs.set j v)
 | [],vs,j,h=>by rw[h.nil_inv];exact au.nil
 | x::ds,vs,j,h=>by
  let⟨u,us,rfl,a,b⟩:=h.cons_inv;cases j with
  | zero=>exact au.cons r b
  | succ j=>exact au.cons a (tG r j b)
def Bg(i:Nat)(fz:List Nat)(fk f:Env->Option D):ar->Option Out:=λρ=>(nH fz f ρ).bind λp=>(fk (aL p.2)).bind λkd=>match kd with
 | .int k=>oZ i (λds=>(Do ds.length k).map λj=>ds.set j p.1) p.2
 | _=>none
def Fv(i:Nat)(fz:List Nat)(hN:X.N[i]?=some x)(hv:FA X.env.scope x)(hk:DE X e fk)(h:DE X e2 f)(hd:(x == ("__debug__":Str))=false:=by decide)(hcd:(x == ("__classdict__":Str))=false:=by decide)
  (ha:∀v,assign (.Subscript (.Name x px) e spos) X.env v=(do
   let ov <- holding [v] (eval (.Name x px) X.env)
   let iv <- holding [v,ov] (eval e X.env)
   standAt spos
   holding [v,ov,iv] (setItem ov iv v)
   release [v,ov,iv] []):=by intro _;rfl)
  (hs:swapsWithSole [.Subscript (.Name x px) e spos] e2 pos.line X.env=pure false:=by rfl) (hw:swappedStores [.Subscript (.Name x px) e spos] e2 X.env=pure none:=by rfl)
  (h1:(assignEach [.Subscript (.Name x px) e spos] X.env).map (·.2)=[assign (.Subscript (.Name x px) e spos) X.env]:=by rfl):DS X HF₀ H₀ (.Assign [.Subscript (.Name x px) e spos] e2 pos) (Bg i fz fk f) :=
 bO (Dv h (BP (gQ hN hv hd hcd) hk set_list ha) hs hw h1) λE σ H ⟨HF,ρ,o,S,hg,q⟩=>by
  let⟨⟨d,ρ'⟩,h1,hg⟩:=bs hg;let⟨kd,h2,hg⟩:=bs hg;cases kd<;>try cases hg
  rename_i k;let⟨ds,es,h3,h4,rfl⟩:=iT hg;let⟨j,hj,rfl⟩:=ag h4;refine lS S h1 λv H1 HF1 s1 S1 s2 r=>?_;let⟨a,vs,e1,e2,e3,e5,e4⟩:=S1.own i ds h3;refine⟨.ref a,e1,H1,aL ρ',.int k,.refl _,S1.all,h2,λkv H2 HF2 G rk=>?_⟩;simp?[Rep] at rk;have S2:=S1.step G.hh;let⟨a',vs',f1,f2,f3,f5,f4⟩:=S2.own i ds h3;rw[e1] at f1;cases f1;exact⟨a,vs',k,j,rfl,rk,f2,by rw[f4.length];exact hj,q σ _ HF1 (S2.mut h3 e1 f2 (tG r j f4)) s1⟩
def Nx:D->Bool|.none=>true|_=>false
def mT{K:W.Frag}(r:Rep K HF d v):decide (v=.non)=Nx d:=by
 cases d<;>simp?[Rep] at r<;>first
  | (subst r;rfl)
  | (let⟨a,vs,rfl,_⟩:=r;rfl)
  | (let⟨a,ks,us,rfl,_⟩:=r;rfl)
  | exact r.elim
def Ec:D->D->Option D:=λx y=>if Nx y=true then some (.bool (Nx x)) else none
def sU:D->D->Option D:=λx y=>if Nx y=true then some (.bool (!Nx x)) else none
def y3{K:W.Frag}:da K (λx y H Q=>y=.non/\Q (.bl (decide (x=.non))) H) Ec:=by
 intro HF H x y v1 v2 d Q sm r1 r2 hg q;unfold Ec at hg;split at hg
 ·rename_i h;cases hg;have h2:=mT r2;rw[h,zJ] at h2;refine⟨h2,?_⟩;rw[mT r1];exact q _ H HF (.refl sm) (by simp[Rep])
 ·cases hg
def uI{K:W.Frag}:da K (λx y H Q=>y=.non/\Q (.bl (!decide (x=.non))) H) sU:=by
 intro HF H x y v1 v2 d Q sm r1 r2 hg q;unfold sU at hg;split at hg
 ·rename_i h;cases hg;have h2:=mT r2;rw[h,zJ] at h2;refine⟨h2,?_⟩;rw[mT r1];exact q _ H HF (.refl sm) (by simp[Rep])
 ·cases hg
def Bk.is0(C:Bk X N sc k)(ha:DE X a fa)(hb:DE X b fb):DE X (.Compare a [.Is] [b] pos) (f2 Ec fa fb):=dY BV y3 ha hb (cX _)
def Bk.not0(C:Bk X N sc k)(ha:DE X a fa)(hb:DE X b fb):DE X (.Compare a [.IsNot] [b] pos) (f2 sU fa fb):=dY yv uI ha hb (cX _)
def Bk.tis0(C:Bk X N sc k)(ha:DE X a fa)(hb:DE X b fb):DT X (.Compare a [.Is] [b] pos) (fB (f2 Ec fa fb)):=dS BV y3 ha hb (cX _)
def Bk.tnot0(C:Bk X N sc k)(ha:DE X a fa)(hb:DE X b fb):DT X (.Compare a [.IsNot] [b] pos) (fB (f2 sU fa fb)):=dS yv uI ha hb (cX _)
def KY(hc:X.calm=true)(B:my X "min" (.builtin "min"))(he:starEach (e::es) X.env=(false,eval e X.env)::starEach es X.env)(hpl:(backTo pos (starEach es X.env)).any (·.1)=false)(ha:DA X (e::es) fs):DE X (.Call (.Name "min" p) (e::es) [] pos) (aU Ll fs) :=
 gy (Cz hc) (by
  intro HF H ds vs d Q sm r hg q;unfold Ll at hg;split at hg
  ·cases hg;let⟨v1,r1,rfl,a1,b1⟩:=r.cons_inv;let⟨v2,r2,rfl,a2,b2⟩:=b1.cons_inv;rw[b2.nil_inv];simp?[Rep] at a1 a2;exact .inl ⟨_,_,by rw[a1,a2],q _ H HF (.refl sm) (by simp[Rep])⟩
  ·cases hg;let⟨v1,r1,rfl,a1,b1⟩:=r.cons_inv;let⟨v2,r2,rfl,a2,b2⟩:=b1.cons_inv;let⟨v3,r3,rfl,a3,b3⟩:=b2.cons_inv;rw[b3.nil_inv];simp?[Rep] at a1 a2 a3;exact .inr ⟨_,_,_,by rw[a1,a2,a3],q _ H HF (.refl sm) (by simp[Rep])⟩
  ·cases hg) B ha (by decide) (by decide) he hpl
section
variable {fl fs:Env->Option (List D)}
def Aa(ds:List D):D->Option (List D)
 | .int k=>if oX k=true/\ds.length * k.toNat<=sizeLine then some (List.replicate k.toNat ds).flatten else none
 | _=>none
def tM(fl:Env->Option (List D))(fb:Env->Option D):Env->Option (List D):=λρ=>(fl ρ).bind λds=>(fb ρ).bind (Aa ds)
def LS(ha:DF X a fl)(hb:DE X b fb):DF X (.BinOp a .Mult b pos) (tM fl fb):=aG (w8 Kb ha hb) λσ H Q ⟨HF,ρ,d,sm,eo,hf,q⟩=>by
 let⟨ds,hx,hf⟩:=bs hf;let⟨y,hy,hg⟩:=bs hf;refine⟨HF,ρ,ds,sm,eo,hx,λl vs H1 HF1 g1 h0 hn h1 r1=>⟨HF1,ρ,y,g1.fh,eo.mono g1.ff,hy,λv2 H2 HF2 g2 r2=>?_⟩⟩;cases y<;>try cases hg
 rename_i k;have hg:(if oX k=true/\ds.length * k.toNat<=sizeLine then some (List.replicate k.toNat ds).flatten else none)=some d:=hg;split at hg
 ·rename_i hz;cases hg;simp?[Rep] at r2;have r1:=r1.mono g2.ff;have G:=g1.trans g2;have ok:=hz.1;simp?[oX,zF,zJ] at ok;exact⟨l,k,vs,rfl,r2,g2.hh _ _ h1,by lia,by lia,by rw[r1.length];exact hz.2,λp hp=>q p _ _ HF2 (G.trans (.own G.fh hp)) (G.hh.free hp) (G.fh.free hp) aD (k6 r1 _)⟩
 ·cases hg
def we(hc:X.calm=true):cK X (.builtin "any") (λxs H Q=>∃ (a:Addr) (bs:List Bool),xs=[.ref a]/\fD X.K H a (bs.map V.bl)/\Q (.bl (bs.any id)) H):=by
 intro pins s σ H xs us Q I r h;let⟨a,bs,rfl,hq,q⟩:=h;let⟨u,rfl,rx⟩:=vals1 r;cases rx;let⟨its,rv,pl,hz⟩:=I.list hq;have hv:=jh rv;subst hv;have hh:X.A.in1.handled=none:=I.ok.hd hc;refine call_any_walk (qG pl.isList ?_);let⟨o,ho,hcl,n,hd⟩:=pl.isList;have hne:a≠s.heap.objs.size:=yO (zW ho);refine⟨_,_,_,_,_,_,λi=>bs.getD i false,rfl,Walks.list hh s.heap.objs.size a hne (bs.map Value.bool).toArray,⟨⟨_,zV _ rfl,rfl,rfl⟩,pl.isList.push _⟩,λi v s' Q' E' hP hQ=>?_,λh' tk kp=>?_⟩
 ·have e:v=Value.bool (bs.getD i false):=by
   have hP:(bs.map Value.bool).toArray[i]?=some v:=hP;rw[vI,zO] at hP;let⟨b,hb,rfl⟩:=ag hP;rw[zG,hb];rfl
  subst e;exact xS hQ
 ·refine⟨.bl (bs.any id),H,?_,?_,q⟩
  ·exact I.kept (t':=tk) λb o' e=>kp b o' (by simp;exact yO (zW e)) (zS _ e)
  ·show Value.bool _=Value.bool _;have:=range_any bs;simp?[zH,zD];rw[this]
end
def LP(hc:X.calm=true)(B:my X "any" (.builtin "any"))(he:starEach [e] X.env=(false,eval e X.env)::starEach [] X.env)(ha:DA X [e] fs):DE X (.Call (.Name "any" p) [e] [] pos) (aU (λds=>(oneOf ds).bind λd=>match d with
 | .list es=>(boolsOf es).map λbs=>.bool (bs.any id)
 | _=>none) fs) :=
 gy (we hc) (by
  intro HF H ds vs d Q sm r hg q;let⟨x,hx,hg⟩:=bs hg;rw[e8 hx] at r;cases x<;>try cases hg
  let⟨bs,hb,rfl⟩:=ag hg;let⟨v,r',rfl,a,b⟩:=r.cons_inv;rw[b.nil_inv];simp?[Rep] at a;let⟨p,us,rfl,h,rr⟩:=a;rw[gO hb] at rr;have:=dw rr;subst this;exact⟨p,bs,rfl,sm.seq h,q _ H HF (.refl sm) (by simp[Rep])⟩) B ha (by decide) (by decide) he rfl
def me(ns:List Int):∀j:Nat,preSum (λi=>ns.getD i 0) j=(ns.take j).sum
 | 0=>by simp[preSum]
 | j+1=>by
  rw[preSum,me ns j,List.take_add_one,List.sum_append]
  congr 1
  rw[zG];cases ns[j]?<;>simp
def pI(val:Nat->Int)(B:Int)(h:∀i,-B<=val i/\val i<=B):∀j:Nat,-(B * j)<=preSum val j/\preSum val j<=B * j
 | 0=>by simp[preSum]
 | j+1=>by
  have ih:=pI val B h j;have:=h j;rw[preSum];have e:B * ((j+1:Nat):Int)=B * (j:Int)+B:=by rw[Int.natCast_add,Int.mul_add];simp
  rw[e];lia
def IX(ns:List Int):Bool:=decide (ns.length<=1000)&&ns.all λn=>decide (-1000000<=n)&&decide (n<=1000000)
def JB(h:IX ns=true):ns.length<=1000/\∀i,-1000000<=ns.getD i 0/\ns.getD i 0<=1000000:=by
 unfold IX at h;rw[zF,zJ,xD] at h;refine⟨h.1,λi=>?_⟩;rw[zG];cases e:ns[i]? with
 | none=>simp
 | some n =>
  have:=h.2 n (xY e);simpa using this
def m5{ns:List Int}{its:List Value}(r:aE (ns.map V.int) its){i:Nat}(h:its.toArray[i]?=some v):∃t,v=.int (ns.getD i 0) t:=by
 rw[vI] at h
 induction ns generalizing its i with
 | nil=>cases r;simp at h
 | cons n ns ih =>
  cases r with
  | cons r1 rr =>
   cases i with
   | zero =>
    simp?[xN,Option.some.injEq] at h;subst h;let⟨t,rfl⟩:=r1;exact⟨t,rfl⟩
   | succ i =>
    simp?[yV] at h;exact ih rr h
def wU(hc:X.calm=true):cK X (.builtin "sum") (λxs H Q=>∃ (a:Addr) (ns:List Int),xs=[.ref a]/\(fD X.K H a (ns.map V.int)\/eZ X.K H a (ns.map V.int))/\IX ns=true/\Q (.int ns.sum) H):=by
 intro pins s σ H xs us Q I r h;let⟨a,ns,rfl,hq,hok,q⟩:=h;let⟨u,rfl,rx⟩:=vals1 r;cases rx;have hh:X.A.in1.handled=none:=I.ok.hd hc;let⟨hlen,hbd⟩:=JB hok;have hin:∀n:Nat,n<=1000->∀j,j < n->InLong ((λi=>ns.getD i 0) j)/\InLong (preSum (λi=>ns.getD i 0) (j+1)):=λn hn j hj=>by
  have h1:=hbd j;have h2:=pI (λi=>ns.getD i 0) 1000000 hbd (j+1);refine⟨⟨?_,?_⟩,?_,?_⟩
  ·show -(2 ^ 63)<=ns.getD j 0;lia
  ·show ns.getD j 0 < 2 ^ 63;lia
  ·lia
  ·lia
 have hsum:preSum (λi=>ns.getD i 0) ns.length=ns.sum:=by rw[me,List.take_length]
 rcases hq with hq|hq
 ·let⟨its,rv,pl,hz⟩:=I.list hq;have hl:its.length=ns.length:=by rw[<- rv.length,zD]
  refine call_sum_walk (qG pl.isList ?_);let⟨o,ho,hcl,n,hd⟩:=pl.isList;have hlt:=zW ho;have hne:a≠s.heap.objs.size:=yO hlt;refine⟨_,_,_,_,_,_,λi=>ns.getD i 0,rfl,Walks.list hh s.heap.objs.size a hne its.toArray,⟨⟨_,zV _ rfl,rfl,rfl⟩,pl.isList.push _⟩,λb hb=>?_,λi v hP=>m5 rv hP,by rw[zH,hl];exact hin _ hlen,λh' tk t' kp=>?_⟩
  ·show b < (s.heap.push _).objs.size;rw[xG];simp?[zQ,yD,xQ] at hb;rcases hb with rfl|rfl
   ·exact kE _
   ·exact jJ hlt
  ·refine⟨.int ns.sum,H,I.kept (t':=tk) λb o' e=>kp b o' (by simp;exact yO (zW e)) (zS _ e),⟨t',?_⟩,q⟩;rw[zH,hl,hsum]
 ·let⟨its,rv,pl,hz⟩:=I.tuple hq;have pl:s.heap.IsTuple a its.toArray:=pl;have hl:its.length=ns.length:=by rw[<- rv.length,zD]
  refine call_sum_walk (xO pl ?_);let⟨o,ho,hcl,n,hd⟩:=id pl;have hlt:=zW ho;have hne:a≠s.heap.objs.size:=yO hlt;refine⟨_,_,_,_,_,_,λi=>ns.getD i 0,rfl,Walks.tuple hh s.heap.objs.size a hne its.toArray,⟨⟨_,zV _ rfl,rfl,rfl⟩,pl.push _⟩,λb hb=>?_,λi v hP=>m5 rv hP,by rw[zH,hl];exact hin _ hlen,λh' tk t' kp=>?_⟩
  ·show b < (s.heap.push _).objs.size;rw[xG];simp?[zQ,yD,xQ] at hb;rcases hb with rfl|rfl
   ·exact kE _
   ·exact jJ hlt
  ·refine⟨.int ns.sum,H,I.kept (t':=tk) λb o' e=>kp b o' (by simp;exact yO (zW e)) (zS _ e),⟨t',?_⟩,q⟩;rw[zH,hl,hsum]
def nr:List D->Option D:=λds=>(br ds).bind λes=>(intsOf es).bind λns=>if IX ns=true then some (.int ns.sum) else none
def gD{K:W.Frag}:∀ {ns:List Int}{vs:List V},au K H (ns.map PyData.int) vs->vs=ns.map V.int
 | [],vs,h=>h.nil_inv
 | b::bs,vs,h=>by
  let⟨v,r,rfl,a,c⟩:=h.cons_inv;simp?[Rep] at a;rw[a,gD c];rfl
def KI(hc:X.calm=true)(B:my X "sum" (.builtin "sum"))(he:starEach [e] X.env=(false,eval e X.env)::starEach [] X.env)(ha:DA X [e] fs):DE X (.Call (.Name "sum" p) [e] [] pos) (aU nr fs) :=
 gy (wU hc) (by
  intro HF H ds vs d Q sm r hg q;let⟨es,h1,hg⟩:=bs hg;let⟨ns,h2,hg⟩:=bs hg;have hg:(if IX ns=true then some (PyData.int ns.sum) else none)=some d:=hg;split at hg
  ·rename_i hok;cases hg;have e2:=cP h2;subst e2;rcases fM h1 with rfl|rfl
   all_goals
    let⟨v,r',rfl,a,b⟩:=r.cons_inv;rw[b.nil_inv];simp?[Rep] at a;let⟨p,us,rfl,h,rr⟩:=a;have:=gD rr;subst this
   ·exact⟨p,ns,rfl,.inr (ay sm h),hok,q _ H HF (.refl sm) (by simp[Rep])⟩
   ·exact⟨p,ns,rfl,.inl (sm.seq h),hok,q _ H HF (.refl sm) (by simp[Rep])⟩
  ·cases hg) B ha (by decide) (by decide) he rfl
def L9(i:Int):Value->Bool|.int a _=>a == i|_=>false
def AF:FM X "list.index" (λx vs H Q=>∃ (l:Addr) (ns:List Int) (i:Int) (j:Nat),x=.ref l/\vs=[.int i]/\fD X.K H l (ns.map V.int)/\ns[j]?=some i/\(∀m,m < j->ns[m]?≠some i)/\Q (.int j) H):=by
 intro pins s σ H x vs v us Q I rx rv h;let⟨l,ns,i,j,rfl,rfl,hq,hj,hno,q⟩:=h;cases rx;let⟨u,rfl,ru⟩:=rv.one;let⟨t,rfl⟩:=ru;let⟨its,r,pl,hz⟩:=I.list hq;let⟨⟨cls,dd,data,sl⟩,ho,hc,n,hd⟩:=id pl.isList;simp only at hc hd;subst hc hd;have hl:its.length=ns.length:=by rw[<- r.length,zD]
 have hj1:j < ns.length:=(List.getElem?_eq_some_iff.mp hj).1;have hz':ns.length<=sizeLine:=by rw[zD] at hz;exact hz
 have hs63:(sizeLine:Nat) < 2 ^ 62:=by decide
 have at_:∀m (hm:m < its.toArray.size),∃t',its.toArray[m]=.int (ns.getD m 0) t':=λm hm=>m5 r (jT hm);refine qS F.slot_list_index ⟨_,ho,rfl⟩ F.entry_list_index (F.args_list_index_2 _ _) (PySem.SeqAt.list_indexAt l its.toArray n dd sl (.int i t) (L9 i) j (by rw[zH,hl];exact hj1) (by lia) ?_ ?_) ⟨ho,?_,?_⟩
 ·let⟨t',e⟩:=at_ j (by rw[zH,hl];exact hj1);rw[e,L9,zG,hj];simp
 ·intro m hm hmj;let⟨t',e⟩:=at_ m hm;have hm':m < ns.length:=by lia
  have:=hno m hmj;rw[e,L9,zG];rw[zK hm'] at this ⊢;simp?[qD,beq_eq_false_iff_ne];exactλh=>this (by rw[h])
 ·intro y hy;let⟨m,hm,rfl⟩:=Array.getElem_of_mem hy;let⟨t',e⟩:=at_ m hm;rw[e];exact PySem.SeqAt.EqAt.int_int _ _ _ _
 ·exact⟨.int j,H,I.tok _,⟨_,rfl⟩,q⟩
def AI(i:Int):List Int->Option Nat
 | []=>none
 | n::ns=>if n=i then some 0 else (AI i ns).map (·+1)
def lz:∀ {ns:List Int}{j:Nat},AI i ns=some j->ns[j]?=some i/\∀m,m < j->ns[m]?≠some i
 | [],j,h=>by cases h
 | n::ns,j,h=>by
  unfold AI at h;split at h
  ·cases h;rename_i e;exact⟨by rw[e];rfl,λm hm=>absurd hm (vD _)⟩
  ·rename_i e;let⟨k,hk,rfl⟩:=ag h;let⟨a,b⟩:=lz hk;refine⟨by simpa using a,λm hm=>?_⟩;cases m with
   | zero=>simpa using e
   | succ m=>simpa using b m (by lia)
def Oq:D->D->Option D
 | .list es,.int i=>(intsOf es).bind λns=>(AI i ns).map λj=>.int ((j:Nat):Int)
 | _,_=>none
def CS{fo:Env->Option D}(hbase:attributeBase o "index" X.env (eval o X.env)=eval o X.env)
  (hfew:((backTo cpos (starEach [e] X.env)).all (λx=>!x.1)&&(backToKw cpos (keywordEach [] X.env)).all (λx=>x.1.isSome)&&decide ([e].length+([]:List Keyword).length+(if ([]:List Keyword).isEmpty then 0 else 1) < 30))=true)
  (hline:(apos.endLine == cpos.line)=true) (hs:starEach [e] X.env=(false,eval e X.env)::starEach [] X.env) (ho:DE X o fo) (he:DE X e fe):DE X (.Call (.Attribute o "index" apos) [e] [] cpos) (f2 Oq fo fe) :=
 aG (jf qK PySem.F.slot_list_index PySem.F.type_list_index AF ho (bh he cA hs) hbase hfew hline hs rfl) λσ H Q ⟨HF,ρ,d,sm,eo,hf,q⟩=>by
  let⟨x,hx,hf⟩:=bs hf;let⟨y,hy,hg⟩:=bs hf;refine⟨HF,ρ,x,sm,eo,hx,λv1 H1 HF1 g1 r1=>?_⟩;cases x<;>try cases hg
  cases y<;>try cases hg
  rename_i es i;let⟨ns,h1,hg⟩:=bs hg;let⟨j,h2,rfl⟩:=ag hg;have e1:=cP h1;subst e1;simp?[Rep] at r1;let⟨l,us,rfl,hq,rr⟩:=r1;have:=gD rr;subst this;refine⟨.inl ⟨rfl,_,g1.fh.seq hq⟩,HF1,ρ,.int i,g1.fh,eo.mono g1.ff,hy,λv2 H2 HF2 g2 r2=>?_⟩;simp?[Rep] at r2;let⟨a,b⟩:=lz h2;exact⟨l,ns,i,j,rfl,by rw[r2],g2.fh.seq (g2.ff.seq hq),a,b,q _ H2 HF2 (g1.trans g2) (by simp[Rep])⟩
end Dl
namespace Tx
open PySem PySem.SeqAt PyProof.Rows
open PySem.AutoSeq1 (wpAny_loadPart')
open PySem.MeetsSeq PySem.MeetsSeq2 PySem.MeetsSeq3
def wpR(f:Nat->β->Sem (ForInStep β))(I:List Nat->β->Shared->Prop)(Q:β->Shared->Prop)
  (turn:∀x rest b s,I (x::rest) b s->wpAny M A (f x b) (λr s'=>match r with|.yield b'=>I rest b' s'|.done b'=>Q b' s') E s)
  (fin:∀b s,I [] b s->Q b s) (n:Nat) (b:β) (h:I (List.range' 0 n 1) b s):wpAny M A (forIn [:n] b f) Q E s:=by
 have e:forIn [:n] b f=forIn (List.range' 0 n 1) b f:=by
  rw[Std.Legacy.Range.forIn_eq_forIn_range'];simp[Std.Legacy.Range.size]
 rw[e];exact wpAny_forIn_list f I Q turn fin _ b h
def tuple_indexAt(l:Addr)(items:Array Value)(n:Nat)(dd:Option Addr)(sl:Array (Option Value))(x:Value)(e:Value->Bool)(j:Nat)(hj:j < items.size)(h1:e items[j]=true)(h2:∀m (hm:m < items.size),m < j->e items[m]=false) :
  Meets (Builtin.«tuple.index» ⟨[.ref l,x],[]⟩)
   (λA R s=>s.heap.get? l=some { cls:=.type "tuple",dict:=dd,data:=.seq items n,slots:=sl }/\(∀y,y∈items->EqAt A.in1 s y x (e y))/\R (.ok (.ret (.int (j:Nat) s.toks))) { s with toks:=s.toks+1 }) :=
 .of_wp λprog w A R s h=>by
  let⟨hp,g,d,tk,os⟩:=s;let⟨hl,he,h⟩:=h
  wp_walk using wpAny_loadPart' hl,wpR _ (λrest b s'=>s'=⟨hp,g,d,tk,os⟩/\b.1=none/\∃i,i<=j/\rest=List.range' i (items.size - i) 1) _
  case turn =>
   rintro i rest b s' ⟨rfl,hb,i',hi,e1⟩;have hlt:i' < items.size:=by lia
   rw[show items.size - i'=(items.size - (i'+1))+1 by lia,List.range'_succ] at e1;injection e1 with e2 e3
   subst e2;subst e3;simp?[jT hlt];refine zT (he _ (Array.getElem_mem hlt) prog w _ _ ?_);by_cases hij:i=j
   ·subst hij;rw[h1]
    wp_walk
    exact⟨_,rfl,h⟩
   ·rw[h2 i hlt (by lia)]
    wp_walk
    exact⟨rfl,rfl,i+1,by lia,rfl⟩
  case fin =>
   rintro b s' ⟨rfl,hb,i,hi,e1⟩;have:=qX List.length e1;simp at this;lia
  case h =>
   exact⟨rfl,rfl,0,xR _,by simp⟩
end Tx
namespace Dl
open PySem L2 PySem.Spec PyProof.Rows
def Bs:FM X "tuple.index" (λx vs H Q=>∃ (l:Addr) (ns:List Int) (i:Int) (j:Nat),x=.ref l/\vs=[.int i]/\eZ X.K H l (ns.map V.int)/\ns[j]?=some i/\(∀m,m < j->ns[m]?≠some i)/\Q (.int j) H):=by
 intro pins s σ H x vs v us Q I rx rv h;let⟨l,ns,i,j,rfl,rfl,hq,hj,hno,q⟩:=h;cases rx;let⟨u,rfl,ru⟩:=rv.one;let⟨t,rfl⟩:=ru;let⟨its,r,pl,hz⟩:=I.tuple hq;let⟨⟨cls,dd,data,sl⟩,ho,hc,n,hd⟩:=id pl;simp only at hc hd;subst hc hd;have hl:its.length=ns.length:=by rw[<- r.length,zD]
 have hj1:j < ns.length:=(List.getElem?_eq_some_iff.mp hj).1;have at_:∀m (hm:m < its.toArray.size),∃t',its.toArray[m]=.int (ns.getD m 0) t':=λm hm=>m5 r (jT hm);refine qS F.slot_tuple_index ⟨_,ho,rfl⟩ F.entry_tuple_index (F.args_tuple_index_2 _ _) (Tx.tuple_indexAt l its.toArray n dd sl (.int i t) (L9 i) j (by rw[zH,hl];exact hj1) ?_ ?_) ⟨ho,?_,?_⟩
 ·let⟨t',e⟩:=at_ j (by rw[zH,hl];exact hj1);rw[e,L9,zG,hj];simp
 ·intro m hm hmj;let⟨t',e⟩:=at_ m hm;have hm':m < ns.length:=by
   rw[zH] at hm;lia
  have:=hno m hmj;rw[e,L9,zG];rw[zK hm'] at this ⊢;simp?[qD,beq_eq_false_iff_ne];exactλh=>this (by rw[h])
 ·intro y hy;let⟨m,hm,rfl⟩:=Array.getElem_of_mem hy;let⟨t',e⟩:=at_ m hm;rw[e];exact PySem.SeqAt.EqAt.int_int _ _ _ _
 ·exact⟨.int j,H,I.tok _,⟨_,rfl⟩,q⟩
def Ef(h:PE X e t)(g:PE X e u):PE X e (λσ H Q=>t σ H Q\/u σ H Q):=λpins s σ H Q I q=>q.elim (h pins s σ H Q I) (g pins s σ H Q I)
def Ng:D->D->Option D
 | .list es,.int i=>(intsOf es).bind λns=>(AI i ns).map λj=>.int ((j:Nat):Int)
 | .tuple es,.int i=>(intsOf es).bind λns=>(AI i ns).map λj=>.int ((j:Nat):Int)
 | _,_=>none
def An{fo:Env->Option D}(hbase:attributeBase o "index" X.env (eval o X.env)=eval o X.env)
  (hfew:((backTo cpos (starEach [e] X.env)).all (λx=>!x.1)&&(backToKw cpos (keywordEach [] X.env)).all (λx=>x.1.isSome)&&decide ([e].length+([]:List Keyword).length+(if ([]:List Keyword).isEmpty then 0 else 1) < 30))=true)
  (hline:(apos.endLine == cpos.line)=true) (hs:starEach [e] X.env=(false,eval e X.env)::starEach [] X.env) (ho:DE X o fo) (he:DE X e fe):DE X (.Call (.Attribute o "index" apos) [e] [] cpos) (f2 Ng fo fe) :=
 aG (Ef (CS hbase hfew hline hs ho he) (jf PySem.F.plainAttrs_tuple PySem.F.slot_tuple_index PySem.F.type_tuple_index Bs ho (bh he cA hs) hbase hfew hline hs rfl)) λσ H Q ⟨HF,ρ,d,sm,eo,hf,q⟩=>by
  let⟨x,hx,hf⟩:=bs hf;let⟨y,hy,hg⟩:=bs hf;cases x<;>try cases hg
  ·cases y<;>try cases hg
   rename_i es i;exact .inl ⟨HF,ρ,d,sm,eo,by simp?[f2,hx,hy,zA];exact hg,q⟩
  ·cases y<;>try cases hg
   rename_i es i;let⟨ns,h1,hg⟩:=bs hg;let⟨j,h2,rfl⟩:=ag hg;have e1:=cP h1;subst e1;refine .inr ⟨HF,ρ,_,sm,eo,hx,λv1 H1 HF1 g1 r1=>?_⟩;simp?[Rep] at r1;let⟨l,us,rfl,hq,rr⟩:=r1;have:=gD rr;subst this;refine⟨?_,HF1,ρ,.int i,g1.fh,eo.mono g1.ff,hy,λv2 H2 HF2 g2 r2=>?_⟩
   ·first|exact .inr (.inl ⟨rfl,_,ay g1.fh hq⟩)|exact .inl ⟨rfl,_,ay g1.fh hq⟩|exact .inr ⟨rfl,_,ay g1.fh hq⟩
   ·simp?[Rep] at r2;let⟨a,b⟩:=lz h2;exact⟨l,ns,i,j,rfl,by rw[r2],ay g2.fh (ay g2.ff hq),a,b,q _ H2 HF2 (g1.trans g2) (by simp[Rep])⟩
end Dl
namespace Zp
open PySem PyProof.Rows
def IsI(b:Bool)(h:Heap)(it l:Addr)(k:Nat):Prop:=match b with|true=>h.IsTupleIter it l k|false=>h.IsListIter it l k
def IsS(b:Bool)(h:Heap)(l:Addr)(xs:Array Value):Prop:=match b with|true=>h.IsTuple l xs|false=>h.IsList l xs
def IsI.obj(x:IsI b h it l k):∃o,h.get? it=some o/\∀v,o.data≠.cell v:=by
 cases b
 ·let⟨o,e,_,d⟩:=(show h.IsListIter it l k from x);exact⟨o,e,λv q=>by rw[d] at q;cases q⟩
 ·let⟨o,e,_,d⟩:=(show h.IsTupleIter it l k from x);exact⟨o,e,λv q=>by rw[d] at q;cases q⟩
def IsI.at(x:IsI b h it l k)(e:∀o,h.get? it=some o->h'.get? it=some o):IsI b h' it l k:=by
 cases b
 ·exact Heap.IsListIter.at x e
 ·exact Heap.IsTupleIter.at x e
def IsI.extBut(x:IsI b h it l k)(e:Heap.ExtBut a h h')(n:it≠a):IsI b h' it l k:=x.at λo q=>e it o n q
def IsS.at(x:IsS b h l xs)(e:∀o,h.get? l=some o->h'.get? l=some o):IsS b h' l xs:=by
 cases b
 ·let⟨o,q,r⟩:=(show h.IsList l xs from x);exact⟨o,e o q,r⟩
 ·let⟨o,q,r⟩:=(show h.IsTuple l xs from x);exact⟨o,e o q,r⟩
def IsS.extBut(x:IsS b h l xs)(e:Heap.ExtBut a h h')(n:l≠a):IsS b h' l xs:=x.at λo q=>e l o n q
section
def nxt(hj:IsI b s.heap j t k)(ht:IsS b s.heap t its)(hv:its[k]?=some v)
  (hQ:∀g,IsI b g j t (k+1)->Heap.SameBut j s.heap g->Q v { s with heap:=g }):wpAny (model prog w) A (Builtin.SmallTypes.nextOf (.ref j)) Q E s:=by
 cases b
 ·exact wpAny_nextOf_list_item hj ht hv hQ
 ·exact En.nextT_item hj ht hv hQ
def nxtE{Q:Value->Shared->Prop}(hh:A.handled=none)(hj:IsI b s.heap j t k)(ht:IsS b s.heap t its)(hv:its[k]?=none)
  (hE:∀g x,Heap.ExtBut j s.heap g->(∃o,g.get? x=some o/\o.cls=.type "StopIteration")->E (.ref x) { s with heap:=g }):wpAny (model prog w) A (Builtin.SmallTypes.nextOf (.ref j)) Q E s:=by
 cases b
 ·exact wpAny_nextOf_list_end hh hj ht hv hE
 ·exact En.nextT_end hh hj ht hv hE
structure ZS(b₁ b₂:Bool)(h₀ h:Heap)(z TI TO i j l m:Addr)(xs ys:Array Value)(f:Value)(p q:Nat)(a b:Value):Prop where
 zo:IsZip h z TI TO f
 ti:IsPair h TI (.ref i) (.ref j)
 to:IsPair h TO a b
 wi:IsI b₁ h i l p
 wj:IsI b₂ h j m q
 sl:IsS b₁ h l xs
 sm:IsS b₂ h m ys
 kp:∀c o,c≠z->c≠TO->c≠i->c≠j->h₀.get? c=some o->h.get? c=some o
 sz:h.objs.size=h₀.objs.size
section
variable {z TI TO i j l m:Addr}
def ZS.fl(Z:ZS b₁ b₂ h₀ h z TI TO i j l m xs ys f p q a b)(D:ZipApart z TI TO i j l m)(e:IsZip g z TI TO f')(t:Heap.SameBut z h g):ZS b₁ b₂ h₀ g z TI TO i j l m xs ys f' p q a b :=
 ⟨e,t.extBut _ _ D.TIz Z.ti,t.extBut _ _ D.TOz Z.to,Z.wi.extBut t.extBut D.i1z,Z.wj.extBut t.extBut D.i2z,Z.sl.extBut t.extBut D.l1z,Z.sm.extBut t.extBut D.l2z,λc o n1 n2 n3 n4 r=>t.extBut _ _ n1 (Z.kp c o n1 n2 n3 n4 r),t.1.trans Z.sz⟩
def ZS.fst(Z:ZS b₁ b₂ h₀ h z TI TO i j l m xs ys f p q a b)(D:ZipApart z TI TO i j l m)(e:IsI b₁ g i l (p+1))(t:Heap.SameBut i h g):ZS b₁ b₂ h₀ g z TI TO i j l m xs ys f (p+1) q a b :=
 ⟨t.extBut _ _ D.i1z.symm Z.zo,t.extBut _ _ D.TIi1 Z.ti,t.extBut _ _ D.TOi1 Z.to,e,Z.wj.extBut t.extBut D.i12.symm,Z.sl.extBut t.extBut D.l1i1,Z.sm.extBut t.extBut D.l2i1,λc o n1 n2 n3 n4 r=>t.extBut _ _ n3 (Z.kp c o n1 n2 n3 n4 r),t.1.trans Z.sz⟩
def ZS.snd(Z:ZS b₁ b₂ h₀ h z TI TO i j l m xs ys f p q a b)(D:ZipApart z TI TO i j l m)(e:IsI b₂ g j m (q+1))(t:Heap.SameBut j h g):ZS b₁ b₂ h₀ g z TI TO i j l m xs ys f p (q+1) a b :=
 ⟨t.extBut _ _ D.i2z.symm Z.zo,t.extBut _ _ D.TIi2 Z.ti,t.extBut _ _ D.TOi2 Z.to,Z.wi.extBut t.extBut D.i12,e,Z.sl.extBut t.extBut D.l1i2,Z.sm.extBut t.extBut D.l2i2,λc o n1 n2 n3 n4 r=>t.extBut _ _ n4 (Z.kp c o n1 n2 n3 n4 r),t.1.trans Z.sz⟩
def ZS.put(Z:ZS b₁ b₂ h₀ h z TI TO i j l m xs ys f p q a b)(D:ZipApart z TI TO i j l m)(e:IsPair g TO x y)(t:Heap.SameBut TO h g):ZS b₁ b₂ h₀ g z TI TO i j l m xs ys f p q x y :=
 ⟨t.extBut _ _ D.TOz.symm Z.zo,t.extBut _ _ D.TITO Z.ti,e,Z.wi.extBut t.extBut D.TOi1.symm,Z.wj.extBut t.extBut D.TOi2.symm,Z.sl.extBut t.extBut D.l1TO,Z.sm.extBut t.extBut D.l2TO,λc o n1 n2 n3 n4 r=>t.extBut _ _ n2 (Z.kp c o n1 n2 n3 n4 r),t.1.trans Z.sz⟩
end
variable {z TI TO i j l m:Addr}
def zipN{Q:Value->Shared->Prop}(hn:A.handled=none)(D:ZipApart z TI TO i j l m)(Z:ZS b₁ b₂ s.heap s.heap z TI TO i j l m xs ys .none p q a b)
  (item:∀x y g g',xs[p]?=some x->ys[q]?=some y->ZS b₁ b₂ s.heap g z TI TO i j l m xs ys .ellipsis (p+1) (q+1) x y->IsZip g' z TI TO (rawInt g.objs.size) ->
   Heap.SameBut z (g.push { cls:=.type "tuple",data:=.seq #[x,y] }) g'->Q (.ref g.objs.size) { s with heap:=g' })
  (over:(xs[p]?=none\/ys[q]?=none)->∀g e,(∀c o,c≠z->c≠TO->c≠i->c≠j->s.heap.get? c=some o->g.get? c=some o)->(∃o,g.get? e=some o/\o.cls=.type "StopIteration")->E (.ref e) { s with heap:=g }) :
  wpAny (model prog w) A (Builtin.«zip.__next__» ⟨[.ref z],[]⟩) (λr s'=>∃v,r=.done (.ret v)/\Q v s') E s:=by
 have stop:∀ {g1 g2:Heap}{e:Addr}{c:Addr}{p' q':Nat}{a' b':Value},ZS b₁ b₂ s.heap g1 z TI TO i j l m xs ys .ellipsis p' q' a' b'->(c=i\/c=j)->(xs[p]?=none\/ys[q]?=none)->Heap.ExtBut c g1 g2 ->
   (∃o,g2.get? e=some o/\o.cls=.type "StopIteration")->wpAny (model prog w) A (setField (.ref z) 0 Value.none) (λ_ t=>E (.ref e) t) E { s with heap:=g2 }:=by
  intro g1 g2 e c p' q' a' b' Y hc hv k ⟨o,ho,ht⟩;have cz:z≠c:=hc.elim (λe=>e ▸ D.i1z.symm) λe=>e ▸ D.i2z.symm;have Yz:IsZip g2 z TI TO .ellipsis:=k _ _ cz Y.zo;refine kL Yz (by simp) λg3 _ t=>over hv g3 e (λd u n1 n2 n3 n4 r=>t.extBut _ _ n1 (k _ _ ?_ (Y.kp d u n1 n2 n3 n4 r))) ⟨o,t.extBut _ _ ?_ ho,ht⟩
  ·exact hc.elim (λe=>e ▸ n3) λe=>e ▸ n4
  ·rintro rfl;rw[Yz] at ho;cases ho;simp at ht
 show wpAny _ _ (field (.ref z) 2 >>= _) _ _ _;refine zT (qP Z.zo rfl (x:=.bool false) rfl (zT (qP Z.zo rfl (x:=.ref TI) rfl (zT (jW Z.ti rfl (zT (m:=Builtin.SmallTypes.ownedTupleIsFree _) ?_))))));refine zT (qP Z.zo rfl (x:=.none) rfl (zU ?_));rw[yI rfl];refine zT (wpAny_rule (zT (qP Z.zo rfl (x:=.ref TO) rfl (zT (kL Z.zo (by simp) λg1 e1 t1=>?_)))));have Z1:=Z.fl D (f':=.ellipsis) e1 t1;refine zT ?_;simp?[List.zipIdx_cons,List.zipIdx_nil,List.forIn_cons,List.forIn_nil];refine zT (zT (wpAny_onRaise (zT (m:=Builtin.SmallTypes.nextOf _) ?_)));cases hx:xs[p]? with
 | none=>exact nxtE hn Z1.wi Z1.sl hx λg2 e k o=>stop Z1 (.inl rfl) (.inl hx) k o
 | some x =>
 refine nxt Z1.wi Z1.sl hx λg2 e2 t2=>zU ?_;have Z2:=Z1.fst D e2 t2;refine zT (jW Z2.to rfl (zT (wpAny_updateSeq_pair Z2.to λg3 e3 t3=>zT (wpAny_letGo (zU ?_)))));have Z3:=Z2.put D (x:=x) (y:=b) e3 t3;refine zT (zT (wpAny_onRaise (zT (m:=Builtin.SmallTypes.nextOf _) ?_)));cases hy:ys[q]? with
 | none=>exact nxtE hn Z3.wj Z3.sm hy λg4 e k o=>stop Z3 (.inr rfl) (.inr hy) k o
 | some y =>
 refine nxt Z3.wj Z3.sm hy λg4 e4 t4=>zU ?_;have Z4:=Z3.snd D e4 t4;refine zT (jW Z4.to rfl (zT (wpAny_updateSeq_pair Z4.to λg5 e5 t5=>zT (wpAny_letGo (zU (zU ?_))))));have Z5:=Z4.put D (x:=x) (y:=y) e5 t5;refine zT (jW Z5.to rfl (zT (wpAny_newTuple (zT (m:=Builtin.SmallTypes.ownedTupleHandOut _ _) ?_))));refine zT (kL (zS _ Z5.zo) (by simp) λg6 e6 t6=>kL e6 (by simp) λg7 e7 t7=>zU ⟨_,rfl,?_⟩);exact item x y g5 g7 hx hy Z5 e7 (t6.trans t7)
def nextZ(hn:A.handled=none)(D:ZipApart z TI TO i j l m)
  (qz:IsZip s.heap z TI TO .none) (qI:IsPair s.heap TI (.ref i) (.ref j)) (qO:IsPair s.heap TO a b)
  (p1:IsI b₁ s.heap i l p) (p2:IsI b₂ s.heap j m q) (r1:IsS b₁ s.heap l xs) (r2:IsS b₂ s.heap m ys) (ex:xs[p]?=some x) (ey:ys[q]?=some y)
  (kQ:∀g,IsZip g z TI TO (rawInt s.heap.objs.size)->IsPair g TO x y->IsI b₁ g i l (p+1)->IsI b₂ g j m (q+1)->IsPair g s.heap.objs.size x y->g.objs.size=s.heap.objs.size+1 ->
   (∀c o,c≠z->c≠TO->c≠i->c≠j->s.heap.get? c=some o->g.get? c=some o)->Q (some (.ref s.heap.objs.size)) { s with heap:=g }) :
  wpAny (model prog w) A (pyNext (.ref z)) Q E s:=by
 have ty:s.TypeIs (.ref z) "zip":=⟨_,qz,rfl⟩
 have Z:ZS b₁ b₂ s.heap s.heap z TI TO i j l m xs ys .none p q a b:=⟨qz,qI,qO,p1,p2,r1,r2,λ_ _ _ _ _ _ e=>e,rfl⟩
 refine zT (kF (xZ (name:=Str.ofString "__next__") ty vG (qQ vG ty F.entry_zip_next (zipN hn D Z ?_ ?_) (F.args_zip_next_1 _))))
 ·intro x' y' g g' hx hy Y ez t;rw[ex] at hx;rw[ey] at hy;cases hx;cases hy;rw[Y.sz] at ez ⊢;have lt:=zW Y.zo;have up:∀c o,c≠z->g.get? c=some o->g'.get? c=some o:=λc o n e=>t.extBut _ _ n (zS _ e);refine zU (kQ g' ez (up _ _ D.TOz Y.to) (Y.wi.at λo e=>up _ _ D.i1z e) (Y.wj.at λo e=>up _ _ D.i2z e) ?_ (by rw[t.1,xG,Y.sz]) λc o n1 n2 n3 n4 e=>up c o n1 (Y.kp c o n1 n2 n3 n4 e));rw[<- Y.sz];exact t.extBut _ _ (jD lt) (zV _ rfl)
 ·intro no;rw[ex,ey] at no;rcases no with no|no<;>cases no
def nextZE(hn:A.handled=none)(D:ZipApart z TI TO i j l m)
  (qz:IsZip s.heap z TI TO .none) (qI:IsPair s.heap TI (.ref i) (.ref j)) (qO:IsPair s.heap TO a b)
  (p1:IsI b₁ s.heap i l p) (p2:IsI b₂ s.heap j m q) (r1:IsS b₁ s.heap l xs) (r2:IsS b₂ s.heap m ys) (ends:xs[p]?=none\/ys[q]?=none)
  (kQ:∀g,(∀c o,c≠z->c≠TO->c≠i->c≠j->s.heap.get? c=some o->g.get? c=some o)->Q none { s with heap:=g }):wpAny (model prog w) A (pyNext (.ref z)) Q E s:=by
 have ty:s.TypeIs (.ref z) "zip":=⟨_,qz,rfl⟩
 have Z:ZS b₁ b₂ s.heap s.heap z TI TO i j l m xs ys .none p q a b:=⟨qz,qI,qO,p1,p2,r1,r2,λ_ _ _ _ _ _ e=>e,rfl⟩
 refine zT (kF (xZ (name:=Str.ofString "__next__") ty vG (qQ vG ty F.entry_zip_next (zipN hn D Z ?_ ?_) (F.args_zip_next_1 _))))
 ·intro x y g g' hx hy;rw[hx,hy] at ends;rcases ends with no|no<;>cases no
 ·rintro _ g e kp ⟨o,ho,ht⟩;exact zT (wpAny_isInstance (T:="StopIteration") (b:=true) ⟨o,ho,ht⟩ isSubtype_stop (zU (kQ _ kp)))
end
abbrev itO(b:Bool)(l:Addr):Obj:={ cls:=.type (if b then "tuple_iterator" else "list_iterator"),data:=.fields #[.ref l,.int 0 0] }
abbrev z1(b:Bool)(h:Heap)(l:Addr):Heap:=h.push (itO b l)
abbrev z2(b c:Bool)(h:Heap)(l m:Addr):Heap:=(z1 b h l).push (itO c m)
abbrev z3(b c:Bool)(h:Heap)(l m:Addr):Heap:=(z2 b c h l m).push { cls:=.type "tuple",data:=.seq #[.ref h.objs.size,.ref (z1 b h l).objs.size] }
abbrev z4(b c:Bool)(h:Heap)(l m:Addr):Heap:=(z3 b c h l m).push { cls:=.type "tuple",data:=.seq #[.none,.none] }
abbrev z5(b c:Bool)(h:Heap)(l m:Addr):Heap:=(z4 b c h l m).push { cls:=.type "zip",data:=.fields #[.none,.bool false,.bool false,.ref (z2 b c h l m).objs.size,.ref (z3 b c h l m).objs.size] }
def IsS.push(x:IsS b h l xs)(o:Obj):IsS b (h.push o) l xs:=x.at λo' e=>zS _ e
def new_zip(b c:Bool)(l m:Addr)(xs ys:Array Value):Meets (Builtin.«zip.__new__» ⟨[.type "zip",.ref l,.ref m],[]⟩) (λ_ R s=>IsS b s.heap l xs/\IsS c s.heap m ys/\R (.ok (.ret (.ref (z4 b c s.heap l m).objs.size))) { s with heap:=z5 b c s.heap l m }) :=
 .of_wp λprog w A R s h=>by
  let⟨hp,g,d,tk,os⟩:=s;let⟨q1,q2,h⟩:=h;have hsub:=sub_zip;cases b<;>cases c
  ·have L1:Heap.IsList (Shared.heap ⟨hp,g,d,tk,os⟩) l xs:=q1;have L2:Heap.IsList (Shared.heap ⟨hp.push { cls:=.type "list_iterator",data:=.fields #[.ref l,.int 0 0] },g,d,tk,os⟩) m ys:=IsS.push (b:=false) q2 _
   wp_walk using qG L1,qG L2
   exact⟨_,rfl,h⟩
  ·have L1:Heap.IsList (Shared.heap ⟨hp,g,d,tk,os⟩) l xs:=q1;have L2:Heap.IsTuple (Shared.heap ⟨hp.push { cls:=.type "list_iterator",data:=.fields #[.ref l,.int 0 0] },g,d,tk,os⟩) m ys:=IsS.push (b:=true) q2 _
   wp_walk using qG L1,xO L2
   exact⟨_,rfl,h⟩
  ·have L1:Heap.IsTuple (Shared.heap ⟨hp,g,d,tk,os⟩) l xs:=q1;have L2:Heap.IsList (Shared.heap ⟨hp.push { cls:=.type "tuple_iterator",data:=.fields #[.ref l,.int 0 0] },g,d,tk,os⟩) m ys:=IsS.push (b:=false) q2 _
   wp_walk using xO L1,qG L2
   exact⟨_,rfl,h⟩
  ·have L1:Heap.IsTuple (Shared.heap ⟨hp,g,d,tk,os⟩) l xs:=q1;have L2:Heap.IsTuple (Shared.heap ⟨hp.push { cls:=.type "tuple_iterator",data:=.fields #[.ref l,.int 0 0] },g,d,tk,os⟩) m ys:=IsS.push (b:=true) q2 _
   wp_walk using xO L1,xO L2
   exact⟨_,rfl,h⟩
def isI_new(e:h.get? it=some (itO b l)):IsI b h it l 0:=by
 cases b
 ·exact⟨_,e,rfl,rfl⟩
 ·exact⟨_,e,rfl,rfl⟩
def call_zip(q1:IsS b s.heap l xs)(q2:IsS c s.heap m ys)
  (h:∀g,IsZip g (s.heap.objs.size+4) (s.heap.objs.size+2) (s.heap.objs.size+3) .none->IsPair g (s.heap.objs.size+2) (.ref s.heap.objs.size) (.ref (s.heap.objs.size+1))->IsPair g (s.heap.objs.size+3) .none .none ->
   IsI b g s.heap.objs.size l 0->IsI c g (s.heap.objs.size+1) m 0->(∀a o,s.heap.get? a=some o->g.get? a=some o)->Q (.ref (s.heap.objs.size+4)) { s with heap:=g }) :
  wpAny (model prog w) A (call (.type "zip") [.ref l,.ref m]) Q E s:=by
 refine callType_new F.called_zip (by decide) (F.typeCall_zip_2 _ _) (F.newCall_zip_2 _ _) (λobj=>F.args_object_init_3 obj _ _) F.entry_zip_new (new_zip b c l m xs ys) ⟨q1,q2,?_⟩;have n1:(z1 b s.heap l).objs.size=s.heap.objs.size+1:=xG ..;have n2:(z2 b c s.heap l m).objs.size=s.heap.objs.size+2:=by rw[xG,n1]
 have n3:(z3 b c s.heap l m).objs.size=s.heap.objs.size+3:=by rw[xG,n2]
 have n4:(z4 b c s.heap l m).objs.size=s.heap.objs.size+4:=by rw[xG,n3]
 have g5:(z5 b c s.heap l m).get? (z4 b c s.heap l m).objs.size=some _:=zV _ rfl;have g4:(z5 b c s.heap l m).get? (z3 b c s.heap l m).objs.size=some _:=zS _ (zV _ rfl);have g3:(z5 b c s.heap l m).get? (z2 b c s.heap l m).objs.size=some _:=zS _ (zS _ (zV _ rfl));have g2:(z5 b c s.heap l m).get? (z1 b s.heap l).objs.size=some (itO c m):=zS _ (zS _ (zS _ (zV _ rfl)));have g1:(z5 b c s.heap l m).get? s.heap.objs.size=some (itO b l):=zS _ (zS _ (zS _ (zS _ (zV _ rfl))));show _/\_;rw[n2,n3,n4] at g5;rw[n1,n2] at g3;rw[n3] at g4;rw[n1] at g2;rw[n4];exact⟨⟨_,g5,rfl⟩,h _ g5 g3 g4 (isI_new g1) (isI_new g2) λa o x=>zS _ (zS _ (zS _ (zS _ (zS _ x))))⟩
end Zp
namespace Dl
open PySem L2 PySem.Spec PyProof.Rows Zp
def p6(K:W.Frag)(b:Bool)(a:Addr)(H:Hp)(xs:List V):Prop:=match b with|true=>eZ K H a xs|false=>fD K H a xs
def p6.src(I:Inv X pins σ H s)(h:p6 X.K b a H xs):∃its:List Value,aE xs its/\IsS b s.heap a its.toArray/\xs.length<=sizeLine:=by
 cases b
 ·let⟨its,rv,pl,hz⟩:=I.list (show fD X.K H a xs from h);exact⟨its,rv,pl.isList,hz⟩
 ·let⟨its,rv,pl,hz⟩:=I.tuple (show eZ X.K H a xs from h);exact⟨its,rv,pl,hz⟩
def p6.ne(I:Inv X pins σ H s)(hf:gZ X pins H c)(h:p6 X.K b a H xs):a≠c:=by
 cases b
 ·exact KG I hf h
 ·exact JF I hf h
def p6.inj(I:Inv X pins σ H s)(h:p6 X.K b a H xs)(h':p6 X.K b a H ys):xs=ys:=by
 cases b
 ·exact I.list_inj h h'
 ·exact I.tuple_inj h h'
def p6.mono{K:W.Frag}(e:aH H H')(h:p6 K b a H xs):p6 K b a H' xs:=by
 cases b
 ·exact e.seq h
 ·exact ay e h
def Ba{K:W.Frag}(b c:Bool)(l1 l2 z TI TO i1 i2:Addr)(Z:P5 z TI TO i1 i2) :
  Turn P w K (.Tuple elts k pos) (Oo (p6 K b l1) (p6 K c l2)) [z,TI,TO,i1,i2] z (λi h=>IsZip h z TI TO .none/\IsPair h TI (.ref i1) (.ref i2)/\(∃a b,IsPair h TO a b)/\IsI b h i1 l1 i/\IsI c h i2 l2 i) where
 mem:=by simp
 obj:=λi h st d hd=>by
  let⟨hz,hTI,⟨a,b',hTO⟩,p1,p2⟩:=st;simp?[zQ,yD,xQ] at hd;rcases hd with rfl|rfl|rfl|rfl|rfl
  ·exact⟨_,hz,λv q=>by have q:Data.fields _=Data.cell v:=q;cases q⟩
  ·exact⟨_,hTI,λv q=>by have q:Data.seq _ _=Data.cell v:=q;cases q⟩
  ·exact⟨_,hTO,λv q=>by have q:Data.seq _ _=Data.cell v:=q;cases q⟩
  ·exact p1.obj
  ·exact p2.obj
 keep:=λi h h' st kk=>by
  let⟨hz,hTI,⟨a,b',hTO⟩,h1,h2⟩:=st;exact⟨kk z (by simp) _ hz,kk TI (by simp) _ hTI,⟨a,b',kk TO (by simp) _ hTO⟩,h1.at λo q=>kk i1 (by simp) o q,h2.at λo q=>kk i2 (by simp) o q⟩
 item:=by
  intro X hP hw hK hc i pins s σ H E I hf st hg;subst hP hw hK;let⟨xs,ys,x,y,hq1,hq2,hx,hy⟩:=hg;let⟨its1,rv1,p1,hz1⟩:=hq1.src I;let⟨its2,rv2,p2,hz2⟩:=hq2.src I;let⟨u1,hu1,ru1⟩:=rv1.get hx;let⟨u2,hu2,ru2⟩:=rv2.get hy;have D:ZipApart z TI TO i1 i2 l1 l2:=⟨Z.a1,Z.a2,Z.a3,Z.a4,Z.a5,Z.a6,Z.a7,Z.a8,Z.a9,Z.a0,hq1.ne I (hf z (by simp)),hq1.ne I (hf TO (by simp)),hq1.ne I (hf i1 (by simp)),hq1.ne I (hf i2 (by simp)),hq2.ne I (hf z (by simp)),hq2.ne I (hf TO (by simp)),hq2.ne I (hf i1 (by simp)),hq2.ne I (hf i2 (by simp))⟩
  let⟨hz,hTI,⟨a,b',hTO⟩,h1,h2⟩:=st;refine nextZ (I.ok.hd hc) D hz hTI hTO h1 h2 p1 p2 (x:=u1) (y:=u2) (by simpa using hu1) (by simpa using hu2) λg b1 b2 b3 b4 b5 b6 hk=>⟨.ref s.heap.objs.size,rfl,?_⟩
  have lt:∀ {c:Addr}{o:Obj},s.heap.get? c=some o->s.heap.objs.size≠c:=λe=>jD (zW e);refine wpAny_letOwnedTupleGo_zip (s:={ s with heap:=g }) b1 λg' hz' hs'=>?_;have b5':g'.get? s.heap.objs.size=some { cls:=.type "tuple",data:=.seq #[u1,u2] }:=hs'.extBut _ _ (lt hz) b5;have ht:mE g' s.heap.objs.size (List.toArray [u1,u2]):=⟨⟨_,b5',rfl,_,rfl⟩,_,b5',rfl⟩
  refine⟨.ref s.heap.objs.size,_,uc (ch:=[z,TI,TO,i1,i2]) (xs:=[x,y]) (t':=s.toks) I hf (λb o hb q=>?_) (yJ _) ht (.cons ru1 (.cons ru2 .nil)) (by show 2<=sizeLine;decide),rfl,
   ⟨s.heap.objs.size,x,y,rfl,I.fresh,rfl,λzs hzs=>by rw[hzs.inj I hq1];exact hx,λzs hzs=>by rw[hzs.inj I hq2];exact hy⟩,
   ⟨hz',hs'.extBut _ _ Z.a1 (hk _ _ D.TIz D.TITO D.TIi1 D.TIi2 hTI),⟨_,_,hs'.extBut _ _ Z.a2 b2⟩,b3.extBut hs'.extBut Z.a3,b4.extBut hs'.extBut Z.a4⟩,λb hb=>?_⟩
  ·simp?[zQ,yD,xQ,not_or] at hb;exact hs'.extBut _ _ hb.1 (hk b o hb.1 hb.2.2.1 hb.2.2.2.1 hb.2.2.2.2 q)
  ·have:s.heap.objs.size≠b:=by
    simp?[zQ,yD,xQ] at hb;let⟨o1,g1,_⟩:=h1.obj;let⟨o2,g2,_⟩:=h2.obj;rcases hb with rfl|rfl|rfl|rfl|rfl
    ·exact lt hz
    ·exact lt hTI
    ·exact lt hTO
    ·exact lt g1
    ·exact lt g2
   rw[aC (jI this)];exact (hf b hb).1
 done:=by
  intro X hP hw hK hc i pins s σ H E I hf st hg;subst hP hw hK;let⟨xs,ys,hq1,hq2,hx⟩:=hg;let⟨its1,rv1,p1,hz1⟩:=hq1.src I;let⟨its2,rv2,p2,hz2⟩:=hq2.src I;have D:ZipApart z TI TO i1 i2 l1 l2:=⟨Z.a1,Z.a2,Z.a3,Z.a4,Z.a5,Z.a6,Z.a7,Z.a8,Z.a9,Z.a0,hq1.ne I (hf z (by simp)),hq1.ne I (hf TO (by simp)),hq1.ne I (hf i1 (by simp)),hq1.ne I (hf i2 (by simp)),hq2.ne I (hf z (by simp)),hq2.ne I (hf TO (by simp)),hq2.ne I (hf i1 (by simp)),hq2.ne I (hf i2 (by simp))⟩
  let⟨hz,hTI,⟨a,b',hTO⟩,h1,h2⟩:=st;have e1:=rv1.length;have e2:=rv2.length;refine nextZE (I.ok.hd hc) D hz hTI hTO h1 h2 p1 p2 (hx.elim (λq=>.inl (by simp;lia)) λq=>.inr (by simp;lia)) λg hk=>⟨rfl,?_⟩
  refine AH (ch:=[z,TI,TO,i1,i2]) (t':=s.toks) I hf λb o hb q=>?_;simp?[zQ,yD,xQ,not_or] at hb;exact hk b o hb.1 hb.2.2.1 hb.2.2.2.1 hb.2.2.2.2 q
 self:=λ_ _ _ _ _ st h=>wpAny_pyIter_zip st.1 h
def Hz(B:my X "zip" (.type "zip"))(ha:PA X [l,l'] tl)(hs:starEach [l,l'] X.env=(false,eval l X.env)::starEach [l'] X.env)(hs2:(backTo pos (starEach [l'] X.env)).any (·.1)=false) :
  PI X (.Tuple elts k tp) (.Call (.Name "zip" p) [l,l'] [] pos) (λσ H R=>tl σ H λvs H1=>∃a b,vs=[.ref a,.ref b]/\∃c d xs ys,p6 X.K c a H1 xs/\p6 X.K d b H1 ys/\R (Oo (p6 X.K c a) (p6 X.K d b)) H1):=by
 intro pins s σ H R I h;refine Call_ (gW I B.gl B.mg B.bt (qN (bK (ha pos pins s σ H _ I h) λus s1 ⟨vs,H1,I1,r1,q1⟩=>?_) hs hs2));let⟨a,b,e,c,d,xs,ys,hq1,hq2,q⟩:=q1;subst e;let⟨u,u',rfl,rx,ry⟩:=vals2 r1;cases rx;cases ry;let⟨its,rv,pl,hz⟩:=hq1.src I1;let⟨its',rv',pl',hz'⟩:=hq2.src I1;refine call_zip pl pl' λg b1 b2 b3 b4 b5 kp=>wpAny_pyIter_zip (s:={ s1 with heap:=g }) b1 ?_;refine⟨_,_,_,_,H1,rfl,I1.kept (t':=s1.toks) kp,Ba c d a b (s1.heap.objs.size+4) (s1.heap.objs.size+2) (s1.heap.objs.size+3) s1.heap.objs.size (s1.heap.objs.size+1) ?_,⟨b1,b2,⟨_,_,b3⟩,b4,b5⟩,λc hc=>?_,q⟩
 ·constructor<;>(intro z;have z:(_:Nat)=_:=z;lia)
 ·have hge:s1.heap.objs.size<=c:=by
   simp?[zQ,yD,xQ] at hc;rcases hc with rfl|rfl|rfl|rfl|rfl
   ·exact jQ _ _
   ·exact jQ _ _
   ·exact jQ _ _
   ·exact yJ _
   ·exact jQ _ _
  exact I1.fpOk hge (I1.hok.fresh hge)
def Mz:List D->Option (List D):=λds=>match ds with
 | [x,y]=>(gk x).bind λxs=>(gk y).map λys=>gq xs ys
 | _=>none
def wz{K:W.Frag}(h:gk d=some xs)(r:Rep K HF d v):∃b a vs,v=.ref a/\p6 K b a HF vs/\au K HF xs vs:=by
 rcases jm h with rfl|rfl
 ·simp?[Rep] at r;let⟨a,vs,rfl,q,rr⟩:=r;exact⟨true,a,vs,rfl,q,rr⟩
 ·simp?[Rep] at r;let⟨a,vs,rfl,q,rr⟩:=r;exact⟨false,a,vs,rfl,q,rr⟩
def cO(fs:Env->Option (List D)):Env->Option (List D):=λρ=>(fs ρ).bind Mz
def Ir(B:my X "zip" (.type "zip"))(hs:starEach [l,l'] X.env=(false,eval l X.env)::starEach [l'] X.env)(hs2:(backTo pos (starEach [l'] X.env)).any (·.1)=false)(h:DA X [l,l'] fs) :
  DI X (.Tuple elts k tp) (.Call (.Name "zip" p) [l,l'] [] pos) (cO fs) :=
 nM (Hz B h hs hs2) λσ H R ⟨HF,ρ,ds,sm,eo,hf,q⟩=>by
  let⟨x,hx,hf⟩:=bs hf;refine⟨HF,ρ,_,sm,eo,hx,λvs H1 HF1 g1 r1=>?_⟩;unfold Mz at hf;split at hf
  ·let⟨xs,h1,hf⟩:=bs hf;let⟨ys,h2,rfl⟩:=ag hf;let⟨v,r',rfl,a,b⟩:=r1.cons_inv;let⟨v',r'',rfl,a',b'⟩:=b.cons_inv;rw[b'.nil_inv];let⟨c,ad,us,rfl,hq,rr⟩:=wz h1 a;let⟨c',ad',us',rfl,hq',rr'⟩:=wz h2 a';exact⟨ad,ad',rfl,c,c',us,us',hq.mono g1.fh,hq'.mono g1.fh,q _ H1 HF1 g1 (CG hq (λ_ _ s h=>h.mono s) hq' (λ_ _ s h=>h.mono s) rr rr')⟩
  ·cases hf
end Dl
namespace Zp
open PySem PyProof.Rows
def IsI.ne(x:IsI b h it l k)(y:IsS b h l xs):l≠it:=by
 rintro rfl;cases b
 ·let⟨o,e,c,d⟩:=(show h.IsListIter l l k from x)
  let⟨o',e',r⟩:=(show h.IsList l xs from y)
  rw[e] at e';cases e';simp_all
 ·let⟨o,e,c,d⟩:=(show h.IsTupleIter l l k from x)
  let⟨o',e',r⟩:=(show h.IsTuple l xs from y)
  rw[e] at e';cases e';simp_all
def drawsI(hn:A.handled=none)(b:Bool)(it l:Addr)(xs:Array Value):Draws prog w A it [it,l] xs.size (λi x=>xs[i]?=some x) (λi h=>IsI b h it l i/\IsS b h l xs) where
 live:=λi h st=>let ⟨o,e,_⟩:=st.1.obj;⟨o,e⟩
 frame:=λi h h' st k=>⟨st.1.at (k it (by simp)),st.2.at (k l (by simp))⟩
 item:=λi s Q E hi st hQ=>nxt st.1 st.2 (v:=xs[i]) (by simp[hi]) λg e t=>hQ _ g s.toks (by simp[hi]) ⟨e,st.2.extBut t.extBut (st.1.ne st.2)⟩ t
 done:=λs Q E st hE=>nxtE hn st.1 st.2 (by simp) hE
def nextE{b₁:Bool}{e it l:Addr}{i:Nat}{items:Array Value}{x old:Value}{Q:Option Value->Shared->Prop}(hn:A.handled=none)
  (qe:IsEnum s.heap e it i old) (qi:IsI b₁ s.heap it l i) (ql:IsS b₁ s.heap l items) (ex:items[i]?=some x) (nei:e≠it)
  (kQ:∀g tk,IsEnumOut g e it ((i:Int)+1) x s.heap.objs.size->IsI b₁ g it l (i+1)->g.get? s.heap.objs.size=some { cls:=.type "tuple",data:=.seq #[.int i tk,x] } ->
   g.objs.size=s.heap.objs.size+1->(∀c o,c≠e->c≠it->s.heap.get? c=some o->g.get? c=some o)->Q (some (.ref s.heap.objs.size)) { s with heap:=g,toks:=tk+1 }) :
  wpAny (model prog w) A (pyNext (.ref e)) Q E s:=by
 have nel:e≠l:=by
  rintro rfl;cases b₁
  ·let⟨o,e1,r⟩:=(show s.heap.IsList e items from ql)
   rw[qe] at e1;cases e1;simp at r
  ·let⟨o,e1,r⟩:=(show s.heap.IsTuple e items from ql)
   rw[qe] at e1;cases e1;simp at r
 have D:Draws prog w A.in1 it [it,l] items.size (λi x=>items[i]?=some x) (λi h=>IsI b₁ h it l i/\IsS b₁ h l items):=drawsI (A:=A.in1) hn b₁ it l items;refine wpAny_pyNext_enum_itemD D qe ⟨qi,ql⟩ (Array.getElem?_eq_some_iff.mp ex).1 nei (by simp[nei,nel]) λy g tk hy a b c d k=>?_;rw[ex] at hy;cases hy;exact kQ g tk a b.1 c d k
end Zp
namespace Dl
open PySem L2 PySem.Spec PyProof.Rows Zp
def nA{K:W.Frag}(b:Bool)(a it e:Addr)(hei:e≠it):Turn P w K (.Tuple elts k pos) (OI (p6 K b a)) [e,it] e (λi h=>(∃old,IsEnum h e it i old)/\IsI b h it a i) where
 mem:=by simp
 obj:=λi h st c hc=>by
  let⟨⟨old,he⟩,hi⟩:=st;rcases List.mem_cons.mp hc with z|z
  ·subst z;exact⟨_,he,λv q=>by have q:Data.fields _=Data.cell v:=q;cases q⟩
  ·rw[List.mem_singleton.mp z];exact hi.obj
 keep:=λi h h' st kk=>⟨let ⟨old,he⟩:=st.1;⟨old,kk e (by simp) _ he⟩,st.2.at λo q=>kk it (by simp) o q⟩
 item:=by
  intro X hP hw hK hc i pins s σ H E I hf st hg;subst hP hw hK;let⟨xs,x,hq,hx⟩:=hg;let⟨its,rv,p,hz⟩:=hq.src I;let⟨u,hu,ru⟩:=rv.get hx;let⟨⟨old,he⟩,hi⟩:=st;refine nextE (I.ok.hd hc) he hi p (x:=u) (by simpa using hu) hei λg tk b1 b2 b3 b4 hk=>⟨.ref s.heap.objs.size,rfl,?_⟩
  have lt:∀ {c:Addr}{o:Obj},s.heap.get? c=some o->s.heap.objs.size≠c:=λe=>jD (zW e);have hte:s.heap.objs.size≠e:=lt he;refine wpAny_letOwnedTupleGo_enum (s:={ s with heap:=g,toks:=tk+1 }) b1 λg' he' hs'=>?_;have b3':g'.get? s.heap.objs.size=some { cls:=.type "tuple",data:=.seq #[.int i tk,u] }:=hs'.extBut _ _ hte b3;have ht:mE g' s.heap.objs.size (List.toArray [Value.int (i:Nat) tk,u]):=⟨⟨_,b3',rfl,_,rfl⟩,_,b3',rfl⟩
  refine⟨.ref s.heap.objs.size,_,uc (ch:=[e,it]) (xs:=[.int (i:Nat),x]) (t':=tk+1) I hf (λc o hb q=>?_) (yJ _) ht (.cons ⟨_,rfl⟩ (.cons ru .nil)) (by show 2<=sizeLine;decide),rfl,
   ⟨s.heap.objs.size,x,rfl,I.fresh,rfl,λzs hzs=>by rw[hzs.inj I hq];exact hx⟩,⟨⟨_,he'⟩,b2.extBut hs'.extBut (jI hei)⟩,λc hc'=>?_⟩
  ·simp?[zQ,yD,xQ,not_or] at hb;exact hs'.extBut _ _ hb.1 (hk c o hb.1 hb.2 q)
  ·have:s.heap.objs.size≠c:=by
    simp?[zQ,yD,xQ] at hc';let⟨o1,g1,_⟩:=hi.obj;rcases hc' with rfl|rfl
    ·exact lt he
    ·exact lt g1
   rw[aC (jI this)];exact (hf c hc').1
 done:=by
  intro X hP hw hK hc i pins s σ H E I hf st hg;subst hP hw hK;let⟨xs,hq,hx⟩:=hg;let⟨its,rv,p,hz⟩:=hq.src I;have hh:X.A.in1.handled=none:=I.ok.hd hc;have hl:=rv.length;let⟨⟨old,he⟩,hi⟩:=st;have hT:s.TypeIs (.ref e) "enumerate":=⟨_,he,rfl⟩
  unfold pyNext;refine zT (kF (xZ (name:=Str.ofString "__next__") hT F.slot_enumerate_next (qQ F.slot_enumerate_next hT F.entry_enumerate_next ?_ (F.args_enumerate_next_1 _))));refine zT (m:=field (.ref e) 2) (qP he rfl (x:=.ref it) rfl ?_);refine zT (nxtE hh hi p (by simp;lia) λh1 x k1 hx1=>?_);let⟨o,ho,hc1⟩:=hx1;refine zT (wpAny_isInstance (T:="StopIteration") (b:=true) ⟨o,ho,hc1⟩ isSubtype_stop (zU ⟨rfl,?_⟩));let⟨f0,f1,f2,f3,f4,f5⟩:=hf it (by simp);exact I.turned (t':=s.toks) (λb o hb q=>k1 b o hb q) f0 f1 f3 f4 f5
 self:=λ_ _ _ _ _ st h=>let ⟨_,he⟩:=st.1;vY he h
def GR(B:my X "enumerate" (.type "enumerate"))(ha:PA X [l] tl)(hs:starEach [l] X.env=[(false,eval l X.env)]):PI X (.Tuple elts k tp) (.Call (.Name "enumerate" p) [l] [] pos) (λσ H R=>tl σ H λvs H1=>∃a,vs=[.ref a]/\∃b xs,p6 X.K b a H1 xs/\R (OI (p6 X.K b a)) H1):=by
 intro pins s σ H R I h;refine Call_ (gW I B.gl B.mg B.bt (qN (bK (ha pos pins s σ H _ I h) λus s1 ⟨vs,H1,I1,r1,q1⟩=>?_) hs rfl));let⟨a,e,b,xs,hq,q⟩:=q1;subst e;let⟨u,rfl,rx⟩:=vals1 r1;cases rx;have fresh:∀b∈[s1.heap.objs.size+1,s1.heap.objs.size],gZ X pins H1 b:=λb hb=>by
  rcases List.mem_cons.mp hb with z|z
  ·subst z;exact I1.fpOk (Nat.le_succ _) (I1.hok.fresh (Nat.le_succ _))
  ·cases List.mem_singleton.mp z;exact I1.fpOk (yJ _) I1.fresh
 let⟨its,rv,pl,hz⟩:=hq.src I1;cases b with
 | false =>
  refine call_enumerate_list pl λh' he hit hsz kp=>vY (s:={ s1 with heap:=h' }) he ?_;exact⟨_,_,_,_,H1,rfl,I1.kept (t':=s1.toks) kp,nA false a s1.heap.objs.size (s1.heap.objs.size+1) (Nat.succ_ne_self _),⟨⟨_,he⟩,hit⟩,fresh,q⟩
 | true =>
  refine En.call_enumT (show s1.heap.IsTuple a its.toArray from pl) λh' he hit hsz kp=>vY (s:={ s1 with heap:=h' }) he ?_;exact⟨_,_,_,_,H1,rfl,I1.kept (t':=s1.toks) kp,nA true a s1.heap.objs.size (s1.heap.objs.size+1) (Nat.succ_ne_self _),⟨⟨_,he⟩,hit⟩,fresh,q⟩
def dI(fs:Env->Option (List D)):Env->Option (List D):=λρ=>(fs ρ).bind λds=>(br ds).map (cR 0)
def HH(B:my X "enumerate" (.type "enumerate"))(h:DA X [l] fs)(hs:starEach [l] X.env=[(false,eval l X.env)]):DI X (.Tuple elts k tp) (.Call (.Name "enumerate" p) [l] [] pos) (dI fs) :=
 nM (GR B h hs) λσ H R ⟨HF,ρ,ds,sm,eo,hf,q⟩=>by
  let⟨x,hx,hf⟩:=bs hf;let⟨es,h1,rfl⟩:=ag hf;let⟨d,h0,h1⟩:=bs h1;rw[e8 h0] at hx;refine⟨HF,ρ,_,sm,eo,hx,λvs H1 HF1 g1 r1=>?_⟩;let⟨v,r',rfl,a,b⟩:=r1.cons_inv;rw[b.nil_inv];let⟨c,ad,us,rfl,hq,rr⟩:=wz h1 a;exact⟨ad,rfl,c,us,hq.mono g1.fh,q _ H1 HF1 g1 (AA hq (λ_ _ s h=>h.mono s) rr)⟩
end Dl
namespace Srt
open PySem PySem.W PySem.Calls PyProof.Rows L2
end Srt
namespace Dl
open PySem L2 PySem.Spec PyProof.Rows
section
structure IR(X:Cx)(qual:Str):Prop where
 ex:∃c P,X.env.code=.ref c/\X.env.qual++"<lambda>"=qual/\W.codeHdIn X.K c P=true/\∀HF,di X.K HF->HF P=some (.tab qual)
variable {fl te:Env->Option D}{cs:List Nat}
end
end Dl
namespace Srt
open PySem PySem.W PySem.Calls PyProof.Rows L2
end Srt
namespace Dl
open PySem L2 PySem.Spec PyProof.Rows
section
variable {cs:List Nat}
end
def O0(i j l:Nat):Env->D->Option Env:=λρ d=>match d with
 | .tuple [x,y,z]=>if isFree ρ i=true/\isFree ρ j=true/\isFree ρ l=true then some (((ρ.set i (some x)).set j (some y)).set l (some z)) else none
 | _=>none
def EC(i j l:Nat)(hc:X.calm=true)(hN:X.N.Nodup)(hi:X.N[i]?=some x)(hx:Loc X.env.scope x)(hj:X.N[j]?=some y)(hy:Loc X.env.scope y)(hl:X.N[l]?=some z)(hz:Loc X.env.scope z)
  (hf:X.fn x=true\/X.env.scope.names.lookup x=some .local) (hf':X.fn y=true\/X.env.scope.names.lookup y=some .local) (hf'':X.fn z=true\/X.env.scope.names.lookup z=some .local) :
  DG X (.Tuple [.Name x px,.Name y py,.Name z pz] k pos) (O0 i j l) :=
 lE (si hc (cE (cI hN hi hx hf) (cE (cI hN hj hy hf') (cE (cI hN hl hz hf'') mW)))) λv σ H Q ⟨HF,ρ,d,ρ',sm,eo,r,hf,q⟩=>by
  unfold O0 at hf;split at hf
  ·rename_i x' y' z';split at hf
   ·rename_i hh;cases hf;simp?[Rep] at r;let⟨a,vs,rfl,hs,rr⟩:=r;let⟨v1,r1,rfl,a1,b1⟩:=rr.cons_inv;let⟨v2,r2,rfl,a2,b2⟩:=b1.cons_inv;let⟨v3,r3,rfl,a3,b3⟩:=b2.cons_inv;rw[b3.nil_inv] at hs;exact⟨a,_,rfl,ay sm hs,rfl,v1,_,rfl,v2,_,rfl,v3,_,rfl,rfl,q _ (iS (iS (iS eo a1) a2) a3) (i6 (i6 (i6 eo hh.1) hh.2.1) hh.2.2)⟩
   ·cases hf
  ·cases hf
def rf(d:D):List D->Option Nat
 | []=>none
 | x::xs=>if PyData.eqv x d=true then some 0 else (rf d xs).map (·+1)
def pH:∀ {xs:List D}{j:Nat},rf d xs=some j->j < xs.length/\(∀x,xs[j]?=some x->PyData.eqv x d=true)/\∀m,m < j->∀x,xs[m]?=some x->PyData.eqv x d=false
 | [],j,h=>by cases h
 | x::xs,j,h=>by
  unfold rf at h;split at h
  ·cases h;rename_i e;exact⟨Nat.succ_pos _,λy hy=>by cases hy;exact e,λm hm=>absurd hm (vD _)⟩
  ·rename_i e;let⟨k,hk,rfl⟩:=ag h;let⟨a,b,c⟩:=pH hk;refine⟨by simpa using a,λy hy=>b y (by simpa using hy),λm hm y hy=>?_⟩;cases m with
   | zero=>cases hy;simpa using e
   | succ m=>exact c m (by lia) y (by simpa using hy)
def Bc(hu:X.A.units+66 < cLine):FM X "list.index" (λx vs H Q=>∃ (HF:Hp) (ds:List D) (d:D) (y:V) (j:Nat),aH HF H/\Rep X.K HF (.list ds) x/\vs=[y]/\Rep X.K HF d y/\SeqAt.shaped d=true/\SeqAt.shaped (.list ds)=true/\ds.length<=sizeLine/\rf d ds=some j/\Q (.int j) H):=by
 intro pins s σ H x vs v us Q I rx rv h;let⟨HF,ds,d,y,j,sm,r1,rfl,r2,hd,hl,hz,hj,q⟩:=h;let⟨u,rfl,ru⟩:=rv.one;let⟨as,ra⟩:=bP I sm r1 rx;let⟨bs,rb⟩:=bP I sm r2 ru;have c1:=jY hd;have c2:=jY hl;have d1:=SeqAt.depth_of_shaped hd;simp?[PyData.canLay0] at c2;have m:=Nat.min_le_right (PyData.depthAll ds) d.depth;let⟨hj1,hj2,hj3⟩:=pH hj;cases ra with
 | list h1 h2 h3 h4 =>
  rename_i l o its n as;let⟨cls,dd,data,sl⟩:=o;simp only at h2 h3;subst h2 h3;have hm:=SeqAt.readsAll_map _ _ _ c2 h4;have hlen:its.size=ds.length:=by rw[<- hm];simp
  have hs63:(sizeLine:Nat) < 2 ^ 62:=by decide
  have at_:∀m (hm:m < its.size),ds[m]?=some (SeqAt.readOf s.heap its[m]):=λm hm'=>by
   rw[<- hm,zO,Array.getElem?_toList,jT hm'];rfl
  refine qS F.slot_list_index ⟨_,h1,rfl⟩ F.entry_list_index (F.args_list_index_2 _ _) (PySem.SeqAt.list_indexAt l its n dd sl u (λy=>PyData.eqv (SeqAt.readOf s.heap y) d) j (by rw[hlen];exact hj1) (by lia) ?_ ?_) ⟨h1,?_,?_⟩
  ·exact hj2 _ (at_ j (by rw[hlen];exact hj1))
  ·intro m hm' hmj;exact hj3 m hmj _ (at_ m hm')
  ·exact SeqAt.items_eqAt h4 rb c2 c1 (by lia)
  ·exact⟨.int j,H,I.tok _,⟨_,rfl⟩,q⟩
def N4(x y:D):Option Bool:=match y with
 | .tuple ds=>if SeqAt.shaped x=true/\SeqAt.shaped y=true then some (!ds.any λz=>PyData.eqv z x) else none
 | .list ds=>if SeqAt.shaped x=true/\SeqAt.shaped y=true then some (!ds.any λz=>PyData.eqv z x) else none
 | _=>none
def Cr(hu:X.A.units+66 < cLine):eC X (compareOp .NotIn) (K9 X.K N4):=by
 intro pins s σ H v1 v2 u1 u2 Q I rx ry h;let⟨HF,x,y,k,sm,r1,r2,hg,q⟩:=h;let⟨as,ra⟩:=bP I sm r1 rx;let⟨bs,rb⟩:=bP I sm r2 ry;cases y<;>simp?[N4] at hg<;>try cases hg
 all_goals
  split at hg<;>cases hg;rename_i ds hh;have c1:=jY hh.1;have c2:=jY hh.2;have d1:=SeqAt.depth_of_shaped hh.1;simp?[PyData.canLay0] at c2;have m:=Nat.min_le_right (PyData.depthAll ds) x.depth
  first
   | exact SeqAt.notIn_list_reads rb ra c2 c1 (by lia) ⟨.bl _,H,I,rfl,q⟩
   | exact SeqAt.notIn_tuple_reads rb ra c2 c1 (by lia) ⟨.bl _,H,I,rfl,q⟩
def Lo:D->D->Option D:=λx y=>(N4 x y).map PyData.bool
def Bk.notin(C:Bk X N sc k)(ha:DE X a fa)(hb:DE X b fb)(hm:behindInMarks .NotIn b=false:=by rfl):DE X (.Compare a [.NotIn] [b] pos) (f2 Lo fa fb):=dY (Cr C.u66) d0 ha hb hm
def Bk.tnin(C:Bk X N sc k)(ha:DE X a fa)(hb:DE X b fb)(hm:behindInMarks .NotIn b=false:=by rfl):DT X (.Compare a [.NotIn] [b] pos) (fB (f2 Lo fa fb)):=dS (Cr C.u66) d0 ha hb hm
structure Pj(h:Heap)(v:Value)(r:List Int):Prop where
 ex:∃ (a:Addr) (o:Obj) (n:Nat) (p:Value) (x y m:Int) (t:Tok),v=.ref a/\r=[x,y,m]/\h.get? a=some o/\o.cls=.type "tuple"/\o.data=.seq #[p,.int m t] n/\tI h p [x,y]
end Dl
namespace HT
open PySem PyProof.Rows
section
open PySem.SeqAt
open PySem.AutoSeq1 (wpAny_loadPart')
open PySem.MeetsSeq PySem.MeetsSeq2 PySem.MeetsSeq3
end
end HT
namespace Dl
open PySem L2 PySem.Spec PyProof.Rows
section
variable {fl te:Env->Option D}{cs:List Nat}
end
def strsOf:List D->Option (List Str)
 | []=>some []
 | .str x::r=>(strsOf r).map (x::·)
 | _::_=>none
def md:∀ {ds:List D}{xs:List Str},strsOf ds=some xs->ds=xs.map PyData.str
 | [],xs,h=>by cases h;rfl
 | d::ds,xs,h=>by
  cases d<;>try cases h
  let⟨ys,h1,rfl⟩:=ag (show (strsOf ds).map _=some xs from h);rw[zI,<- md h1]
def oz:∀xs:List Str,strsOf (xs.map PyData.str)=some xs
 | []=>rfl
 | x::xs=>by rw[zI,strsOf,oz xs];rfl
def pD{K:W.Frag}:∀ {xs:List Str}{vs:List V},au K H (xs.map PyData.str) vs->vs=xs.map V.str
 | [],vs,h=>h.nil_inv
 | x::xs,vs,h=>by
  let⟨v,r,rfl,a,c⟩:=h.cons_inv;simp?[Rep] at a;rw[a,pD c];rfl
def k9{K:W.Frag}:∀xs:List Str,au K H (xs.map PyData.str) (xs.map V.str)
 | []=>au.nil
 | x::xs=>au.cons (by simp[Rep]) (k9 xs)
def o6:∀ {xs:List Str}{us:List Value},aE (xs.map V.str) us->∃l:List (Str×Tok),us=strValues l/\l.map (·.1)=xs
 | [],us,h=>by cases h;exact⟨[],rfl,rfl⟩
 | x::xs,us,h=>by
  rw[zI] at h;cases h with
  | cons r rr =>
   let⟨t,rfl⟩:=r;let⟨l,rfl,e⟩:=o6 rr;exact⟨(x,t)::l,rfl,by rw[zI,e]⟩
def kn:∀l:List (Str×Tok),aE ((l.map (·.1)).map V.str) (strValues l)
 | []=>.nil
 | (x,t)::l=>.cons ⟨t,rfl⟩ (kn l)
def az:D->D->Option D
 | .str a,.str b=>if a.length+b.length<=sizeLine then some (.str (a++b)) else none
 | _,_=>none
def Cj{K:W.Frag}:da K (λx y H Q=>∃i j,x=.str i/\y=.str j/\i.length+j.length<=sizeLine/\Q (.str (i++j)) H) az:=by
 intro HF H x y v1 v2 d Q sm r1 r2 hg q;cases x<;>try cases hg
 cases y<;>try cases hg
 rename_i a b;have hg:(if a.length+b.length<=sizeLine then some (PyData.str (a++b)) else none)=some d:=hg;split at hg
 ·rename_i hz;cases hg;simp?[Rep] at r1 r2;exact⟨a,b,r1,r2,hz,q _ H HF (.refl sm) (by simp[Rep])⟩
 ·cases hg
def Gn:FM X "str.join" (λx vs H Q=>∃ (sep:Str) (l:Addr) (xs:List Str),x=.str sep/\vs=[.ref l]/\fD X.K H l (xs.map V.str)/\JoinOk sep xs=true/\Q (.str (Txt.join sep xs)) H):=by
 intro pins s σ H x vs v us Q I rx rv h;let⟨sep,l,xs,rfl,rfl,hq,hok,q⟩:=h;let⟨t,rfl⟩:=rx;let⟨u,rfl,ru⟩:=rv.one;cases ru;let⟨its,r,pl,hz⟩:=I.list hq;let⟨m,rfl,em⟩:=o6 r;exact SC.join (l:=m) pl.isList em hok λt' k=>⟨.str _,H,I.tok _,⟨t',rfl⟩,q⟩
def j5:D->D->Option D
 | .str sep,.list es=>(strsOf es).bind λxs=>if JoinOk sep xs=true then some (.str (Txt.join sep xs)) else none
 | _,_=>none
def Gq{fo:Env->Option D}(hbase:attributeBase o "join" X.env (eval o X.env)=eval o X.env)
  (hfew:((backTo cpos (starEach [e] X.env)).all (λx=>!x.1)&&(backToKw cpos (keywordEach [] X.env)).all (λx=>x.1.isSome)&&decide ([e].length+([]:List Keyword).length+(if ([]:List Keyword).isEmpty then 0 else 1) < 30))=true)
  (hline:(apos.endLine == cpos.line)=true) (hs:starEach [e] X.env=(false,eval e X.env)::starEach [] X.env) (ho:DE X o fo) (he:DE X e fe):DE X (.Call (.Attribute o "join" apos) [e] [] cpos) (f2 j5 fo fe) :=
 aG (jf PySem.F.plainAttrs_str PySem.F.slot_str_join PySem.F.type_str_join Gn ho (bh he cA hs) hbase hfew hline hs rfl) λσ H Q ⟨HF,ρ,d,sm,eo,hf,q⟩=>by
  let⟨x,hx,hf⟩:=bs hf;let⟨y,hy,hg⟩:=bs hf;refine⟨HF,ρ,x,sm,eo,hx,λv1 H1 HF1 g1 r1=>?_⟩;cases x<;>try cases hg
  cases y<;>try cases hg
  rename_i sep es;let⟨xs,h1,hg⟩:=bs (show (strsOf es).bind _=some d from hg);split at hg
  ·rename_i hok;cases hg;simp?[Rep] at r1;subst r1;refine⟨rfl,HF1,ρ,.list es,g1.fh,eo.mono g1.ff,hy,λv2 H2 HF2 g2 r2=>?_⟩;rw[md h1] at r2;simp?[Rep] at r2;let⟨l,us,rfl,hl,rr⟩:=r2;rw[pD rr] at hl;exact⟨sep,l,xs,rfl,rfl,g2.fh.seq hl,hok,q _ H2 HF2 (g1.trans g2) (by simp[Rep])⟩
  ·cases hg
def wy{a b:Str}{t t':Tok}{s:Shared}{Q:Value->Shared->Prop}(hb:(b.length == 0)=false)(ha:a.length<=sizeLine)(hn:(Txt.split a b).length<=sizeLine)
  (q:∀ (l:List (Str×Tok)) (k:Nat),l.map (·.1)=Txt.split a b->Q (.ref s.heap.objs.size) { s with heap:=s.heap.push { cls:=.type "list",data:=.seq (strValues l).toArray },toks:=k }) :
  wpAny (model prog w) A (call (.builtin "str.split") [.str a t,.str b t']) Q E s:=by
 have whole:Txt.split a b=[a]->Q (.ref s.heap.objs.size) { s with heap:=s.heap.push { cls:=.type "list",data:=.seq [Value.str a t].toArray } }:=λe=>q [(a,t)] s.toks (by rw[e];rfl);cases h1:(decide (a.length < b.length)||decide (Builtin.Str.strKind a < Builtin.Str.strKind b)) with
 | true=>exact qS PySem.F.slot_str_split (typeIs_str _ _ _) PySem.F.entry_str_split (PySem.F.args_str_split_2 _ _) (meets_str_split_cannot_occur a b t t' h1) (whole (by unfold Txt.split;rw[yI h1]))
 | false =>
  have n1:¬ (decide (a.length < b.length)||decide (Builtin.Str.strKind a < Builtin.Str.strKind b))=true:=by rw[h1];exact yW
  cases h2:(Builtin.Str.occurrences a b 0 a.length (a.length+1)).isEmpty with
  | true=>exact qS PySem.F.slot_str_split (typeIs_str _ _ _) PySem.F.entry_str_split (PySem.F.args_str_split_2 _ _) (meets_str_split_not_found a b t t' h1 hb h2) (whole (by unfold Txt.split;rw[yK n1,yI h2]))
  | false =>
   have e:Txt.split a b=Builtin.Str.partsBetween a (Builtin.Str.occurrences a b 0 a.length (a.length+1)) b.length:=by unfold Txt.split;rw[yK n1,yK (by rw[h2];exact yW)]
   rw[e] at hn q;refine qS PySem.F.slot_str_split (typeIs_str _ _ _) PySem.F.entry_str_split (PySem.F.args_str_split_2 _ _) (meets_str_split_sep a b t t' h1 hb h2 ha hn) ?_;rw[strsFrom_eq];exact q (numbered s.toks _) _ (numbered_texts _ _)
def E8:FM X "str.split" (λx vs H Q=>∃a b:Str,x=.str a/\vs=[.str b]/\(b.length == 0)=false/\a.length<=sizeLine/\(Txt.split a b).length<=sizeLine/\∀D:Addr,H D=none->Q (.ref D) (upd H D (.lst ((Txt.split a b).map V.str)))):=by
 intro pins s σ H x vs v us Q I rx rv h;let⟨a,b,rfl,rfl,hb,ha,hn,q⟩:=h;let⟨t,rfl⟩:=rx;let⟨u,rfl,ru⟩:=rv.one;let⟨t',rfl⟩:=ru;refine wy hb ha hn λl k e=>?_;have hv:=kn l;rw[e] at hv;refine⟨.ref s.heap.objs.size,_,I.laid (t':=k) (o:=.lst ((Txt.split a b).map V.str)) (λ_ _ z=>zS _ z) (yJ _) ⟨by rw[zD];exact hn,_,0,hv,zV _ rfl⟩,rfl,q _ I.fresh⟩
def dZ:D->D->Option (List D)
 | .str a,.str b=>if (b.length == 0)=false/\a.length<=sizeLine/\(Txt.split a b).length<=sizeLine then some ((Txt.split a b).map PyData.str) else none
 | _,_=>none
def Eh{fo:Env->Option D}(hbase:attributeBase o "split" X.env (eval o X.env)=eval o X.env)
  (hfew:((backTo cpos (starEach [e] X.env)).all (λx=>!x.1)&&(backToKw cpos (keywordEach [] X.env)).all (λx=>x.1.isSome)&&decide ([e].length+([]:List Keyword).length+(if ([]:List Keyword).isEmpty then 0 else 1) < 30))=true)
  (hline:(apos.endLine == cpos.line)=true) (hs:starEach [e] X.env=(false,eval e X.env)::starEach [] X.env) (ho:DE X o fo) (he:DE X e fe):DF X (.Call (.Attribute o "split" apos) [e] [] cpos) (pU dZ fo fe) :=
 aG (jf PySem.F.plainAttrs_str PySem.F.slot_str_split PySem.F.type_str_split E8 ho (bh he cA hs) hbase hfew hline hs rfl) λσ H Q ⟨HF,ρ,d,sm,eo,hf,q⟩=>by
  let⟨x,hx,hf⟩:=bs hf;let⟨y,hy,hg⟩:=bs hf;refine⟨HF,ρ,x,sm,eo,hx,λv1 H1 HF1 g1 r1=>?_⟩;cases x<;>try cases hg
  cases y<;>try cases hg
  rename_i a b;have hg:(if (b.length == 0)=false/\a.length<=sizeLine/\(Txt.split a b).length<=sizeLine then some ((Txt.split a b).map PyData.str) else none)=some d:=hg;split at hg
  ·rename_i hc;cases hg;simp?[Rep] at r1;subst r1;refine⟨rfl,HF1,ρ,.str b,g1.fh,eo.mono g1.ff,hy,λv2 H2 HF2 g2 r2=>?_⟩;simp?[Rep] at r2;subst r2;refine⟨a,b,rfl,rfl,hc.1,hc.2.1,hc.2.2,λD hD=>?_⟩;have g3:=g1.trans g2;exact q D _ _ HF2 (g3.trans (.own g3.fh hD)) (g3.hh.free hD) (g3.fh.free hD) aD (k9 _)
  ·cases hg
def Bf:FM X "str.index" (λx vs H Q=>∃ (a b:Str) (i:Nat) (r:List Nat),x=.str a/\vs=[.str b]/\Builtin.Str.occurrences a b 0 a.length 1=i::r/\Q (.int i) H):=by
 intro pins s σ H x vs v us Q I rx rv h;let⟨a,b,i,r,rfl,rfl,ho,q⟩:=h;let⟨t,rfl⟩:=rx;let⟨u,rfl,ru⟩:=rv.one;let⟨t',rfl⟩:=ru;exact SC.index ho ⟨.int i,H,I.tok _,⟨_,rfl⟩,q⟩
def nI:D->D->Option D
 | .str a,.str b=>match Builtin.Str.occurrences a b 0 a.length 1 with|i::_=>some (.int ((i:Nat):Int))|[]=>none
 | _,_=>none
def AU{fo:Env->Option D}(hbase:attributeBase o "index" X.env (eval o X.env)=eval o X.env)
  (hfew:((backTo cpos (starEach [e] X.env)).all (λx=>!x.1)&&(backToKw cpos (keywordEach [] X.env)).all (λx=>x.1.isSome)&&decide ([e].length+([]:List Keyword).length+(if ([]:List Keyword).isEmpty then 0 else 1) < 30))=true)
  (hline:(apos.endLine == cpos.line)=true) (hs:starEach [e] X.env=(false,eval e X.env)::starEach [] X.env) (ho:DE X o fo) (he:DE X e fe):DE X (.Call (.Attribute o "index" apos) [e] [] cpos) (f2 nI fo fe) :=
 aG (jf PySem.F.plainAttrs_str PySem.F.slot_str_index PySem.F.type_str_index Bf ho (bh he cA hs) hbase hfew hline hs rfl) λσ H Q ⟨HF,ρ,d,sm,eo,hf,q⟩=>by
  let⟨x,hx,hf⟩:=bs hf;let⟨y,hy,hg⟩:=bs hf;refine⟨HF,ρ,x,sm,eo,hx,λv1 H1 HF1 g1 r1=>?_⟩;cases x<;>try cases hg
  cases y<;>try cases hg
  rename_i a b;simp?[Rep] at r1;subst r1;refine⟨rfl,HF1,ρ,.str b,g1.fh,eo.mono g1.ff,hy,λv2 H2 HF2 g2 r2=>?_⟩;simp?[Rep] at r2;subst r2;cases ho:Builtin.Str.occurrences a b 0 a.length 1 with
  | nil=>simp?[nI,ho] at hg;cases hg
  | cons i r =>
   simp?[nI,ho] at hg;cases hg;exact⟨a,b,i,r,rfl,rfl,ho,q _ H2 HF2 (g1.trans g2) (by simp[Rep])⟩
def MO:D->D->Option Bool
 | .str a,.str b=>some (!(Builtin.Str.occurrences b a 0 b.length 1).isEmpty)
 | _,_=>none
def D6:eC X (compareOp .In) (K9 X.K MO):=by
 intro pins s σ H v1 v2 u1 u2 Q I rx ry h;let⟨HF,x,y,k,sm,r1,r2,hg,q⟩:=h;cases x<;>try cases hg
 cases y<;>try cases hg
 simp?[Rep] at r1 r2;subst r1 r2;exact AD pins s σ H _ _ u1 u2 Q I rx ry ⟨_,_,rfl,rfl,q⟩
def Ds:D->D->Option Bool
 | .str a,.str b=>some (!(!(Builtin.Str.occurrences b a 0 b.length 1).isEmpty))
 | _,_=>none
def C7:eC X (compareOp .NotIn) (K9 X.K Ds):=by
 intro pins s σ H v1 v2 u1 u2 Q I rx ry h;let⟨HF,x,y,k,sm,r1,r2,hg,q⟩:=h;cases x<;>try cases hg
 cases y<;>try cases hg
 simp?[Rep] at r1 r2;subst r1 r2;exact su pins s σ H _ _ u1 u2 Q I rx ry ⟨_,_,rfl,rfl,q⟩
def yx(n d:Nat)(o:Option Int)(hd:d<=n):(match o with|none=>((d:Nat):Int)|some i=>max 0 (min (if i < 0 then i+((n:Nat):Int) else i) ((n:Nat):Int)))=((HT.bg n d o:Nat):Int):=by
 cases o with
 | none=>rfl
 | some v =>
  show max 0 (min (if v < 0 then v+((n:Nat):Int) else v) ((n:Nat):Int))=(((if v < 0 then (v+(n:Int)).toNat else min v.toNat n):Nat):Int)
  by_cases h:v < 0
  ·rw[yI h,yI h];have:v+(n:Int)<=n:=by lia
   lia
  ·rw[yK h,yK h];lia
def tH(lo hi:Option Int)(n:Nat):Builtin.Str.strSliceIndices lo hi 1 n=(List.range (HT.bg n n hi - HT.bg n 0 lo)).map (λk=>HT.bg n 0 lo+k):=by
 have h1:=yx n 0 lo (xR _);have h2:=yx n n hi (yJ _);have e:Builtin.Str.strSliceIndices lo hi 1 n=Builtin.Str.strSliceIndices (some ((HT.bg n 0 lo:Nat):Int)) (some ((HT.bg n n hi:Nat):Int)) 1 n:=by
  have l1:=HT.ix n 0 (xR _) lo;have l2:=HT.ix n n (yJ _) hi;have a1:max (0:Int) (min ((HT.bg n 0 lo:Nat):Int) (n:Int))=((HT.bg n 0 lo:Nat):Int):=by lia
  have a2:max (0:Int) (min ((HT.bg n n hi:Nat):Int) (n:Int))=((HT.bg n n hi:Nat):Int):=by lia
  have n1:¬ (((HT.bg n 0 lo:Nat):Int) < 0):=by lia
  have n2:¬ (((HT.bg n n hi:Nat):Int) < 0):=by lia
  unfold Builtin.Str.strSliceIndices;simp?[show ((1:Int) > 0)=True from by simp,xE,n1,n2,qL,a1,a2];rw[<- h1,<- h2];cases lo<;>cases hi<;>rfl
 rw[e];rcases Nat.le_total (HT.bg n 0 lo) (HT.bg n n hi) with z|z
 ·exact StrLaws.strSliceIndices_plain z (HT.ix n n (yJ _) hi)
 ·have e0:HT.bg n n hi - HT.bg n 0 lo=0:=by lia
  have l1:=HT.ix n 0 (xR _) lo;have l2:=HT.ix n n (yJ _) hi;have a1:max (0:Int) (min ((HT.bg n 0 lo:Nat):Int) (n:Int))=((HT.bg n 0 lo:Nat):Int):=by lia
  have a2:max (0:Int) (min ((HT.bg n n hi:Nat):Int) (n:Int))=((HT.bg n n hi:Nat):Int):=by lia
  have n1:¬ (((HT.bg n 0 lo:Nat):Int) < 0):=by lia
  have n2:¬ (((HT.bg n n hi:Nat):Int) < 0):=by lia
  have n3:¬ (((HT.bg n 0 lo:Nat):Int) < ((HT.bg n n hi:Nat):Int)):=by lia
  unfold Builtin.Str.strSliceIndices;simp?[sliceRange,show ((1:Int) > 0)=True from by simp,xE,n1,n2,n3,qL,a1,a2,e0];rfl
def oN(a:Str)(lo hi:Option Int):Str:=⟨(cut a.cps.toList lo hi).toArray⟩
def wq(a:Str)(lo hi:Option Int):(⟨((Builtin.Str.strSliceIndices lo hi 1 a.length).filterMap (a.cps[·]?)).toArray⟩:Str)=oN a lo hi:=by
 unfold oN cut;rw[tH];have hl:a.cps.toList.length=a.length:=by simp[Str.length]
 rw[hl]
 congr 2
 rcases Nat.le_total (HT.bg a.length 0 lo) (HT.bg a.length a.length hi) with z|z
 ·have h:=StrLaws.picks a.cps.toList (HT.bg a.length a.length hi - HT.bg a.length 0 lo) (HT.bg a.length 0 lo) (by
   have:=HT.ix a.length a.length (yJ _) hi;lia)
  simpa using h
 ·have e0:HT.bg a.length a.length hi - HT.bg a.length 0 lo=0:=by lia
  rw[e0];simp
def CL(a:Str)(lo hi:Option Int):(oN a lo hi).length<=a.length:=by
 have:=yn a.cps.toList lo hi;simpa [oN,Str.length] using this
def part_of{v:Value}{o:Option Int}(h:IsPart v o):∃l:Option (Int×Tok),v=partValue l/\l.map (·.1)=o:=by
 cases h with
 | none=>exact⟨none,rfl,rfl⟩
 | int i t=>exact⟨some (i,t),rfl,rfl⟩
def Ib(hg:Gl X x)(hm:X.mg x=some (.str i t))(hd:(x == ("__debug__":Str))=false:=by decide):DE X (.Name x pos) (fC (.str i)) :=
 aG (zp (v:=.str i) hg hm ⟨t,rfl⟩ hd) λσ H Q ⟨HF,ρ,d,sm,eo,hf,q⟩=>by cases hf;exact q _ H HF (.refl sm) (by simp[Rep])
def JA:GY X (λx lo hi H Q=>∃a:Str,x=.str a/\a.length<=sizeLine/\Q (.str (oN a lo hi)) H):=by
 intro pins s σ H x v vl vu lo hi sl Q I rx hs pl pu h;let⟨a,rfl,hz,q⟩:=h;let⟨t,rfl⟩:=rx;let⟨l,rfl,rfl⟩:=part_of pl;let⟨u,rfl,rfl⟩:=part_of pu;refine⟨"str",_,PySem.F.slot_str_getitem.lookup,typeIs_str _ _ _,wpAny_getItem_str_slice (l:=l) (u:=u) (st:=none) hs rfl ?_⟩;have ep:(⟨((slicePicked a l u none).filterMap (a.cps[·]?)).toArray⟩:Str)=oN a (l.map (·.1)) (u.map (·.1)):=wq a _ _;unfold sliceMade;by_cases hw:((Option.map (λx:Int×Tok=>x.1) none).getD 1 == 1&&(slicePicked a l u none).length == a.length)=true
 ·rw[yI hw];have hlen:(slicePicked a l u none).length=a.length:=by simpa using hw
  have e2:oN a (l.map (·.1)) (u.map (·.1))=a:=by
   have h1:HT.bg a.length a.length (u.map (·.1)) - HT.bg a.length 0 (l.map (·.1))=a.length:=by
    have:(slicePicked a l u none).length=HT.bg a.length a.length (u.map (·.1)) - HT.bg a.length 0 (l.map (·.1)):=by unfold slicePicked;rw[show ((Option.map (λx:Int×Tok=>x.1) none).getD 1:Int)=1 from rfl,tH,zD,zR]
    lia
   have l2:=HT.ix a.length a.length (yJ _) (u.map (·.1));unfold oN cut;have hl:a.cps.toList.length=a.length:=by simp[Str.length]
   rw[hl,h1];by_cases h0:a.length=0
   ·have:a.cps.toList=[]:=List.length_eq_zero_iff.mp (by rw[hl];exact h0);cases a with
    | mk c=>simp at this;simp[this]
   ·rw[show HT.bg a.length 0 (l.map (·.1))=0 by lia,List.drop_zero,jZ (by rw[hl];exact yJ _)]
  exact⟨.str a,H,I,⟨t,rfl⟩,by rw[e2] at q;exact q⟩
 ·rw[yK hw,ep];exact⟨yB (CL _ _ _) hz,.str _,H,I.tok _,⟨_,rfl⟩,q⟩
def Jl:D->Option Int->Option Int->Option D
 | .str a,lo,hi=>if a.length<=sizeLine then some (.str (oN a lo hi)) else none
 | _,_,_=>none
def GO{lo hi:Option Expr}{fl fh:Env->Option (Option Int)}(ha:DE X a fa)(hl:DO X lo fl)(hh:DO X hi fh):DE X (.Subscript a (.Slice lo hi none p2) pos) (cC Jl fa fl fh):=aG (ua JA ha hl hh) λσ H Q ⟨HF,ρ,d,sm,eo,hf,q⟩=>by
 let⟨x,hx,hf⟩:=bs hf;let⟨l,hl,hf⟩:=bs hf;let⟨u,hu,hf⟩:=bs hf;refine⟨HF,ρ,x,sm,eo,hx,λv1 H1 HF1 g1 r1=>⟨HF1,ρ,l,g1.fh,eo.mono g1.ff,hl,λH2 HF2 g2=>⟨HF2,ρ,u,g2.fh,eo.mono (g1.ff.trans g2.ff),hu,λH3 HF3 g3=>?_⟩⟩⟩;have G:=(g1.trans g2).trans g3;obtain⟨a,rfl⟩:∃a,x=.str a:=by
  cases x<;>first|exact⟨_,rfl⟩|cases hf
 simp?[Rep] at r1;subst r1;have hf:(if a.length<=sizeLine then some (PyData.str (oN a l u)) else none)=some d:=hf;split at hf
 ·rename_i hz;cases hf;exact⟨a,rfl,hz,q _ H3 HF3 G (by simp[Rep])⟩
 ·cases hf
def l8:List D->Option D
 | [.str x]=>if x.length<=sizeLine then some (.int ((x.length:Nat):Int)) else none
 | _=>none
def He(B:my X "len" (.builtin "len"))(ha:DA X [e] fs)(he:starEach [e] X.env=(false,eval e X.env)::starEach [] X.env:=by rfl):DE X (.Call (.Name "len" p) [e] [] pos) (aU l8 fs) :=
 gy rK (by
  intro HF H ds vs d Q sm r hg q;unfold l8 at hg;split at hg
  ·split at hg
   ·rename_i x hz;cases hg;let⟨v,r',rfl,a,e0⟩:=r.cons_inv;rw[e0.nil_inv];simp?[Rep] at a;subst a;exact⟨x,rfl,hz,q _ H HF (.refl sm) (by simp[Rep])⟩
   ·cases hg
  ·cases hg) B ha (by decide) (by decide) he rfl
def Lx:D->D->Option D
 | .str z,.int i=>if z.length<=sizeLine then (mR z.cps.toList i).map λc=>.str ⟨#[c]⟩ else none
 | _,_=>none
def F9{K:W.Frag}:da K JK Lx:=by
 intro HF H x y v1 v2 d Q sm r1 r2 hg q;cases x<;>try cases hg
 cases y<;>try cases hg
 rename_i z i;have hg:(if z.length<=sizeLine then (mR z.cps.toList i).map λc=>PyData.str ⟨#[c]⟩ else none)=some d:=hg;split at hg
 ·rename_i hz;let⟨c,hc,rfl⟩:=ag hg;simp?[Rep] at r1 r2;exact⟨z,i,c,r1,r2,hz,hc,q _ H HF (.refl sm) (by simp[Rep])⟩
 ·cases hg
def Kw(ha:DE X a fa)(hb:DE X b fb)(hs:kq b:=by intro _ _;rfl):DE X (.Subscript a b pos) (f2 Lx fa fb):=aG (Dq DV ha hb hs) (A8 F9)
def Aw:cK X (.type "int") (λxs H Q=>∃ (x:Str) (n:Int),xs=[.str x]/\PySem.intText? x=some n/\x.length<=640/\Q (.int n) H):=by
 intro pins s σ H xs us Q I r h;let⟨x,n,rfl,hn,hl,q⟩:=h;let⟨u,rfl,t,rfl⟩:=vals1 r;exact W.KIN.call_text hn hl ⟨.int n,H,I.tok _,⟨_,rfl⟩,q⟩
def B5:List D->Option D
 | [.str x]=>if x.length<=640 then (PySem.intText? x).map PyData.int else none
 | _=>none
def Iv(B:my X "int" (.type "int"))(ha:DA X [e] fs)(he:starEach [e] X.env=(false,eval e X.env)::starEach [] X.env:=by rfl):DE X (.Call (.Name "int" p) [e] [] pos) (aU B5 fs) :=
 lH Aw (by
  intro HF H ds vs d Q sm r hg q;unfold B5 at hg;split at hg
  ·split at hg
   ·rename_i x hz;let⟨n,hn,rfl⟩:=ag hg;let⟨v,r',rfl,a,e0⟩:=r.cons_inv;rw[e0.nil_inv];simp?[Rep] at a;subst a;exact⟨x,n,rfl,hn,hz,q _ H HF (.refl sm) (by simp[Rep])⟩
   ·cases hg
  ·cases hg) B ha (by decide) (by decide) he rfl
def FG:List (D×D)->Str->Option D
 | [],_=>none
 | (k,v)::r,x=>match k with
  | .str y=>if y=x then some v else FG r x
  | _=>FG r x
def mL(ks:List (Str×List Int))(x:Str):Option (List Int):=(ks.find? λp=>decide (p.1=x)).map (·.2)
def xt(x:Str):∀ks:List (Str×List Int),FG (dE ks) x=(mL ks x).map λns=>.tuple (ns.map PyData.int)
 | []=>rfl
 | p::r=>by
  show (if p.1=x then some (PyData.tuple (p.2.map PyData.int)) else FG (dE r) x)=_;unfold mL;rw[List.find?_cons];by_cases h:p.1=x
  ·rw[yI h,zY h];rfl
  ·rw[yK h,zX h,xt x r];rfl
section
variable {X:Cx}
def se{K:W.Frag}{H:Hp}(x:Str):∀ {ks:List (Str×List Int)}{us:List (fj×V)}{vs:List (fj×Value)},eK K H ks us->KV us vs ->
  (mL ks x=none/\valueAt vs (Sum.inr x)=none)\/∃ns b,mL ks x=some ns/\valueAt vs (Sum.inr x)=some (.ref b)/\eZ K H b (ns.map V.int)
 | [],us,vs,h,kv=>by
  have h:us=[]:=h;subst h;cases kv;exact .inl ⟨rfl,rfl⟩
 | p::r,us,vs,⟨b,t,h1,h2,h3⟩,kv=>by
  subst h1;cases kv with
  | @cons _ q _ l hq kv =>
   have z1:(Sum.inr p.1:fj)=q.1:=hq.1;have z2:q.2=Value.ref b:=hq.2;by_cases h:p.1=x
   ·refine .inr ⟨p.2,b,?_,?_,h2⟩
    ·unfold mL;rw[List.find?_cons,zY h];rfl
    ·unfold valueAt;rw[List.find?_cons,zY (by rw[<- z1,h])];show some q.2=_;rw[z2]
   ·have e1:mL (p::r) x=mL r x:=by unfold mL;rw[List.find?_cons,zX h]
    have e2:valueAt (q::l) (Sum.inr x)=valueAt l (Sum.inr x):=by
     unfold valueAt;rw[List.find?_cons,zX (by rw[<- z1];intro z;injection z with z;exact h z)]
    rw[e1,e2];exact se x h3 kv
def Cv(I:Inv X pins σ H s)(e:H a=some (.dK us)):us.length<=sizeLine/\(a == sysModules)=false/\∃vs,KV us vs/\s.heap.DictOf (gS X.prog X.w) a vs:=(show cL X.prog X.w H s.heap a (.dK us) from I.hok a _ e)
def MZ:R2:=λx y H Q=>∃ (z:Str) (K:W.Frag) (a:Addr) (ks:List (Str×List Int)) (us:List (fj×V)),x=.str z/\y=.ref a/\H a=some (.dK us)/\eK K H ks us/\Q (.bl (!(mL ks z).isSome)) H
def Fh:eC X (compareOp .NotIn) MZ:=by
 intro pins s σ H x y v u Q I rx ry h;let⟨z,K,a,ks,us,rfl,rfl,ha,hr,q⟩:=h;let⟨t,rfl⟩:=rx;cases ry;let⟨_,hd,vs,kv,dd⟩:=Cv I ha;refine wpAny_notIn_of (k:=Sum.inr z) (knd:=gS X.prog X.w) (W.isStrOf_self z t) hd dd.mapOf ⟨.bl _,H,I.tok _,rfl,?_⟩;rcases se z hr kv with ⟨e1,e2⟩|⟨ns,b,e1,e2,_⟩
 ·rw[e2];rw[e1] at q;exact q
 ·rw[e2];rw[e1] at q;exact q
def DH:D->D->Option D
 | .str x,.dict l=>some (.bool (!(FG l x).isSome))
 | _,_=>none
def Ab{K:W.Frag}:da K MZ DH:=by
 intro HF H x y v1 v2 d Q sm r1 r2 hg q;cases x<;>try cases hg
 cases y<;>try cases hg
 rename_i x l;simp?[Rep] at r1 r2;let⟨a,ks,us,h1,rfl,h3,h4⟩:=r2;refine⟨x,K,a,ks,us,r1,h1,sm _ _ h3,h4.mono sm,?_⟩;have:(!(FG (dE ks) x).isSome)=!(mL ks x).isSome:=by rw[xt,Option.isSome_map]
 rw[<- this];exact q _ H HF (.refl sm) (by simp[Rep])
def IJ:R2:=λx y H Q=>∃ (z:Str) (K:W.Frag) (HF:Hp) (a:Addr) (ks:List (Str×List Int)) (us:List (fj×V)) (ns:List Int),x=.ref a/\y=.str z/\H a=some (.dK us)/\eK K HF ks us/\mL ks z=some ns/\∀b,eZ K HF b (ns.map V.int)->Q (.ref b) H
def JS:Fz X IJ:=by
 intro value slice pins s σ H x y v u Q I rx ry h hs;let⟨z,K,HF,a,ks,us,ns,rfl,rfl,ha,hr,hl,q⟩:=h;cases rx;let⟨t,rfl⟩:=ry;let⟨_,hd,vs,kv,dd⟩:=Cv I ha;rcases se z hr kv with ⟨e1,e2⟩|⟨ms,b,e1,e2,e3⟩
 ·rw[hl] at e1;cases e1
 ·rw[hl] at e1;cases e1;exact tail_any dd.typeIs slot_dict_getitem.lookup (wpAny_getItem_of (k:=Sum.inr z) (knd:=gS X.prog X.w) (W.isStrOf_self z t) dd.mapOf e2 ⟨.ref b,H,I.tok _,rfl,q b e3⟩) hs
def pL:D->D->Option D
 | .dict l,.str x=>FG l x
 | _,_=>none
def yb{K:W.Frag}{H:Hp}:∀ns:List Int,au K H (ns.map PyData.int) (ns.map V.int)
 | []=>rfl
 | n::r=>au.cons (by simp[Rep]) (yb r)
def Da{K:W.Frag}:da K IJ pL:=by
 intro HF H x y v1 v2 d Q sm r1 r2 hg q;cases x<;>try cases hg
 cases y<;>try cases hg
 rename_i l x;simp?[Rep] at r1 r2;let⟨a,ks,us,h1,rfl,h3,h4⟩:=r1;have hg:FG (dE ks) x=some d:=hg;rw[xt] at hg;let⟨ns,hn,rfl⟩:=ag hg;exact⟨x,K,HF,a,ks,us,ns,h1,r2,sm _ _ h3,h4,hn,λb hb=>q _ H HF (.refl sm) (by simp?[Rep];exact⟨b,_,rfl,hb,yb ns⟩)⟩
def Gg(ha:DE X a fa)(hb:DE X b fb)(hs:kq b:=by intro _ _;rfl):DE X (.Subscript a b pos) (f2 pL fa fb):=aG (Dq JS ha hb hs) (A8 Da)
def uF(us:List (fj×V))(z:Str)(v:V):List (fj×V):=if (us.any λkv=>decide (kv.1=Sum.inr z))=true then us.map (λkv=>if kv.1=Sum.inr z then (kv.1,v) else kv) else us++[(Sum.inr z,v)]
def nh(ks:List (Str×List Int))(z:Str)(ns:List Int):List (Str×List Int):=if (ks.any λp=>decide (p.1=z))=true then ks.map (λp=>if p.1=z then (p.1,ns) else p) else ks++[(z,ns)]
def E7(z:Str):∀ {us:List (fj×V)}{vs:List (fj×Value)},KV us vs->(us.any λkv=>decide (kv.1=Sum.inr z))=vs.any λkv=>decide (kv.1=Sum.inr z)
 | _,_,.nil=>rfl
 | _,_,.cons h t=>by rw[kP,kP,E7 z t,h.1]
def EH(z:Str)(r:RelV v u):∀ {us:List (fj×V)}{vs:List (fj×Value)},KV us vs->KV (us.map λkv=>if kv.1=Sum.inr z then (kv.1,v) else kv) (vs.map λkv=>if kv.1=Sum.inr z then (kv.1,u) else kv)
 | _,_,.nil=>.nil
 | a::_,b::_,.cons h t=>by
  refine .cons ?_ (EH z r t);let⟨h1,h2⟩:=h;dsimp only;by_cases e:a.1=Sum.inr z
  ·rw[yI e,yI (h1 ▸ e)];exact⟨h1,r⟩
  ·rw[yK e,yK (h1 ▸ e)];exact⟨h1,h2⟩
def C9:∀ {us:List (fj×V)}{vs:List (fj×Value)},KV us vs->RelV v u->KV (us++[(k,v)]) (vs++[(k,u)])
 | _,_,.nil,r=>.cons ⟨rfl,r⟩ .nil
 | _,_,.cons h t,r=>.cons h (C9 t r)
def Dz:∀ {us:List (fj×V)}{vs:List (fj×Value)},KV us vs->us.length=vs.length
 | _,_,.nil=>rfl
 | _,_,.cons h t=>by rw[zL,zL,Dz t]
def LN(z:Str){us:List (fj×V)}{vs:List (fj×Value)}(h:KV us vs)(r:RelV v u):KV (uF us z v) (stored vs (Sum.inr z) u):=by
 unfold uF stored;rw[E7 z h];split
 ·exact EH z r h
 ·exact C9 h r
def CO(us:List (fj×V))(z:Str)(v:V)(h:us.length < sizeLine):(uF us z v).length<=sizeLine:=by
 unfold uF;split
 ·rw[zD];lia
 ·rw[zN];exact h
def MT:V->V->V->Hp->(Hp->Prop)->Prop:=λo i v H Q=>∃ (a:Addr) (us:List (fj×V)) (z:Str),o=.ref a/\i=.str z/\H a=some (.dK us)/\us.length < sizeLine/\Q (upd H a (.dK (uF us z v)))
def F0:Lh X MT:=by
 intro pins s σ H o i v ov iv u Q I ro ri rv h;let⟨a,us,z,rfl,rfl,ha,hl,q⟩:=h;cases ro;let⟨t,rfl⟩:=ri;let⟨hz,hd,vs,kv,dd⟩:=Cv I ha;refine wpAny_setItem_pairs (hsz:=by rw[<- Dz kv];exact hz) (k:=Sum.inr z) (knd:=gS X.prog X.w) (W.isStrOf_self z t) dd λh' dd' hs=>⟨_,I.write (o:=.dK (uF us z v)) (x:=a) (e:=a) (by rw[ha];exact True.intro) (.inl rfl) (λc w' hc z=>(hs.2 c hc).trans z) (let ⟨q,_,_,hq,_⟩:=dd';⟨q,hq⟩) ⟨CO us z v hl,hd,_,LN z kv rv,dd'⟩,q⟩
def ym{K:W.Frag}(z:Str):∀ {ks:List (Str×List Int)}{us:List (fj×V)},eK K H ks us->(us.any λkv=>decide (kv.1=Sum.inr z))=ks.any λp=>decide (p.1=z)
 | [],us,h=>by have h:us=[]:=h;rw[h];rfl
 | p::r,us,⟨b,t,h1,h2,h3⟩=>by
  rw[h1,kP,kP,ym z h3]
  congr 1
  simp
def sr{K:W.Frag}(z:Str)(hb:eZ K H b (ns.map V.int)):∀ {ks:List (Str×List Int)}{us:List (fj×V)},eK K H ks us->eK K H (ks.map λp=>if p.1=z then (p.1,ns) else p) (us.map λkv=>if kv.1=Sum.inr z then (kv.1,V.ref b) else kv)
 | [],us,h=>by have h:us=[]:=h;rw[h];rfl
 | p::r,us,⟨c,t,h1,h2,h3⟩=>by
  rw[h1,zI,zI];by_cases e:p.1=z
  ·rw[yI e,yI (by rw[e])];exact⟨b,_,rfl,hb,sr z hb h3⟩
  ·rw[yK e,yK (λw=>by injection w with w;exact e w)];exact⟨c,_,rfl,h2,sr z hb h3⟩
def Aj{K:W.Frag}(hb:eZ K H b (ns.map V.int)):∀ {ks:List (Str×List Int)}{us:List (fj×V)},eK K H ks us->eK K H (ks++[(z,ns)]) (us++[(Sum.inr z,V.ref b)])
 | [],us,h=>by have h:us=[]:=h;rw[h];exact⟨b,[],rfl,hb,rfl⟩
 | p::r,us,⟨c,t,h1,h2,h3⟩=>by rw[h1];exact⟨c,_,rfl,h2,Aj hb h3⟩
def eK.put{K:W.Frag}(z:Str){ks:List (Str×List Int)}{us:List (fj×V)}(h:eK K H ks us)(hb:eZ K H b (ns.map V.int)):eK K H (nh ks z ns) (uF us z (.ref b)):=by
 unfold nh uF;rw[ym z h];split
 ·exact sr z hb h
 ·exact Aj hb h
def eK.len{K:W.Frag}:∀ {ks:List (Str×List Int)}{us:List (fj×V)},eK K H ks us->us.length=ks.length
 | [],us,h=>by have h:us=[]:=h;rw[h];rfl
 | p::r,us,⟨c,t,h1,h2,h3⟩=>by rw[h1,zL,zL,h3.len]
def rF:Slot->Bool|.dic _=>false|_=>true
def eh.setD{K:W.Frag}{us:List (fj×V)}{ks:List (Str×List Int)}(S:eh K HF₀ H₀ HF H ρ σ)(h1:H a=some (.dK us))(h2:HF a=none)(h3:H₀ a=none)(h4:eK K HF ks us)(nt:ρ.all rF=true) :
  eh K HF₀ H₀ HF H (ρ.set i (.dic ks)) (σ.set i (some (.ref a))):=by
 have old:∀ {j:Nat}{t:Slot},(ρ.set i (.dic ks))[j]?=some t->rF t=true->i≠j/\ρ[j]?=some t:=λ{j t} h hn=>by
  rw[xF] at h;by_cases hij:i=j
  ·rw[yI hij] at h;split at h
   ·cases h;cases hn
   ·cases h
  ·rw[yK hij] at h;exact⟨hij,h⟩
 have new:∀ {j:Nat}{ls:List (Str×List Int)},(ρ.set i (.dic ks))[j]?=some (.dic ls)->i=j/\ls=ks/\i < ρ.length:=λ{j ls} h=>by
  rw[xF] at h;by_cases hij:i=j
  ·rw[yI hij] at h;split at h
   ·rename_i hl;cases h;exact⟨hij,rfl,hij ▸ hl⟩
   ·cases h
  ·rw[yK hij] at h;have:=List.all_eq_true.mp nt _ (xY h);cases this
 refine⟨S.gr,λj e h=>?_,λj es h=>?_,λj k xs ys b e1 e2 e3 e4=>?_,by rw[yA,yA];exact S.len,S.tb,λj ls h=>?_,λj k ls ms g1 g2=>(new g1).1.symm.trans (new g2).1⟩
 ·let⟨hij,h⟩:=old h rfl;rw[xF,yK hij];exact S.val j e h
 ·let⟨hij,h⟩:=old h rfl;rw[xF,yK hij];exact S.own j es h
 ·let⟨n1,e1⟩:=old e1 rfl;let⟨n2,e2⟩:=old e2 rfl;rw[xF,yK n1] at e3;rw[xF,yK n2] at e4;exact S.inj j k xs ys b e1 e2 e3 e4
 ·let⟨rfl,rfl,hl⟩:=new h;rw[xF,yI rfl,yI (zP hl S.len)];exact⟨a,us,rfl,h1,h2,h3,h4⟩
def eh.putD{K:W.Frag}{us:List (fj×V)}{ks:List (Str×List Int)}(S:eh K HF₀ H₀ HF H ρ σ)(h:ρ[i]?=some (.dic ls))(ha:σ[i]?=some (some (.ref a)))(h4:eK K HF ks us) :
  eh K HF₀ H₀ HF (upd H a (.dK us)) (ρ.set i (.dic ks)) σ:=by
 let⟨a',ys,e1,e2,e3,e5,_⟩:=S.dic i ls h;rw[ha] at e1;cases e1;have hl:i < ρ.length:=(List.getElem?_eq_some_iff.mp h).1;have gr:bw HF₀ H₀ HF (upd H a (.dK us)):=⟨λb o e=>by rw[aC (aK e e5)];exact S.gr.hh b o e,S.gr.ff,λb o e=>by rw[aC (aK e e3)];exact S.gr.fh b o e,S.gr.nw⟩
 have old:∀ {j:Nat}{t:Slot},(ρ.set i (.dic ks))[j]?=some t->rF t=true->ρ[j]?=some t:=λ{j t} h hn=>by
  rw[xF] at h;by_cases hij:i=j
  ·rw[yI hij,yI hl] at h;cases h;cases hn
  ·rw[yK hij] at h;exact h
 have new:∀ {j:Nat}{ms:List (Str×List Int)},(ρ.set i (.dic ks))[j]?=some (.dic ms)->i=j/\ms=ks:=λ{j ms} g=>by
  rw[xF] at g;by_cases hij:i=j
  ·rw[yI hij,yI hl] at g;cases g;exact⟨hij,rfl⟩
  ·rw[yK hij] at g;exact absurd (S.one i j ls ms h g) hij
 refine⟨gr,λj e g=>S.val j e (old g rfl),λj es g=>?_,λj k xs ys b f1 f2=>S.inj j k xs ys b (old f1 rfl) (old f2 rfl),by rw[yA];exact S.len,S.tb,λj ms g=>?_,λj k ms qs g1 g2=>(new g1).1.symm.trans (new g2).1⟩
 ·let⟨b,vs,f1,f2,f3,f5,f4⟩:=S.own j es (old g rfl);refine⟨b,vs,f1,?_,f3,f5,f4⟩;rw[aC λz=>by rw[z,e2] at f2;cases f2];exact f2
 ·let⟨rfl,rfl⟩:=new g;exact⟨a,us,ha,aD,e3,e5,h4⟩
def Ms:Option Slot->Option (List (Str×List Int))
 | some (.dic ks)=>some ks
 | _=>none
def lR{ρ:ar}{i:Nat}(h:Ms ρ[i]?=some ks):ρ[i]?=some (.dic ks):=by
 cases hd:ρ[i]? with
 | none=>rw[hd] at h;cases h
 | some t =>
  rw[hd] at h;cases t with
  | dic ls=>cases h;rfl
  | _=>cases h
def KE:D->Option Str
 | .str x=>some x
 | _=>none
def uf(j:Nat):ar->Option Out:=λρ=>if ρ.all rF=true then some (.nx (ρ.set j (.dic []))) else none
def HS:PE X (.Dict [] [] pos) (λ_ H Q=>∀p,H p=none->Q (.ref p) (upd H p (.dK []))):=by
 intro pins s σ H Q I q;have big:sysModules < s.heap.objs.size:=vX (by decide) (show mainGlobals < s.heap.objs.size from (I.mod.glob.keeps I.bk).lt);exact wpAny_Dict_empty ⟨.ref s.heap.objs.size,_,I.laid (a:=s.heap.objs.size) (o:=.dK []) (t':=s.toks) (λ_ _ q=>zS _ q) (yJ _) ⟨xR _,beq_eq_false_iff_ne.mpr (jI (yO big)),[],.nil,Heap.DictOf.new s.heap⟩,rfl,q _ (I.hok.fresh (yJ _))⟩
def HG(j:Nat)(hN':X.N.Nodup)(hi:X.N[j]?=some y)(hy:Loc X.env.scope y)
  (hs:swapsWith (.Dict [] [] dp) (some (.Name y pos')) pos.line X.env=pure false:=by rfl)
  (hf:X.fn y=true\/X.env.scope.names.lookup y=some .local:=by first|exact .inl rfl|exact .inr rfl|assumption):DS X HF₀ H₀ (.Assign [.Name y pos'] (.Dict [] [] dp) pos) (uf j) :=
 bO (lY hN' hi hy HS hs hf) λE σ H ⟨HF,ρ,o,S,hg,q⟩=>by
  unfold uf at hg;split at hg
  ·rename_i hc;cases hg;intro p hp;have S2:eh X.K HF₀ H₀ HF (upd H p (.dK [])) ρ σ:=S.step (cD hp);exact q _ _ HF (S2.setD (i:=j) aD (S.gr.fh.free hp) (S.gr.hh.free hp) rfl hc) (.refl _)
  ·cases hg
def um(j:Nat)(fk f:Env->Option D):ar->Option Out:=λρ=>(f (bW ρ)).bind λd=>(k7 d).bind λns=>(fk (bW ρ)).bind λk=>(KE k).bind λx=>(Ms ρ[j]?).bind λks=>if ks.length < sizeLine then some (.nx (ρ.set j (.dic (nh ks x ns)))) else none
def HJ(j:Nat)(hN:X.N[j]?=some y)(hv:FA X.env.scope y)(hk:DE X ek fk)(h:DE X e2 f)(hd:(y == ("__debug__":Str))=false)(hcd:(y == ("__classdict__":Str))=false)
  (ha:∀v,assign (.Subscript (.Name y py) ek spos) X.env v=(do
   let ov <- holding [v] (eval (.Name y py) X.env)
   let iv <- holding [v,ov] (eval ek X.env)
   standAt spos
   holding [v,ov,iv] (setItem ov iv v)
   release [v,ov,iv] []):=by intro _;rfl)
  (hs:swapsWithSole [.Subscript (.Name y py) ek spos] e2 pos.line X.env=pure false:=by rfl) (hw:swappedStores [.Subscript (.Name y py) ek spos] e2 X.env=pure none:=by rfl)
  (h1:(assignEach [.Subscript (.Name y py) ek spos] X.env).map (·.2)=[assign (.Subscript (.Name y py) ek spos) X.env]:=by rfl) :
  DS X HF₀ H₀ (.Assign [.Subscript (.Name y py) ek spos] e2 pos) (um j fk f) :=
 bO (Dv h (BP (gQ hN hv hd hcd) hk F0 ha) hs hw h1) λE σ H ⟨HF,ρ,o,S,hg,q⟩=>by
  let⟨d,h3,hg⟩:=bs hg;let⟨ns,h1,hg⟩:=bs hg;let⟨k,h4,hg⟩:=bs hg;let⟨x,h5,hg⟩:=bs hg;let⟨ks,h2,hg⟩:=bs hg;split at hg
  ·rename_i hc;cases hg;refine⟨HF,bW ρ,d,S.gr.fh,S.frz,h3,λv H1 HF1 G1 r1=>?_⟩;have S1:=S.grow G1;let⟨a,us,f1,f2,f3,f5,f4⟩:=S1.dic j ks (lR h2);refine⟨_,f1,HF1,bW ρ,k,G1.fh,S1.frz,h4,λv2 H2 HF2 G2 r2=>?_⟩;have S2:=S1.grow G2;let⟨a',us',g1,g2,g3,g5,g4⟩:=S2.dic j ks (lR h2);rw[f1] at g1;cases g1;cases k with
   | str x' =>
    cases h5;simp?[Rep] at r2;rw[j6 h1] at r1;have r1:=r1.mono G2.ff;simp?[Rep] at r1;let⟨b,vs,rfl,hb,rr⟩:=r1;rw[gD rr] at hb;exact⟨a,us',x,rfl,r2,g2,by rw[g4.len];exact hc,q σ _ HF2 (S2.putD (lR h2) f1 (g4.put x hb)) (G1.ff.trans G2.ff)⟩
   | _=>cases h5
  ·cases hg
end
section
variable {X:Cx}
def cn:List D->Option D
 | [.int i]=>if i.natAbs.log2 < 1920 then some (.str (toString i)) else none
 | [.str x]=>some (.str x)
 | _=>none
def As:cK X (.type "str") (λxs H Q=>(∃i,xs=[.int i]/\i.natAbs.log2 < 1920/\Q (.str (toString i)) H)\/∃x,xs=[.str x]/\Q (.str x) H):=by
 intro pins s σ H xs us Q I r h;rcases h with ⟨i,rfl,hz,q⟩|⟨x,rfl,q⟩
 ·let⟨u,rfl,t,rfl⟩:=vals1 r;exact PySem.P.str_of_int hz ⟨.str _,H,I.tok _,⟨_,rfl⟩,q⟩
 ·let⟨u,rfl,t,rfl⟩:=vals1 r;exact PySem.P.str_of_str ⟨.str _,H,I,⟨_,rfl⟩,q⟩
def FW(B:my X "str" (.type "str"))(ha:DA X [e] fs)(he:starEach [e] X.env=(false,eval e X.env)::starEach [] X.env:=by rfl):DE X (.Call (.Name "str" p) [e] [] pos) (aU cn fs) :=
 lH As (by
  intro HF H ds vs d Q sm r hg q;unfold cn at hg;split at hg
  ·rename_i i;split at hg
   ·rename_i hz;cases hg;let⟨v,r',rfl,a,e0⟩:=r.cons_inv;rw[e0.nil_inv];simp?[Rep] at a;subst a;exact .inl ⟨i,rfl,hz,q _ H HF (.refl sm) (by simp[Rep])⟩
   ·cases hg
  ·rename_i x;cases hg;let⟨v,r',rfl,a,e0⟩:=r.cons_inv;rw[e0.nil_inv];simp?[Rep] at a;subst a;exact .inr ⟨x,rfl,q _ H HF (.refl sm) (by simp[Rep])⟩
  ·cases hg) B ha (by decide) (by decide) he rfl
def Bj:D->Option D
 | .int i=>if i.natAbs.log2 < 1920 then some (.str (toString i)) else none
 | _=>none
def Lv(h:DE X e f):DE X (.FormattedValue e (-1) none pos) (f1 Bj f):=by
 intro pins s σ H Q I ⟨HF,ρ,d,sm,eo,hf,q⟩;let⟨x,hx,hg⟩:=bs hf;refine wpAny_FormattedValue_plain (bK (h pins s σ H _ I ⟨HF,ρ,x,sm,eo,hx,λv H' HF' G r=>(⟨HF',G,r⟩:∃HF',bw HF H HF' H'/\Rep X.K HF' x v)⟩) λu s1 ⟨y,H1,I1,r1,HF1,G,r⟩=>?_);cases x with
 | int i =>
  have hg:(if i.natAbs.log2 < 1920 then some (PyData.str (toString i)) else none)=some d:=hg;split at hg
  ·rename_i hz;cases hg;simp?[Rep] at r;subst r;let⟨t,rfl⟩:=r1;exact wpAny_formatField_int hz ⟨.str _,H1,I1.tok _,⟨_,rfl⟩,q _ H1 HF1 G (by simp[Rep])⟩
  ·cases hg
 | _=>cases hg
def GM:List (Env->Option D)->Str->Env->Option D
 | [],acc,_=>some (.str acc)
 | f::fs,acc,ρ=>(f ρ).bind λd=>(KE d).bind λy=>if (acc++y).length<=sizeLine then GM fs (acc++y) ρ else none
def DQ{ρ:Env}{d:D}{es:List Expr}{fs:List (Env->Option D)}(P:Paired (λe f=>DE X e f) es fs):∀ {acc:Str}{s:Shared}{HF H:Hp}{Q:V->Hp->Prop},acc.length<=sizeLine->Inv X pins σ H s->aH HF H->cx X.K HF ρ σ->GM fs acc ρ=some d->(∀v H' HF',bw HF H HF' H'->Rep X.K HF' d v->Q v H') ->
  Joins (model X.prog X.w) X.A X.xe (evalEach es X.env) acc (λout s1=>out.length<=sizeLine/\EP X pins σ Q (.str out s1.toks) { s1 with toks:=s1.toks+1 }) s:=by
 induction P with
 | nil =>
  intro acc s HF H Q hl I sm eo hf q;cases hf;exact Joins_nil ⟨hl,.str acc,H,I.tok _,⟨_,rfl⟩,q _ H HF (.refl sm) (by simp[Rep])⟩
 | @cons e f es fs h t ih =>
  intro acc s HF H Q hl I sm eo hf q;let⟨x,hx,hf1⟩:=bs hf;let⟨y,hy,hf2⟩:=bs hf1;clear hf hf1;split at hf2
  ·rename_i hz;refine Joins_cons (bK (h pins s σ H _ I ⟨HF,ρ,x,sm,eo,hx,λv H' HF' G r=>(⟨HF',G,r⟩:∃HF',bw HF H HF' H'/\Rep X.K HF' x v)⟩) λu s1 ⟨w,H1,I1,r1,HF1,G,r⟩=>?_);cases x with
   | str z =>
    cases hy;simp?[Rep] at r;subst r;let⟨tk,rfl⟩:=r1;exact⟨y,tk,rfl,hz,ih hz I1 G.fh (eo.mono G.ff) hf2 λv H' HF' G2 r2=>q v H' HF' (G.trans G2) r2⟩
   | _=>cases hy
  ·cases hf2
def BC(P:Paired (λe f=>DE X e f) (e1::e2::es) fs):DE X (.JoinedStr (e1::e2::es) pos) (GM fs Str.empty):=by
 intro pins s σ H Q I ⟨HF,ρ,d,sm,eo,hf,q⟩;exact wpAny_JoinedStr (DQ P (by decide) I sm eo hf q)
def Be(i j k:Nat):ar->D->Option ar:=λρ d=>match d with
 | .tuple [a,b,c]=>some (((ρ.set i (.val a)).set j (.val b)).set k (.val c))
 | _=>none
def AS(i j k:Nat){n:Nat}(hc:X.calm=true)(hN:X.N.Nodup)(hi:X.N[i]?=some x)(hx:Loc X.env.scope x)(hj:X.N[j]?=some y)(hy:Loc X.env.scope y)(hk:X.N[k]?=some z)(hz:Loc X.env.scope z)
  (f1:X.fn x=true\/X.env.scope.names.lookup x=some .local) (f2:X.fn y=true\/X.env.scope.names.lookup y=some .local) (f3:X.fn z=true\/X.env.scope.names.lookup z=some .local) :
  Nf X HF₀ H₀ (.Tuple [.Name x px,.Name y py,.Name z pz] n pos) (Be i j k) :=
 lE (si hc (cE (cI hN hi hx f1) (cE (cI hN hj hy f2) (cE (cI hN hk hz f3) mW)))) λv σ H Q ⟨HF,ρ,d,ρ',S,r,hf,q⟩=>by
  unfold Be at hf;split at hf
  ·cases hf;simp?[Rep] at r;let⟨a,vs,rfl,hs,rr⟩:=r;let⟨v1,r1,rfl,a1,b1⟩:=rr.cons_inv;let⟨v2,r2,rfl,a2,b2⟩:=b1.cons_inv;let⟨v3,r3,rfl,a3,b3⟩:=b2.cons_inv;rw[b3.nil_inv] at hs;exact⟨a,_,rfl,ay S.gr.fh hs,rfl,v1,_,rfl,v2,_,rfl,v3,_,rfl,rfl,q _ (((S.setV a1).setV a2).setV a3)⟩
  ·cases hf
def zr:List D->Option (List D)
 | [.int i,.int j]=>if (oX i&&oX j)=true then some ((List.range (j - i).toNat).map λk=>PyData.int (i+((k:Nat):Int))) else none
 | _=>none
def iP(fs:Env->Option (List D)):Env->Option (List D):=λρ=>(fs ρ).bind zr
def A1(B:my X "range" (.type "range"))(h:DA X [a,b] fs)(hs:starEach [a,b] X.env=[(false,eval a X.env),(false,eval b X.env)]:=by rfl)(hs2:starEach [b] X.env=[(false,eval b X.env)]:=by rfl):DI X tg (.Call (.Name "range" p) [a,b] [] pos) (iP fs) :=
 nM (AR B.gl B.mg h hs hs2) λσ H R ⟨HF,ρ,ds,sm,eo,hf,q⟩=>by
  let⟨x,hx,hf⟩:=bs hf;unfold zr at hf;split at hf
  ·rename_i i j;split at hf
   ·rename_i hz;cases hf;refine⟨HF,ρ,_,sm,eo,hx,λvs H1 HF1 g1 r1=>?_⟩;let⟨v,r,rfl,a1,b1⟩:=r1.cons_inv;let⟨v2,r2,rfl,a2,b2⟩:=b1.cons_inv;rw[b2.nil_inv];simp?[Rep] at a1 a2;subst a1 a2;unfold oX at hz;simp?[zF,zJ] at hz;exact⟨i,j,rfl,⟨hz.1.1,hz.1.2,hz.2.1,hz.2.2⟩,q _ H1 HF1 g1 nV⟩
   ·cases hf
  ·cases hf
end
end Dl
namespace Rf
open PySem L2 Dl PySem.Spec PyProof.Rows
variable {env:PySem.Env}
structure Tr where
 e:Expr->Option (Dl.Env->Option D)
 f:Expr->Option (Dl.Env->Option (List D))
 t:Expr->Option (Dl.Env->Option Bool)
structure Sg where
 fn:List (Str×Nat×(List D->Option D))
 int:List (Str×D)
abbrev FE:=Dl.Env->Option D
def wb(G:Sg)(sc:Scope)(N:List Str)(x:Str):Option FE:=match N.idxOf? x with
 | some i=>if uO N sc i x=true then some (ae i) else none
 | none=>if (sG sc x&&!(x == ("__debug__":Str)))=true then (G.int.lookup x).map λn=>fC n else none
def zc:Const->Option FE
 | .int i=>some (fC (.int i))
 | .bool b=>some (fC (.bool b))
 | .none=>some (fC .none)
 | .str x=>some (fC (.str x))
 | _=>none
def MV(T:Tr)(op:UnaryOp)(a:Expr):Option FE:=match op with
 | .USub=>(T.e a).map (f1 B7)
 | _=>none
def OT:Operator->Option (D->D->Option D)
 | .Add=>some aB
 | .Sub=>some Dl.jw
 | .Mult=>some eL
 | .FloorDiv=>some lx
 | .Mod=>some jr
 | _=>none
def Jw:Expr->Bool
 | .List ..=>true
 | .ListComp ..=>true
 | _=>false
def yq:Expr->Bool
 | .List ..=>true
 | .ListComp ..=>true
 | .BinOp a .Mult _ _=>Jw a
 | .BinOp a .Add b _=>yq a||yq b
 | .Call (.Name x _) _ _ _=>x == ("sorted":Str)||x == ("list":Str)
 | _=>false
def Cp(T:Tr)(whole a:Expr)(op:Operator)(b:Expr):Option FE :=
 if yq whole=true then (T.f whole).map bM else (OT op).bind λg=>(T.e a).bind λx=>(T.e b).map λy=>f2 g x y
def rQ(T:Tr)(op:BoolOp):List Expr->Option FE
 | []=>none
 | [a]=>T.e a
 | a::b::r=>(T.e a).bind λx=>(rQ T op (b::r)).map λy=>match op with|.And=>i9 x y|.Or=>ON x y
def MJ:CmpOp->Option (D->D->Option D)
 | .Lt=>some NM
 | .LtE=>some Ag
 | .Gt=>some uL
 | .GtE=>none
 | .Eq=>some bj
 | .NotEq=>some dM
 | .In=>some J7
 | .NotIn=>some Lo
 | .Is=>some Ec
 | .IsNot=>some sU
def N2:CmpOp->Option (D->D->Option D)
 | .Lt=>some NM
 | .LtE=>some Ag
 | _=>none
def zm(T:Tr)(a:Expr)(ops:List CmpOp)(cs:List Expr):Option FE:=match ops,cs with
 | [op],[b]=>if behindInMarks op b=false then (MJ op).bind λg=>(T.e a).bind λx=>(T.e b).map λy=>f2 g x y else none
 | [op,op'],[b,c]=>if lastMarks [op,op'] [b,c]=false then (N2 op).bind λg=>(N2 op').bind λg'=>(T.e a).bind λx=>(T.e b).bind λy=>(T.e c).map λz=>iH g g' x y z else none
 | _,_=>none
def oC(T:Tr):List Expr->Option (Dl.Env->Option (List D))
 | []=>some af
 | e::es=>if isStar e=false then (T.e e).bind λx=>(oC T es).map λr=>aa x r else none
def Ny(T:Tr):Option Expr->Option (Dl.Env->Option (Option Int))
 | none=>some cZ
 | some e=>(T.e e).map lh
def qf:Expr->Bool
 | .Slice ..=>true
 | .Tuple ..=>true
 | .Starred ..=>true
 | _=>false
def n6:Expr->Bool
 | .UnaryOp .USub (.Constant (.int 1) _ _) _=>true
 | _=>false
def EF(T:Tr)(a b:Expr):Option FE:=match b with
 | .Slice lo hi none _=>(T.e a).bind λx=>(Ny T lo).bind λl=>(Ny T hi).map λh=>cC bJ x l h
 | .Slice none none (some s) _=>if n6 s=true then (T.e a).map λx=>f1 ou x else none
 | _=>if qf b=false then (T.e a).bind λx=>(T.e b).map λy=>f2 aF x y else none
def O8:List D->Option D:=λds=>(oneOf ds).bind λd=>match d with
 | .list es=>(boolsOf es).map λbs=>.bool (bs.any id)
 | _=>none
def lP:Expr->Option Expr
 | .Call (.Name x _) [e] [] _=>if x="set" then some e else none
 | _=>none
def JR(x:Str):Option String:=if x="int" then some "int" else if x="bool" then some "bool" else if x="tuple" then some "tuple" else if x="list" then some "list" else none
def vi(G:Sg)(sc:Scope)(T:Tr)(whole:Expr)(x:Str)(args:List Expr):Option FE :=
 if (sG sc x&&args.all λe=>!isStar e)=true then
  match G.fn.lookup x with
  | some (n,m)=>if (args.isEmpty||x == ("__debug__":Str))=true then none else (oC T args).map λfs=>ah n m fs
  | none =>
   if x="len" then (match args with
    | [e]=>(match lP e with
     | some e'=>if (sG sc "set"&&!isStar e')=true then (T.e e').map λy=>f1 iV y else none
     | none=>(oC T args).map λfs=>aU bE fs)
    | _=>none)
   else if x="isinstance" then (match args with
    | [e,.Name y _]=>if sG sc y=true then (JR y).bind λty=>(T.e e).map λz=>Jc ty z else none
    | _=>none)
   else if x="tuple" then (if args.length=1 then (oC T args).map λfs=>aU cm fs else none)
   else if x="all" then (if args.length=1 then (oC T args).map λfs=>aU kf fs else none)
   else if x="any" then (if args.length=1 then (oC T args).map λfs=>aU O8 fs else none)
   else if x="sum" then (if args.length=1 then (oC T args).map λfs=>aU nr fs else none)
   else if x="min" then (if args.isEmpty=true then none else (oC T args).map λfs=>aU Ll fs)
   else if (x == ("list":Str)||x == ("sorted":Str))=true then (T.f whole).map bM
   else none
 else none
def mZ:Expr->Bool
 | .Call ..=>true
 | _=>false
def vz(T:Tr)(o:Expr)(m:Str)(apos:Pos)(args:List Expr)(cpos:Pos):Option FE :=
 if (m == ("index":Str)&&apos.endLine == cpos.line&&!mZ o)=true then (match args with
  | [e]=>if isStar e=false then (T.e o).bind λx=>(T.e e).map λy=>f2 Ng x y else none
  | _=>none)
 else none
def yy(G:Sg)(sc:Scope)(N:List Str)(T:Tr)(whole:Expr):Option FE:=match whole with
 | .Name x _=>wb G sc N x
 | .Constant c _ _=>zc c
 | .UnaryOp op a _=>MV T op a
 | .BinOp a op b _=>Cp T whole a op b
 | .BoolOp op es _=>rQ T op es
 | .Compare a ops cs _=>zm T a ops cs
 | .IfExp c a b _=>(T.t c).bind λz=>(T.e a).bind λx=>(T.e b).map λy=>BN z x y
 | .Tuple es _ _=>(oC T es).map aP
 | .Subscript a b _=>EF T a b
 | .List ..=>(T.f whole).map bM
 | .ListComp ..=>(T.f whole).map bM
 | .Call (.Name x _) args [] _=>vi G sc T whole x args
 | .Call (.Name _ _) _ (_::_) _=>(T.f whole).map bM
 | .Call (.Attribute o m apos) args [] cpos=>vz T o m apos args cpos
 | _=>none
def NH(T:Tr)(op:BoolOp):List Expr->Option (Dl.Env->Option Bool)
 | []=>none
 | [a]=>T.t a
 | a::b::r=>(T.t a).bind λx=>(NH T op (b::r)).map λy=>match op with|.And=>Ac x y|.Or=>ib x y
def EJ:Expr->Bool
 | .Name ..=>true
 | .Call ..=>true
 | .Subscript ..=>true
 | _=>false
def stepT(T:Tr)(whole:Expr):Option (Dl.Env->Option Bool):=match whole with
 | .Compare a ops cs _=>(zm T a ops cs).map fB
 | .UnaryOp .Not a _=>(T.t a).map bf
 | .BoolOp op es _=>NH T op es
 | _=>if EJ whole=true then (T.e whole).map fB else none
def sd:Expr->Bool
 | .Tuple ..=>true
 | _=>false
def NN(sc:Scope)(T:Tr)(tg iter:Expr):Option (Dl.Env->Option (List D)):=match iter with
 | .Call (.Name x _) args [] _ =>
  if x="range" then (match args with|[e]=>if (sG sc "range"&&!isStar e)=true then (oC T args).map dc else none|[a,b]=>if (sG sc "range"&&(!isStar a&&!isStar b))=true then (oC T args).map iP else none|_=>none)
  else if x="enumerate" then (match args with|[e]=>if (sG sc "enumerate"&&!isStar e&&sd tg)=true then (oC T args).map dI else none|_=>none)
  else if x="zip" then (match args with|[e,e']=>if (sG sc "zip"&&!isStar e&&!isStar e'&&sd tg)=true then (oC T args).map cO else none|_=>none)
  else (T.e iter).map aM
 | .Set ..=>none
 | _=>(T.e iter).map aM
def OD:Expr->Option (List Str)
 | .Name x _=>some [x]
 | .Tuple [.Name x _,.Name y _] _ _=>some [x,y]
 | _=>none
def Ob:Expr->Option (List Str)
 | .Tuple [.Name x _,.Name y _,.Name z _] _ _=>some [x,y,z]
 | tg=>OD tg
def pQ(N:List Str)(scope:Scope):List Nat:=(List.range N.length).filter λj=>match N[j]? with|some x=>decide (scope.names.lookup x=some .free)|none=>false
def Kt:Expr->Bool
 | .Set ..=>false
 | _=>true
def IC(B:Tr)(ifs:List Expr):Option (Dl.Env->Option Bool):=match ifs with
 | []=>some λ_=>some true
 | [c]=>B.t c
 | _=>none
def sC(sc:Scope)(N:List Str)(T:Tr)(blk:Scope->List Str->Tr)(elt:Expr)(gens:List Comprehension)(scope:Scope):Option (Dl.Env->Option (List D)):=match gens with
 | [⟨tg,iter,ifs,as⟩] =>
  if as=0 then (Ob tg).bind λxs =>
   if (wt sc scope N (xs++(pQ N scope).filterMap λj=>N[j]?) xs.length (pQ N scope)&&(List.range xs.length).all λi=>mD (xs++(pQ N scope).filterMap λj=>N[j]?) scope i (xs.getD i ""))=true then
    (NN sc T tg iter).bind λfi=>(IC (blk scope (xs++(pQ N scope).filterMap λj=>N[j]?)) ifs).bind λtt =>
     ((blk scope (xs++(pQ N scope).filterMap λj=>N[j]?)).e elt).map λte=>aw xs.length (pQ N scope) fi (match xs with|[_]=>fG 0|[_,_]=>mC 0 1|_=>O0 0 1 2) tt te
   else none
  else none
 | _=>none
def zf(lam:Option Str)(sc:Scope)(N:List Str)(T:Tr)(blk lmb:Scope->List Str->Tr)(whole:Expr):Option (Dl.Env->Option (List D)):=match whole with
 | .List es _=>(oC T es).map du
 | .ListComp elt gens scope _=>sC sc N T blk elt gens scope
 | .BinOp a .Mult b _=>if Jw a=true then (T.f a).bind λx=>(T.e b).map λy=>tM x y else none
 | .BinOp a .Add b _=>(T.e a).bind λx=>(T.e b).map λy=>pU gF x y
 | .Call (.Name x _) [e] [] _ =>
  if (sG sc x&&!isStar e)=true then
   if x="list" then (oC T [e]).map λfs=>eQ br fs
   else if x="sorted" then (oC T [e]).map λfs=>eQ fA fs
   else none
  else none
 | _=>none
def Gz:List Str:=["line","word","text","_law_line","_law_word","_law_text_here","_law_spoilt","_law_sign","DIGITS","POINT"]
def pZ:Nat->Expr->Bool
 | 0,_=>false
 | n+1,e=>match e with
  | .Constant (.str _) _ _=>true
  | .Name x _=>Gz.contains x
  | .BinOp a .Add b _=>pZ n a||pZ n b
  | .IfExp _ a b _=>pZ n a||pZ n b
  | .Subscript a (.Slice ..) _=>pZ n a
  | .Call (.Attribute _ m _) _ _ _=>m == ("join":Str)
  | .Call (.Name x _) _ _ _=>x == ("str":Str)
  | _=>false
abbrev tx(e:Expr):Bool:=pZ 20 e
def Co(G:Sg)(sc:Scope)(T:Tr)(x:Str)(e:Expr):Option FE :=
 if (sG sc x&&(!isStar e&&(G.fn.lookup x).isNone))=true then
  if (x == ("len":Str)&&tx e)=true then (oC T [e]).map λfs=>aU l8 fs
  else if (x == ("str":Str))=true then (oC T [e]).map λfs=>aU cn fs
  else if (x == ("int":Str)&&tx e)=true then (oC T [e]).map λfs=>aU B5 fs
  else none
 else none
def Ez(T:Tr)(o:Expr)(m:Str)(apos:Pos)(e:Expr)(cpos:Pos):Option FE :=
 if (apos.endLine == cpos.line&&(!mZ o&&!isStar e))=true then
  if (m == ("join":Str))=true then (T.e o).bind λx=>(T.e e).map λy=>f2 j5 x y
  else if (m == ("split":Str))=true then (T.e o).bind λx=>(T.e e).map λy=>bM (pU dZ x y)
  else if (m == ("index":Str)&&tx o)=true then (T.e o).bind λx=>(T.e e).map λy=>f2 nI x y
  else none
 else none
def Np:Expr->Bool
 | .Name x _=>x == ("known":Str)
 | _=>false
def Kk:Expr->Option Expr
 | .FormattedValue e c none _=>if c=-1 then some e else none
 | _=>none
def u4(T:Tr)(e:Expr):Option FE:=match Kk e with
 | some a=>(T.e a).map λf=>f1 Bj f
 | none=>T.e e
def mX(T:Tr):List Expr->Option (List FE)
 | []=>some []
 | e::es=>(u4 T e).bind λf=>(mX T es).map λfs=>f::fs
def Kp(T:Tr):List Expr->Option FE
 | a::b::es=>(mX T (a::b::es)).map λfs=>GM fs Str.empty
 | _=>none
def Fy(T:Tr)(a b:Expr):Option FE:=match b with
 | .Slice lo hi none _=>(T.e a).bind λx=>(Ny T lo).bind λl=>(Ny T hi).map λh=>cC Jl x l h
 | _=>if qf b=false then (T.e a).bind λx=>(T.e b).map λy=>f2 Lx x y else none
def N6:CmpOp->Option (D->D->Option D)
 | .In=>some λx y=>(MO x y).map PyData.bool
 | .NotIn=>some λx y=>(Ds x y).map PyData.bool
 | _=>none
def yi(T:Tr)(a:Expr)(ops:List CmpOp)(cs:List Expr):Option FE:=match ops,cs with
 | [op],[b]=>if ((Np b&&op == .NotIn)&&!behindInMarks op b)=true then (T.e a).bind λx=>(T.e b).map λy=>f2 DH x y else if (tx b&&!behindInMarks op b)=true then (N6 op).bind λg=>(T.e a).bind λx=>(T.e b).map λy=>f2 g x y else none
 | _,_=>none
def C2(G:Sg)(sc:Scope)(T:Tr)(whole:Expr):Option FE:=match whole with
 | .BinOp a .Add b _=>if (tx a||tx b)=true then (T.e a).bind λx=>(T.e b).map λy=>f2 az x y else none
 | .Subscript a b _=>if tx a=true then Fy T a b else if (Np a&&!qf b)=true then (T.e a).bind λx=>(T.e b).map λy=>f2 pL x y else none
 | .JoinedStr es _=>Kp T es
 | .Call (.Name x _) [e] [] _=>Co G sc T x e
 | .Call (.Attribute o m apos) [e] [] cpos=>Ez T o m apos e cpos
 | .Compare a ops cs _=>yi T a ops cs
 | _=>none
def Cb(G:Sg)(sc:Scope)(N:List Str)(T:Tr)(whole:Expr):Option FE:=match C2 G sc T whole with
 | some f=>some f
 | none=>yy G sc N T whole
def CH(T:Tr)(whole:Expr):Option (Dl.Env->Option Bool):=match whole with
 | .Compare a ops cs _=>(yi T a ops cs).map fB
 | _=>none
def Fw(T:Tr)(whole:Expr):Option (Dl.Env->Option Bool):=match CH T whole with
 | some f=>some f
 | none=>stepT T whole
def OX(mg:Str->Option Value)(x:Str):D->Prop
 | .int i=>∃t,mg x=some (.int i t)
 | .str a=>∃t,mg x=some (.str a t)
 | _=>False
def tr(G:Sg):Nat->Option Str->Scope->List Str->Tr
 | 0,_,_,_=>⟨λ_=>none,λ_=>none,λ_=>none⟩
 | n+1,lam,sc,N=>⟨Cb G sc N (tr G n lam sc N),zf lam sc N (tr G n lam sc N) (tr G n none) (tr G n none),Fw (tr G n lam sc N)⟩
structure LO(G:Sg)(X:Cx)(j:Nat):Prop where
 fn:∀x n m,G.fn.lookup x=some (n,m)->Fm X.prog X.w X.K X.mg X.base j x n m
 int:∀x i,G.int.lookup x=some i->OX X.mg x i
 bn:Bn X
structure nc(X:Cx)(tg iter:Expr)(ifs:List Expr)(elt:Expr)(scope:Scope)(f:Dl.Env->Option (List D)):Prop where
 ex:∃ (N':List Str) (t:Nat) (cs:List Nat) (fi:Dl.Env->Option (List D)) (tgt:Dl.Env->D->Option Dl.Env) (tt:Dl.Env->Option Bool) (te:FE),f=aw t cs fi tgt tt te/\lF X scope N' (jd t cs)/\DI X tg iter fi/\(∀x,foldedSetIterable iter X.env x=pure x) /\
  ∀fp s H,DG (aR X scope N' fp s H) tg tgt/\M0 (aR X scope N' fp s H) ifs tt/\DE (aR X scope N' fp s H) elt te
structure bR(X:Cx)(T:Tr):Prop where
 c:∀elt gens scope p f,T.f (.ListComp elt gens scope p)=some f->∃tg iter ifs,gens=[⟨tg,iter,ifs,0⟩]/\nc X tg iter ifs elt scope f
 e:∀e f,T.e e=some f->DE X e f
 f:∀e f,T.f e=some f->DF X e f
 t:∀e f,T.t e=some f->DT X e f
section
variable {G:Sg}{X:Cx}{N:List Str}{sc:Scope}{k j:Nat}{T:Tr}{pos p:Pos}
def By(C:Bk X N sc k)(g:LO G X j)(h:wb G sc N x=some f):DE X (.Name x pos) f:=by
 unfold wb at h;split at h
 ·split at h
  ·cases h;exact C.v _ ‹_›
  ·cases h
 ·split at h
  ·rename_i hg;let⟨n,hn,rfl⟩:=ag h;have z:=g.int x n hn;simp?[zF,yM] at hg;cases n<;>first|exact False.elim z|(let⟨t,ht⟩:=z;first|exact HX (C.gl hg.1) ht hg.2|exact Ib (C.gl hg.1) ht hg.2)
  ·cases h
def v9(h:zc c=some f):DE X (.Constant c i pos) f:=by
 cases c<;>cases h<;>first|exact J3|exact MS|exact JG|exact Lw
def FP(C:Bk X N sc k)(O:bR X T)(h:MV T op a=some f):DE X (.UnaryOp op a pos) f:=by
 cases op<;>try cases h
 ·let⟨x,hx,rfl⟩:=ag h;exact C.neg (O.e _ _ hx)
def Et(C:Bk X N sc k)(O:bR X T)(h:Cp T (.BinOp a op b pos) a op b=some f):DE X (.BinOp a op b pos) f:=by
 unfold Cp at h;split at h
 ·let⟨x,hx,rfl⟩:=ag h;exact DF.de (O.f _ _ hx)
 ·let⟨g,hg,h⟩:=bs h;let⟨x,hx,h⟩:=bs h;let⟨y,hy,rfl⟩:=ag h;cases op<;>cases hg
  ·exact C.add (O.e _ _ hx) (O.e _ _ hy)
  ·exact C.sub (O.e _ _ hx) (O.e _ _ hy)
  ·exact C.mul (O.e _ _ hx) (O.e _ _ hy)
  ·exact C.mod (O.e _ _ hx) (O.e _ _ hy)
  ·exact C.div (O.e _ _ hx) (O.e _ _ hy)
def pO(O:bR X T):∀ {es:List Expr}{f:FE},rQ T op es=some f->DE X (.BoolOp op es pos) f
 | [],f,h=>by cases h
 | [a],f,h=>JD (O.e _ _ h)
 | a::b::r,f,h=>by
  unfold rQ at h;let⟨x,hx,h⟩:=bs h;let⟨y,hy,rfl⟩:=ag h;have ih:=pO O hy;cases op with
  | And=>exact Lj (O.e _ _ hx) ih
  | Or=>exact MX (O.e _ _ hx) ih
def JX(C:Bk X N sc k)(hg:MJ op=some g)(hm:behindInMarks op b=false)(ha:DE X a x)(hb:DE X b y):DE X (.Compare a [op] [b] pos) (f2 g x y)/\DT X (.Compare a [op] [b] pos) (fB (f2 g x y)):=by
 cases op<;>cases hg
 ·exact⟨C.eq ha hb,C.teq ha hb⟩
 ·exact⟨C.ne ha hb,C.tne ha hb⟩
 ·exact⟨C.lt ha hb,C.tlt ha hb⟩
 ·exact⟨C.le ha hb,C.tle ha hb⟩
 ·exact⟨C.gt ha hb,C.tgt ha hb⟩
 ·exact⟨C.is0 ha hb,C.tis0 ha hb⟩
 ·exact⟨C.not0 ha hb,C.tnot0 ha hb⟩
 ·exact⟨C.isin ha hb hm,C.tin ha hb hm⟩
 ·exact⟨C.notin ha hb hm,C.tnin ha hb hm⟩
def Jq(h:N2 op=some g):∃r,eC X (compareOp op) r/\da X.K r g:=by
 cases op<;>cases h
 ·exact⟨_,EX,iJ⟩
 ·exact⟨_,BX,iJ⟩
def tY(C:Bk X N sc k)(O:bR X T){cs:List Expr}(h:zm T a ops cs=some f):DE X (.Compare a ops cs pos) f/\DT X (.Compare a ops cs pos) (fB f):=by
 unfold zm at h;split at h
 ·split at h
  ·rename_i hm;let⟨g,hg,h⟩:=bs h;let⟨x,hx,h⟩:=bs h;let⟨y,hy,rfl⟩:=ag h;exact JX C hg hm (O.e _ _ hx) (O.e _ _ hy)
  ·cases h
 ·split at h
  ·rename_i hm;let⟨g,hg,h⟩:=bs h;let⟨g',hg',h⟩:=bs h;let⟨x,hx,h⟩:=bs h;let⟨y,hy,h⟩:=bs h;let⟨z,hz,rfl⟩:=ag h;let⟨r,r1,r2⟩:=Jq (X:=X) hg;let⟨r',r1',r2'⟩:=Jq (X:=X) hg';exact⟨Fj r1 r2 r1' r2' (O.e _ _ hx) (O.e _ _ hy) (O.e _ _ hz) hm,CA r1 r2 r1' r2' (O.e _ _ hx) (O.e _ _ hy) (O.e _ _ hz) hm⟩
  ·cases h
 ·cases h
def bV(O:bR X T):∀ {es:List Expr}{fs:Dl.Env->Option (List D)},oC T es=some fs->DA X es fs
 | [],fs,h=>by cases h;exact KR
 | e::es,fs,h=>by
  unfold oC at h;split at h
  ·rename_i hs;let⟨x,hx,h⟩:=bs h;let⟨r,hr,rfl⟩:=ag h;exact NY hs (O.e _ _ hx) (bV O hr)
  ·cases h
def sN(O:bR X T)(h:Ny T o=some f):DO X o f:=by
 cases o with
 | none=>cases h;exact G9
 | some e=>let⟨x,hx,rfl⟩:=ag h;exact FX (O.e _ _ hx)
def ju(h:qf b=false):kq b:=by
 cases b<;>first|(intro _ _;rfl)|cases h
def Az(h:n6 e=true):∃j p4 p3,e=.UnaryOp .USub (.Constant (.int 1) j p4) p3:=by
 unfold n6 at h;split at h
 ·exact⟨_,_,_,rfl⟩
 ·cases h
def Ce(C:Bk X N sc k)(O:bR X T)(h:EF T a b=some f):DE X (.Subscript a b pos) f:=by
 unfold EF at h;split at h
 ·let⟨x,hx,h⟩:=bs h;let⟨l,hl,h⟩:=bs h;let⟨u,hu,rfl⟩:=ag h;exact C.cut (O.e _ _ hx) (sN O hl) (sN O hu)
 ·split at h
  ·rename_i hm;let⟨x,hx,rfl⟩:=ag h;let⟨_,_,_,rfl⟩:=Az hm;exact Jy (O.e _ _ hx)
  ·cases h
 ·split at h
  ·rename_i hc;let⟨x,hx,h⟩:=bs h;let⟨y,hy,rfl⟩:=ag h;exact Mp (O.e _ _ hx) (O.e _ _ hy) (ju hc)
  ·cases h
def eU{env:PySem.Env}:∀ {es:List Expr},(es.all λe=>!isStar e)=true->(backTo pos (starEach es env)).any (·.1)=false
 | [],_=>rfl
 | e::es,h=>by
  rw[xP,zF,yM] at h;rw[aV h.1];show (false||(backTo pos (starEach es env)).any (·.1))=false;rw[eU h.2];rfl
def DL(h:lP e=some e'):∃p q,e=.Call (.Name "set" p) [e'] [] q:=by
 unfold lP at h;split at h
 ·split at h
  ·rename_i hx;cases h;subst hx;exact⟨_,_,rfl⟩
  ·cases h
 ·cases h
def GJ(h:JR y=some ty):y∈cw/\bootBuiltins y=some (.type ty)/\y≠"__name__"/\(y == ("__debug__":Str))=false:=by
 unfold JR at h;split at h
 ·rename_i e;cases h;subst e;exact⟨by decide +kernel,by decide +kernel,by decide,by decide⟩
 ·split at h
  ·rename_i e;cases h;subst e;exact⟨by decide +kernel,by decide +kernel,by decide,by decide⟩
  ·split at h
   ·rename_i e;cases h;subst e;exact⟨by decide +kernel,by decide +kernel,by decide,by decide⟩
   ·split at h
    ·rename_i e;cases h;subst e;exact⟨by decide +kernel,by decide +kernel,by decide,by decide⟩
    ·cases h
def KH:bootBuiltins "any"=some (.builtin "any"):=by decide +kernel
def Ku:bootBuiltins "sum"=some (.builtin "sum"):=by decide +kernel
def Kc:bootBuiltins "min"=some (.builtin "min"):=by decide +kernel
def vj(h:l.length=1):∃a,l=[a]:=by
 match l,h with
 | [a],_=>exact⟨a,rfl⟩
def Ax(C:Bk X N sc k)(g:LO G X j)(hjk:j<=k)(O:bR X T)(h:vi G sc T (.Call (.Name x p) args [] pos) x args=some f):DE X (.Call (.Name x p) args [] pos) f:=by
 unfold vi at h;split at h
 ·rename_i hg;rw[zF] at hg;let⟨hg,hs⟩:=hg;have st1:∀ {e:Expr}{es:List Expr},args=e::es->starEach (e::es) X.env=(false,eval e X.env)::starEach es X.env:=λ{e es} q=>by
   subst q;rw[xP,zF,yM] at hs;exact aV hs.1
  have st2:∀ {e:Expr}{es:List Expr},args=e::es->(backTo pos (starEach es X.env)).any (·.1)=false:=λ{e es} q=>by
   subst q;rw[xP,zF] at hs;exact eU hs.2
  split at h
  ·rename_i n m hfn;split at h
   ·cases h
   ·rename_i hne;let⟨fs,hfs,rfl⟩:=ag h;cases args with
    | nil=>exact absurd (by simp) hne
    | cons e es =>
     have hd:(x == ("__debug__":Str))=false:=by simpa using hne
     exact HU (g.fn x n m hfn) (C.room.mono hjk) (C.gl hg) (bV O hfs) hd (st1 rfl) (st2 rfl)
  ·split at h
   ·rename_i hx;subst hx;split at h
    ·rename_i e;split at h
     ·rename_i e' he';split at h
      ·rename_i hg2;rw[zF,yM] at hg2;let⟨y,hy,rfl⟩:=ag h;let⟨p1,p2,rfl⟩:=DL he';exact Bv C.calm (C.blt g.bn hg (by decide +kernel) wR) (C.blt g.bn hg2.1 (by decide +kernel) Km) (O.e _ _ hy) (aV hg2.2)
      ·cases h
     ·let⟨fs,hfs,rfl⟩:=ag h;exact K3 (C.blt g.bn hg (by decide +kernel) wR) (bV O hfs) (st1 rfl)
    ·cases h
   ·split at h
    ·rename_i hx;subst hx;split at h
     ·rename_i e y py;split at h
      ·rename_i hgy;let⟨ty,hty,h⟩:=bs h;let⟨z,hz,rfl⟩:=ag h;let⟨t1,t2,t3,t4⟩:=GJ hty;exact Mi (C.blt g.bn hg (by decide +kernel) oR) (C.blt g.bn hgy t1 t2) (O.e _ _ hz) t3 t4 (st1 rfl)
      ·cases h
     ·cases h
    ·split at h
     ·rename_i hx;subst hx;split at h
      ·rename_i hl;let⟨fs,hfs,rfl⟩:=ag h;let⟨e,rfl⟩:=vj hl;exact CV (C.blt g.bn hg (by decide +kernel) Fx) (bV O hfs) (st1 rfl)
      ·cases h
     ·split at h
      ·rename_i hx;subst hx;split at h
       ·rename_i hl;let⟨fs,hfs,rfl⟩:=ag h;let⟨e,rfl⟩:=vj hl;exact Le C.calm (C.blt g.bn hg (by decide +kernel) Lg) (bV O hfs) (st1 rfl)
       ·cases h
      ·split at h
       ·rename_i hx;subst hx;split at h
        ·rename_i hl;let⟨fs,hfs,rfl⟩:=ag h;let⟨e,rfl⟩:=vj hl;exact LP C.calm (C.blt g.bn hg (by decide +kernel) KH) (st1 rfl) (bV O hfs)
        ·cases h
       ·split at h
        ·rename_i hx;subst hx;split at h
         ·rename_i hl;let⟨fs,hfs,rfl⟩:=ag h;let⟨e,rfl⟩:=vj hl;exact KI C.calm (C.blt g.bn hg (by decide +kernel) Ku) (st1 rfl) (bV O hfs)
         ·cases h
        ·split at h
         ·rename_i hx;subst hx;split at h
          ·cases h
          ·rename_i hl;let⟨fs,hfs,rfl⟩:=ag h;cases args with
           | nil=>exact absurd rfl hl
           | cons e es =>
            exact KY C.calm (C.blt g.bn hg (by decide +kernel) Kc) (st1 rfl) (st2 rfl) (bV O hfs)
         ·split at h
          ·let⟨y,hy,rfl⟩:=ag h;exact DF.de (O.f _ _ hy)
          ·cases h
 ·cases h
end
section
variable {G:Sg}{X:Cx}{N:List Str}{sc:Scope}{k j:Nat}{T:Tr}{pos p:Pos}
def HP(h:isStar e=false):((backTo cpos (starEach [e] env)).all (λx=>!x.1)&&(backToKw cpos (keywordEach [] env)).all (λx=>x.1.isSome)&&decide ([e].length+([]:List Keyword).length+(if ([]:List Keyword).isEmpty then 0 else 1) < 30))=true:=by
 rw[aV h];rfl
def fJ(h:mZ o=false):attributeBase o a env w=w:=by
 cases o<;>first|rfl|cases h
def BK(C:Bk X N sc k)(O:bR X T)(h:vz T o m apos args cpos=some f):DE X (.Call (.Attribute o m apos) args [] cpos) f:=by
 unfold vz at h;split at h
 ·rename_i hm;rw[zF,zF,yM] at hm;let⟨⟨hm1,hm⟩,hcl⟩:=hm;have e1:m="index":=eq_of_beq hm1;subst e1;split at h
  ·rename_i e;split at h
   ·rename_i hs;let⟨x,hx,h⟩:=bs h;let⟨y,hy,rfl⟩:=ag h;exact An (fJ hcl) (HP hs) hm (aV hs) (O.e _ _ hx) (O.e _ _ hy)
   ·cases h
  ·cases h
 ·cases h
def C6(C:Bk X N sc k)(g:LO G X j)(hjk:j<=k)(O:bR X T)(h:yy G sc N T e=some f):DE X e f:=by
 unfold yy at h;split at h
 ·exact By C g h
 ·exact v9 h
 ·exact FP C O h
 ·exact Et C O h
 ·exact pO O h
 ·exact (tY C O h).1
 ·let⟨z,hz,h⟩:=bs h;let⟨x,hx,h⟩:=bs h;let⟨y,hy,rfl⟩:=ag h;exact NA (O.t _ _ hz) (O.e _ _ hx) (O.e _ _ hy)
 ·let⟨x,hx,rfl⟩:=ag h;exact Kd (bV O hx)
 ·exact Ce C O h
 ·let⟨x,hx,rfl⟩:=ag h;exact DF.de (O.f _ _ hx)
 ·let⟨x,hx,rfl⟩:=ag h;exact DF.de (O.f _ _ hx)
 ·exact Ax C g hjk O h
 ·let⟨x,hx,rfl⟩:=ag h;exact DF.de (O.f _ _ hx)
 ·exact BK C O h
 ·cases h
def E3(O:bR X T):∀ {es:List Expr}{f:Dl.Env->Option Bool},NH T op es=some f->DW X (.BoolOp op es pos) f
 | [],f,h=>by cases h
 | [a],f,h=>by
  cases op with
  | And=>exact FQ (O.t _ _ h)
  | Or=>exact JV (O.t _ _ h)
 | a::b::r,f,h=>by
  unfold NH at h;let⟨x,hx,h⟩:=bs h;let⟨y,hy,rfl⟩:=ag h;have ih:=E3 O hy;cases op with
  | And=>exact KA (O.t _ _ hx) ih
  | Or=>exact Mx (O.t _ _ hx) ih
def EG(C:Bk X N sc k)(O:bR X T)(h:stepT T e=some f):DT X e f:=by
 unfold stepT at h;split at h
 ·let⟨x,hx,rfl⟩:=ag h;exact (tY C O hx).2
 ·let⟨x,hx,rfl⟩:=ag h;exact J4 (O.t _ _ hx)
 ·exact DW.dt (E3 O h)
 ·split at h
  ·rename_i hp;let⟨x,hx,rfl⟩:=ag h;refine L3 (O.e _ _ hx) ?_;revert hp;cases e<;>first|(intro hp;cases hp;done)|(intro hp _;rfl)
  ·cases h
def LX(h:Kt e=true):∀x,foldedSetIterable e env x=pure x:=by
 cases e<;>first|(intro _;rfl)|cases h
def DB(C:Bk X N sc k)(B:Bn X)(O:bR X T)(h:NN sc T tg iter=some fi):DI X tg iter fi/\∀x,foldedSetIterable iter X.env x=pure x:=by
 unfold NN at h;split at h
 ·refine⟨?_,λ_=>rfl⟩;split at h
  ·rename_i hx;subst hx;split at h
   ·split at h
    ·rename_i hg;rw[zF,yM] at hg;let⟨x,hx,rfl⟩:=ag h;exact Df (C.blt B hg.1 (by decide +kernel) uv) (bV O hx) (aV hg.2)
    ·cases h
   ·split at h
    ·rename_i hg;simp?[zF,yM] at hg;let⟨x,hx,rfl⟩:=ag h;exact A1 (C.blt B hg.1 (by decide +kernel) uv) (bV O hx) ((aV hg.2.1).trans (qX _ (aV hg.2.2))) (aV hg.2.2)
    ·cases h
   ·cases h
  ·split at h
   ·rename_i hx;subst hx;split at h
    ·split at h
     ·rename_i hg;simp?[zF,yM] at hg;let⟨x,hx,rfl⟩:=ag h;cases tg<;>first|exact HH (C.blt B hg.1.1 (by decide +kernel) sH) (bV O hx) (aV hg.1.2)|exact absurd hg.2 (by simp[sd])
     ·cases h
    ·cases h
   ·split at h
    ·rename_i hx;subst hx;split at h
     ·split at h
      ·rename_i e e' hg;simp?[zF,yM] at hg;let⟨x,hx,rfl⟩:=ag h;cases tg<;>first|exact Ir (C.blt B hg.1.1.1 (by decide +kernel) J8) (aV hg.1.1.2) (eU (by simp[hg.1.2])) (bV O hx)|exact absurd hg.2 (by simp[sd])
      ·cases h
     ·cases h
    ·let⟨x,hx,rfl⟩:=ag h;exact Fo (O.e _ _ hx)
 ·cases h
 ·rename_i h1 h2;let⟨x,hx,rfl⟩:=ag h;refine⟨Fo (O.e _ _ hx),LX ?_⟩;cases iter<;>first|rfl|exact absurd rfl (h2 _ _ _)
def Ln(h:OD tg=some xs):(∃x px,tg=.Name x px/\xs=[x])\/∃x px y py m pt,tg=.Tuple [.Name x px,.Name y py] m pt/\xs=[x,y]:=by
 unfold OD at h;split at h
 ·cases h;exact .inl ⟨_,_,rfl,rfl⟩
 ·cases h;exact .inr ⟨_,_,_,_,_,_,rfl,rfl⟩
 ·cases h
def Lf(h:Ob tg=some xs):((∃x px,tg=.Name x px/\xs=[x])\/∃x px y py m pt,tg=.Tuple [.Name x px,.Name y py] m pt/\xs=[x,y])\/∃x px y py z pz m pt,tg=.Tuple [.Name x px,.Name y py,.Name z pz] m pt/\xs=[x,y,z]:=by
 unfold Ob at h;split at h
 ·cases h;exact .inr ⟨_,_,_,_,_,_,_,_,rfl,rfl⟩
 ·exact .inl (Ln h)
def qc(C:Bk X N sc k)(B:Bn X)(O:bR X T)(OB:∀scope N' fp s H,Bk (aR X scope N' fp s H) N' scope k->bR (aR X scope N' fp s H) (blk scope N'))
  (h:sC sc N T blk elt [⟨tg,iter,ifs,as⟩] scope=some f):as=0/\nc X tg iter ifs elt scope f:=by
 unfold sC at h;dsimp only at h;split at h
 ·rename_i has;refine⟨has,?_⟩;let⟨xs,hxs,h⟩:=bs h;split at h
  ·rename_i hok;rw[zF] at hok;let⟨fi,hfi,h⟩:=bs h;let⟨tt,htt,h⟩:=bs h;let⟨te,hte,rfl⟩:=ag h;let⟨S,CB⟩:=C.comp hok.1;let⟨hd,hfold⟩:=DB C B O hfi;refine⟨_,_,_,_,_,_,_,rfl,S,hd,hfold,λfp s H=>?_⟩;have C1:=CB fp s H;have O1:=OB scope _ fp s H C1;refine⟨?_,?_,O1.e _ _ hte⟩
   ·rcases Lf hxs with (⟨x,px,rfl,rfl⟩|⟨x,px,y,py,m,pt,rfl,rfl⟩)|⟨x,px,y,py,z,pz,m,pt,htg,rfl⟩
    ·have z:=C1.loc (i:=0) (x:=x) (List.all_eq_true.mp hok.2 0 (by simp));exact Hx 0 z.1 z.2.1 z.2.2.1 z.2.2.2
    ·have z:=C1.loc (i:=0) (x:=x) (List.all_eq_true.mp hok.2 0 (by simp));have w:=C1.loc (i:=1) (x:=y) (List.all_eq_true.mp hok.2 1 (by simp));exact Lq 0 1 C1.calm z.1 z.2.1 z.2.2.1 w.2.1 w.2.2.1 z.2.2.2 w.2.2.2
    ·have z0:=C1.loc (i:=0) (x:=x) (List.all_eq_true.mp hok.2 0 (by simp));have w:=C1.loc (i:=1) (x:=y) (List.all_eq_true.mp hok.2 1 (by simp));have u:=C1.loc (i:=2) (x:=z) (List.all_eq_true.mp hok.2 2 (by simp));subst htg;exact EC 0 1 2 C1.calm z0.1 z0.2.1 z0.2.2.1 w.2.1 w.2.2.1 u.2.1 u.2.2.1 z0.2.2.2 w.2.2.2 u.2.2.2
   ·unfold IC at htt;split at htt
    ·cases htt;exact Hy
    ·exact HM (O1.t _ _ htt)
    ·cases htt
  ·cases h
 ·cases h
def nc.df(hc:X.calm=true)(h:nc X tg iter ifs elt scope f):DF X (.ListComp elt [⟨tg,iter,ifs,0⟩] scope pos) f:=by
 let⟨N',t,cs,fi,tgt,tt,te,rfl,S,hd,hfold,hY⟩:=h.ex;exact Ia hc S hd hY hfold
def Dj(C:Bk X N sc k)(B:Bn X)(hlam:∀q,lam=some q->IR X q/\j+3<=k)(O:bR X T)
  (OB:∀scope N' fp s H,Bk (aR X scope N' fp s H) N' scope k->bR (aR X scope N' fp s H) (blk scope N'))
  (OL:∀scope N' qual A f c s H,Bk (Jt X A qual scope N' f c s H) N' scope (k - 3)->j<=k - 3->bR (Jt X A qual scope N' f c s H) (lmb scope N')) {e:Expr}{f:Dl.Env->Option (List D)}(h:zf lam sc N T blk lmb e=some f):DF X e f:=by
 unfold zf at h;split at h
 ·let⟨x,hx,rfl⟩:=ag h;exact Ki (bV O hx)
 ·rename_i elt gens scope ps
  match gens,h with
  | [⟨tg,iter,ifs,as⟩],h =>
   let⟨rfl,q⟩:=qc C B O OB h;exact q.df C.calm
 ·split at h
  ·let⟨x,hx,h⟩:=bs h;let⟨y,hy,rfl⟩:=ag h;exact LS (O.f _ _ hx) (O.e _ _ hy)
  ·cases h
 ·let⟨x,hx,h⟩:=bs h;let⟨y,hy,rfl⟩:=ag h;exact JH (O.e _ _ hx) (O.e _ _ hy)
 ·split at h
  ·rename_i hg;rw[zF,yM] at hg;split at h
   ·rename_i hx;subst hx;let⟨x,hx,rfl⟩:=ag h;exact HA (C.blt B hg.1 (by decide +kernel) GB) (bV O hx) (aV hg.2)
   ·split at h
    ·rename_i hx;subst hx;let⟨x,hx,rfl⟩:=ag h;exact BI (C.blt B hg.1 (by decide +kernel) Bi) (bV O hx) (aV hg.2)
    ·cases h
  ·cases h
 ·cases h
def GP(C:Bk X N sc k)(B:Bn X)(O:bR X T)(OB:∀scope N' fp s H,Bk (aR X scope N' fp s H) N' scope k->bR (aR X scope N' fp s H) (blk scope N'))
  {elt:Expr}{gens:List Comprehension}{scope:Scope}{p:Pos}{f:Dl.Env->Option (List D)}(h:zf lam sc N T blk lmb (.ListComp elt gens scope p)=some f):∃tg iter ifs,gens=[⟨tg,iter,ifs,0⟩]/\nc X tg iter ifs elt scope f:=by
 have h:sC sc N T blk elt gens scope=some f:=h
 match gens,h with
 | [⟨tg,iter,ifs,as⟩],h =>
  let⟨rfl,q⟩:=qc C B O OB h;exact⟨tg,iter,ifs,rfl,q⟩
def Lr:bootBuiltins "str"=some (.type "str"):=by decide +kernel
def BW(C:Bk X N sc k)(g:LO G X j)(O:bR X T)(h:Co G sc T x e=some f):DE X (.Call (.Name x p) [e] [] pos) f:=by
 unfold Co at h;split at h
 ·rename_i hg;simp?[zF,yM] at hg;let⟨hg,hs,_⟩:=hg;split at h
  ·rename_i hc;rw[zF] at hc;obtain rfl:=eq_of_beq hc.1;let⟨fs,hf,rfl⟩:=ag h;exact He (C.blt g.bn hg (by decide +kernel) wR) (bV O hf) (aV hs)
  ·split at h
   ·rename_i hc;obtain rfl:=eq_of_beq hc;let⟨fs,hf,rfl⟩:=ag h;exact FW (C.blt g.bn hg (by decide +kernel) Lr) (bV O hf) (aV hs)
   ·split at h
    ·rename_i hc;rw[zF] at hc;obtain rfl:=eq_of_beq hc.1;let⟨fs,hf,rfl⟩:=ag h;exact Iv (C.blt g.bn hg (by decide +kernel) KC) (bV O hf) (aV hs)
    ·cases h
 ·cases h
def D8(O:bR X T)(h:Ez T o m apos e cpos=some f):DE X (.Call (.Attribute o m apos) [e] [] cpos) f:=by
 unfold Ez at h;split at h
 ·rename_i hg;simp?[zF,yM] at hg;let⟨hl,hc,hs⟩:=hg;split at h
  ·rename_i hm;obtain rfl:=eq_of_beq hm;let⟨x,hx,h⟩:=bs h;let⟨y,hy,rfl⟩:=ag h;exact Gq (fJ hc) (HP hs) hl (aV hs) (O.e _ _ hx) (O.e _ _ hy)
  ·split at h
   ·rename_i hm;obtain rfl:=eq_of_beq hm;let⟨x,hx,h⟩:=bs h;let⟨y,hy,rfl⟩:=ag h;exact DF.de (Eh (fJ hc) (HP hs) hl (aV hs) (O.e _ _ hx) (O.e _ _ hy))
   ·split at h
    ·rename_i hm;rw[zF] at hm;obtain rfl:=eq_of_beq hm.1;let⟨x,hx,h⟩:=bs h;let⟨y,hy,rfl⟩:=ag h;exact AU (fJ hc) (HP hs) hl (aV hs) (O.e _ _ hx) (O.e _ _ hy)
    ·cases h
 ·cases h
def Fi(O:bR X T)(h:Fy T a b=some f):DE X (.Subscript a b pos) f:=by
 unfold Fy at h;split at h
 ·let⟨x,hx,h⟩:=bs h;let⟨l,hl,h⟩:=bs h;let⟨u,hu,rfl⟩:=ag h;exact GO (O.e _ _ hx) (sN O hl) (sN O hu)
 ·split at h
  ·rename_i hc;let⟨x,hx,h⟩:=bs h;let⟨y,hy,rfl⟩:=ag h;exact Kw (O.e _ _ hx) (O.e _ _ hy) (ju hc)
  ·cases h
def KW(hg:N6 op=some g)(hm:behindInMarks op b=false)(ha:DE X a x)(hb:DE X b y):DE X (.Compare a [op] [b] pos) (f2 g x y)/\DT X (.Compare a [op] [b] pos) (fB (f2 g x y)):=by
 cases op<;>cases hg
 ·exact⟨dY D6 d0 ha hb hm,dS D6 d0 ha hb hm⟩
 ·exact⟨dY C7 d0 ha hb hm,dS C7 d0 ha hb hm⟩
def AN(h:Kk e=some a):∃p,e=.FormattedValue a (-1) none p:=by
 unfold Kk at h;split at h
 ·split at h
  ·rename_i hc;cases h;subst hc;exact⟨_,rfl⟩
  ·cases h
 ·cases h
def BB(O:bR X T)(h:u4 T e=some f):DE X e f:=by
 unfold u4 at h;split at h
 ·rename_i a ha;let⟨p,rfl⟩:=AN ha;let⟨g,hg,rfl⟩:=ag h;exact Lv (O.e _ _ hg)
 ·exact O.e _ _ h
def nQ(O:bR X T):∀ {es:List Expr}{fs:List FE},mX T es=some fs->Paired (λe f=>DE X e f) es fs
 | [],fs,h=>by cases h;exact .nil
 | e::es,fs,h=>by
  unfold mX at h;let⟨f,hf,h⟩:=bs h;let⟨gs,hg,rfl⟩:=ag h;exact .cons (BB O hf) (nQ O hg)
def Gu(O:bR X T)(h:Kp T es=some f):DE X (.JoinedStr es pos) f:=by
 unfold Kp at h;split at h
 ·let⟨fs,hf,rfl⟩:=ag h;exact BC (nQ O hf)
 ·cases h
def tU(O:bR X T){cs:List Expr}(h:yi T a ops cs=some f):DE X (.Compare a ops cs pos) f/\DT X (.Compare a ops cs pos) (fB f):=by
 unfold yi at h;split at h
 ·split at h
  ·rename_i hm;simp?[zF,yM] at hm;let⟨⟨_,ho⟩,hm⟩:=hm;obtain rfl:=eq_of_beq ho;let⟨x,hx,h⟩:=bs h;let⟨y,hy,rfl⟩:=ag h;exact⟨dY Fh Ab (O.e _ _ hx) (O.e _ _ hy) hm,dS Fh Ab (O.e _ _ hx) (O.e _ _ hy) hm⟩
  split at h
  ·rename_i hm;rw[zF,yM] at hm;let⟨g,hg,h⟩:=bs h;let⟨x,hx,h⟩:=bs h;let⟨y,hy,rfl⟩:=ag h;exact KW hg hm.2 (O.e _ _ hx) (O.e _ _ hy)
  ·cases h
 ·cases h
def Ek(C:Bk X N sc k)(g:LO G X j)(O:bR X T)(h:C2 G sc T e=some f):DE X e f:=by
 unfold C2 at h;split at h
 ·split at h
  ·let⟨x,hx,h⟩:=bs h;let⟨y,hy,rfl⟩:=ag h;exact pR vb Cj (O.e _ _ hx) (O.e _ _ hy)
  ·cases h
 ·split at h
  ·exact Fi O h
  ·split at h
   ·rename_i hc;rw[zF,yM] at hc;let⟨x,hx,h⟩:=bs h;let⟨y,hy,rfl⟩:=ag h;exact Gg (O.e _ _ hx) (O.e _ _ hy) (ju hc.2)
   ·cases h
 ·exact Gu O h
 ·exact BW C g O h
 ·exact D8 O h
 ·exact (tU O h).1
 ·cases h
def ER(O:bR X T)(h:CH T e=some f):DT X e f:=by
 unfold CH at h;split at h
 ·let⟨x,hx,rfl⟩:=ag h;exact (tU O hx).2
 ·cases h
def CU(C:Bk X N sc k)(g:LO G X j)(O:bR X T)(hM:∀f,yy G sc N T e=some f->DE X e f)(h:Cb G sc N T e=some f):DE X e f:=by
 unfold Cb at h;split at h
 ·cases h;exact Ek C g O ‹_›
 ·exact hM _ h
def Cq(O:bR X T)(hM:∀f,stepT T e=some f->DT X e f)(h:Fw T e=some f):DT X e f:=by
 unfold Fw at h;split at h
 ·cases h;exact ER O ‹_›
 ·exact hM _ h
def CQ(n:Nat):∀ {lam:Option Str}{X:Cx}{N:List Str}{sc:Scope}{k:Nat},Bk X N sc k->LO G X j->j<=k->(∀q,lam=some q->IR X q/\j+3<=k)->bR X (tr G n lam sc N):=by
 induction n with
 | zero=>intro lam X N sc k C g hjk hlam;exact⟨λ_ _ _ _ _ h=>(by cases h),λ_ _ h=>(by cases h),λ_ _ h=>(by cases h),λ_ _ h=>(by cases h)⟩
 | succ n ih =>
  intro lam X N sc k C g hjk hlam;have O:=ih C g hjk hlam;exact⟨λelt gens scope p f h=>GP (lam:=lam) (lmb:=tr G n none) (p:=p) C g.bn O (λscope N' fp s H C'=>ih C' ⟨g.fn,g.int,g.bn⟩ hjk λq z=>by cases z) h,λe f h=>CU C g O (λf h=>C6 C g hjk O h) h,
   λe f h=>Dj (lam:=lam) (blk:=tr G n none) (lmb:=tr G n none) C g.bn hlam O (λscope N' fp s H C'=>ih C' ⟨g.fn,g.int,g.bn⟩ hjk λq z=>by cases z) (λscope N' qual A f c s H C' hk=>ih C' ⟨g.fn,g.int,g.bn⟩ hk λq z=>by cases z) h,
   λe f h=>Cq O (λf h=>EG C O h) h⟩
end
def nj:Nat->Expr->List Str
 | 0,_=>[]
 | n+1,e=>match e with
  | .Name x _=>[x]
  | .UnaryOp _ a _=>nj n a
  | .BinOp a _ b _=>nj n a++nj n b
  | .BoolOp _ es _=>es.flatMap (nj n)
  | .Compare a _ cs _=>nj n a++cs.flatMap (nj n)
  | .IfExp c a b _=>nj n c++(nj n a++nj n b)
  | .Tuple es _ _=>es.flatMap (nj n)
  | .List es _=>es.flatMap (nj n)
  | .Subscript a b _=>nj n a++nj n b
  | .Slice lo hi st _=>(lo.toList++(hi.toList++st.toList)).flatMap (nj n)
  | .Call f args kws _=>nj n f++(args.flatMap (nj n)++kws.flatMap λk=>nj n k.value)
  | .Attribute o _ _=>nj n o
  | .ListComp elt gens _ _=>nj n elt++gens.flatMap λg=>nj n g.iter++g.ifs.flatMap (nj n)
  | .Lambda _ b _ _=>nj n b
  | _=>[]
def oM(N:List Str)(e:Expr):List Nat:=let ns:=nj 60 e;(List.range N.length).filter λj=>match N[j]? with|some x=>ns.contains x|none=>false
abbrev GS:=ar->Option Out
def turns:Nat:=1000000
def wk:Expr->Bool
 | .ListComp ..=>true
 | .SetComp ..=>true
 | .DictComp ..=>true
 | _=>false
def D4(sc:Scope)(N:List Str)(T:Tr)(x:Str)(px:Pos)(e:Expr):Option GS :=
 (N.idxOf? x).bind λi=>if mD N sc i x=true then
  (if yq e=true then (match e with
   | .ListComp _ _ scope lp =>
    if (decide (sc.names.lookup x=some .local)&&(px.line == lp.line&&!(scope.names.any λ(n,k)=>n == x&&(k == .local || k == .cell))))=true then (T.f e).map λf=>bz i (oM N e) f
    else if decide (sc.names.lookup x=some .cell)=true then (T.f e).map λf=>bz i (oM N e) f
    else if (px.line == lp.line)=false then (T.f e).map λf=>bz i (oM N e) f
    else none
   | _=>(T.f e).map λf=>bz i (oM N e) f)
  else if wk e=false then (T.e e).map λf=>aS i (oM N e) f else none) else none
def D0(N:List Str)(sc:Scope)(T:Tr)(e:Expr):Option GS:=match e with
 | .Constant (.str _) _ _=>some fH
 | .Call (.Attribute (.Name x _) m apos) args [] cpos =>
  (N.idxOf? x).bind λi=>if (uO N sc i x&&apos.endLine == cpos.line&&args.all λe=>!isStar e)=true then
   (if m="append" then (match args with
    | [a]=>(T.e a).map λf=>oG i (oM N a) f
    | _=>none)
   else if m="extend" then (match args with
    | [a]=>(T.f a).map λf=>oK i (oM N a) f
    | _=>none)
   else if m="insert" then (match args with
    | [a,b]=>(T.e a).bind λfk=>(T.e b).map λf=>Mg i (oM N b) fk f
    | _=>none)
   else none) else none
 | .Call (.Name _ _) _ _ _=>(T.e e).map gJ
 | _=>none
def OE(sc:Scope)(N:List Str)(tg:Expr):Option (ar->D->Option ar):=match tg with
 | .Name x _=>(N.idxOf? x).bind λi=>if mD N sc i x=true then some (p8 i) else none
 | .Tuple [.Name x _,.Name y _] _ _=>(N.idxOf? x).bind λi=>(N.idxOf? y).bind λj=>if (mD N sc i x&&mD N sc j y)=true then some (dk i j) else none
 | .Tuple [.Name x _,.Name y _,.Name z _] _ _=>(N.idxOf? x).bind λi=>(N.idxOf? y).bind λj=>(N.idxOf? z).bind λk=>if ((mD N sc i x&&mD N sc j y)&&mD N sc k z)=true then some (Be i j k) else none
 | _=>none
def Dt(sc:Scope)(N:List Str)(T:Tr)(x:Str)(kx e:Expr):Option GS :=
 (N.idxOf? x).bind λi=>if (uO N sc i x&&!qf kx)=true then (T.e kx).bind λfk=>(T.e e).map λf=>Bg i (oM N e) fk f else none
def KO:Expr->Bool
 | .Dict [] [] _=>true
 | _=>false
def wa(sc:Scope)(N:List Str)(x:Str):Option GS:=(N.idxOf? x).bind λi=>if mD N sc i x=true then some (uf i) else none
def vd(sc:Scope)(N:List Str)(T:Tr)(x:Str)(kx e:Expr):Option GS :=
 (N.idxOf? x).bind λi=>if (uO N sc i x&&!qf kx)=true then (T.e kx).bind λfk=>(T.e e).map λf=>um i fk f else none
def nS(f:Stmt->Option GS):List Stmt->Option GS
 | []=>some fH
 | [s]=>f s
 | s::r=>(f s).bind λg=>(nS f r).map λh=>ax g h
def rH(sc:Scope)(N:List Str)(T:Tr):Nat->Stmt->Option GS
 | 0,_=>none
 | n+1,st=>match st with
  | .Return (some e) _=>(T.e e).map aO
  | .If c a b _=>(T.t c).bind λt=>(nS (rH sc N T n) a).bind λg=>(nS (rH sc N T n) b).map λh=>gx t g h
  | .Assign [.Name x px] e _=>if KO e=true then wa sc N x else D4 sc N T x px e
  | .Assign [.Subscript (.Name x _) kx _] e _=>if x="known" then vd sc N T x kx e else Dt sc N T x kx e
  | .For tg iter body [] _=>(NN sc T tg iter).bind λfi=>(OE sc N tg).bind λt=>(nS (rH sc N T n) body).map λg=>dh (oM N iter) fi t g
  | .While c body [] _=>(T.t c).bind λt=>(nS (rH sc N T n) body).map λg=>L8 t g turns
  | .Expr e _=>D0 N sc T e
  | .Raise ..=>some Cm
  | .Pass _=>some fH
  | _=>none
section
variable {X:Cx}{N:List Str}{sc:Scope}{k:Nat}{T:Tr}{HF₀ H₀:Hp}{pos:Pos}
def gH(H:∀s g,f s=some g->DS X HF₀ H₀ s g):∀ {l:List Stmt}{g:GS},nS f l=some g->xk X HF₀ H₀ l g
 | [],g,h=>by cases h;exact Gv
 | [s],g,h=>yw (H _ _ h)
 | s::t::r,g,h=>by
  unfold nS at h;let⟨x,hx,h⟩:=bs h;let⟨y,hy,rfl⟩:=ag h;exact EU (H _ _ hx) (gH H hy)
def lZ(h:wk e=false):swapsWith e (some (.Name x px)) line env=pure false:=by
 cases e<;>first|rfl|cases h
def DC(C:Bk X N sc k)(O:bR X T)(h:D4 sc N T x px e=some g):DS X HF₀ H₀ (.Assign [.Name x px] e pos) g:=by
 unfold D4 at h;let⟨i,hi,h⟩:=bs h;split at h
 ·rename_i hloc;let⟨z1,z2,z3,z4⟩:=C.loc hloc;split at h
  ·split at h
   ·rename_i elt gens scope lp hl;split at h
    ·rename_i hc;rw[zF] at hc;let⟨f,hf,rfl⟩:=ag h;let⟨tg,iter,ifs,rfl,q⟩:=O.c _ _ _ _ _ hf;let⟨N',t,cs,fi,tgt,tt,te,rfl,S,hd,hfold,hY⟩:=q.ex;exact FR i _ C.calm S hd hY z1 z2 (C.locl hc.1) (C.swap hc.1 hc.2) hfold
    ·split at h
     ·rename_i hc;let⟨f,hf,rfl⟩:=ag h;exact sF i _ z1 z2 z3 (O.f _ _ hf) (C.noswap hc) z4
     ·split at h
      ·rename_i hc;let⟨f,hf,rfl⟩:=ag h;refine sF i _ z1 z2 z3 (O.f _ _ hf) ?_ z4;rw[oh,hc];simp
      ·cases h
   ·rename_i hl hn;let⟨f,hf,rfl⟩:=ag h;refine sF i _ z1 z2 z3 (O.f _ _ hf) (lZ ?_) z4;cases e<;>first|rfl|exact absurd rfl (hn _ _ _ _)|(rename_i hl _;cases hl;done)
  ·split at h
   ·rename_i hc;let⟨f,hf,rfl⟩:=ag h;exact J6 i _ z1 z2 z3 (O.e _ _ hf) (lZ hc) z4
   ·cases h
 ·cases h
def vv(h:(es.all λe=>!isStar e)=true)(hl:es.length < 20):((backTo cpos (starEach es env)).all (λx=>!x.1)&&(backToKw cpos (keywordEach [] env)).all (λx=>x.1.isSome)&&decide (es.length+([]:List Keyword).length+(if ([]:List Keyword).isEmpty then 0 else 1) < 30))=true:=by
 have h1:(backTo cpos (starEach es env)).all (λx=>!x.1)=true:=by
  have:=eU (pos:=cpos) (env:=env) h;rw[List.all_eq_not_any_not];simpa using this
 rw[h1];simp[backToKw,keywordEach];lia
def Fb(C:Bk X N sc k)(O:bR X T)(h:D0 N sc T e=some g):DS X HF₀ H₀ (.Expr e pos) g:=by
 unfold D0 at h;split at h
 ·cases h;exact JQ
 ·rename_i x px m apos args cpos;replace h:=bs h;let⟨i,hi,h⟩:=h;split at h
  ·rename_i hv;simp?[zF] at hv;let⟨⟨hv,hline⟩,hs⟩:=hv;let⟨z1,z2,z3,z4⟩:=C.vis hv;split at h
   ·rename_i hm;subst hm;split at h
    ·let⟨f,hf,rfl⟩:=ag h;exact A7 i _ z1 z2 (O.e _ _ hf) z3 z4 (vv hs (by simp)) hline (aV (by simpa using hs))
    ·cases h
   ·split at h
    ·rename_i hm;subst hm;split at h
     ·let⟨f,hf,rfl⟩:=ag h;exact AV i _ z1 z2 (O.f _ _ hf) z3 z4 (vv hs (by simp)) hline (aV (by simpa using hs))
     ·cases h
    ·split at h
     ·rename_i hm;subst hm;split at h
      ·let⟨fk,hfk,h⟩:=bs h;let⟨f,hf,rfl⟩:=ag h;have hs':=hs;simp?[xP,List.all_nil,Bool.and_true,zF,yM] at hs';exact Bl i _ z1 z2 (O.e _ _ hfk) (O.e _ _ hf) z3 z4 (vv hs (by simp)) hline (aV hs'.1) (aV hs'.2)
      ·cases h
     ·cases h
  ·cases h
 ·let⟨f,hf,rfl⟩:=ag h;exact F1 rfl (O.e _ _ hf)
 ·cases h
def K7(C:Bk X N sc k)(h:OE sc N tg=some t):Nf X HF₀ H₀ tg t:=by
 unfold OE at h;split at h
 ·let⟨i,hi,h⟩:=bs h;split at h
  ·rename_i hl;cases h;have z:=C.loc hl;exact B9 i z.1 z.2.1 z.2.2.1 z.2.2.2
  ·cases h
 ·let⟨i,hi,h⟩:=bs h;let⟨j,hj,h⟩:=bs h;split at h
  ·rename_i hl;rw[zF] at hl;cases h;have z:=C.loc hl.1;have w:=C.loc hl.2;exact HE i j C.calm z.1 z.2.1 z.2.2.1 w.2.1 w.2.2.1 z.2.2.2 w.2.2.2
  ·cases h
 ·let⟨i,hi,h⟩:=bs h;let⟨j,hj,h⟩:=bs h;let⟨m,hm,h⟩:=bs h;split at h
  ·rename_i hl;rw[zF,zF] at hl;cases h;have z:=C.loc hl.1.1;have w:=C.loc hl.1.2;have y:=C.loc hl.2;exact AS i j m C.calm z.1 z.2.1 z.2.2.1 w.2.1 w.2.2.1 y.2.1 y.2.2.1 z.2.2.2 w.2.2.2 y.2.2.2
  ·cases h
 ·cases h
def BY(C:Bk X N sc k)(O:bR X T)(h:Dt sc N T x kx e=some g):DS X HF₀ H₀ (.Assign [.Subscript (.Name x px) kx spos] e pos) g:=by
 unfold Dt at h;let⟨i,hi,h⟩:=bs h;split at h
 ·rename_i hv;simp?[zF,yM] at hv;let⟨hv,hc⟩:=hv;let⟨z1,z2,z3,z4⟩:=C.vis hv;let⟨fk,hfk,h⟩:=bs h;let⟨f,hf,rfl⟩:=ag h;refine Fv i _ z1 z2 (O.e _ _ hfk) (O.e _ _ hf) z3 z4 (λv=>?_) ?_ ?_ rfl
  ·cases kx<;>first|rfl|cases hc
  ·cases e<;>rfl
  ·rfl
 ·cases h
def AB(C:Bk X N sc k)(hd:KO e=true)(h:wa sc N x=some g):DS X HF₀ H₀ (.Assign [.Name x px] e pos) g:=by
 unfold wa at h;let⟨i,hi,h⟩:=bs h;split at h
 ·rename_i hloc;let⟨z1,z2,z3,z4⟩:=C.loc hloc;cases h;unfold KO at hd;split at hd
  ·exact HG i z1 z2 z3 rfl z4
  ·cases hd
 ·cases h
def AG(C:Bk X N sc k)(O:bR X T)(h:vd sc N T x kx e=some g):DS X HF₀ H₀ (.Assign [.Subscript (.Name x px) kx spos] e pos) g:=by
 unfold vd at h;let⟨i,hi,h⟩:=bs h;split at h
 ·rename_i hv;simp?[zF,yM] at hv;let⟨hv,hc⟩:=hv;let⟨z1,z2,z3,z4⟩:=C.vis hv;let⟨fk,hfk,h⟩:=bs h;let⟨f,hf,rfl⟩:=ag h;refine HJ i z1 z2 (O.e _ _ hfk) (O.e _ _ hf) z3 z4 (λv=>?_) ?_ ?_ rfl
  ·cases kx<;>first|rfl|cases hc
  ·cases e<;>rfl
  ·rfl
 ·cases h
def rh(C:Bk X N sc k)(B:Bn X)(O:bR X T):∀ (n:Nat) {st:Stmt}{g:GS},rH sc N T n st=some g->DS X HF₀ H₀ st g
 | 0,st,g,h=>by cases h
 | n+1,st,g,h=>by
  have ih:=λs g h=>rh C B O n (st:=s) (g:=g) h;unfold rH at h;split at h
  ·let⟨f,hf,rfl⟩:=ag h;exact Lp (O.e _ _ hf)
  ·let⟨t,ht,h⟩:=bs h;let⟨a,ha,h⟩:=bs h;let⟨b,hb,rfl⟩:=ag h;exact M6 (O.t _ _ ht) (gH ih ha) (gH ih hb)
  ·split at h
   ·exact AB C ‹_› h
   ·exact DC C O h
  ·split at h
   ·exact AG C O h
   ·exact BY C O h
  ·let⟨fi,hfi,h⟩:=bs h;let⟨t,ht,h⟩:=bs h;let⟨b,hb,rfl⟩:=ag h;let⟨hd,hfold⟩:=DB C B O hfi;exact Kz _ C.pass C.calm hd (K7 C ht) (gH ih hb) hfold
  ·let⟨t,ht,h⟩:=bs h;let⟨b,hb,rfl⟩:=ag h;exact DR _ C.pass (O.t _ _ ht) (gH ih hb)
  ·exact Fb C O h
  ·cases h;exact Mo
  ·cases h;exact GE
  ·cases h
end
section
variable {K:W.Frag}
def j8(P:Program)(w:World)(K:W.Frag)(mg:Str->Option Value)(base:Heap)(j:Nat)(l:List (Str×Nat×(List D->Option D))):Prop:=∀x n m,l.lookup x=some (n,m)->Fm P w K mg base j x n m
def dy(mg:Str->Option Value)(l:List (Str×D)):Prop:=∀x i,l.lookup x=some i->OX mg x i
def Og:j8 P w K mg base j []:=λ_ _ _ h=>by cases h
def Nb(F:Fm P w K mg base j x n m)(h:j8 P w K mg base j l):j8 P w K mg base j ((x,n,m)::l):=λy n' m' e=>by
 rw[zZ] at e;cases q:y == x with
 | true=>rw[q] at e;cases e;rw[eq_of_beq q];exact F
 | false=>rw[q] at e;exact h y n' m' e
def OJ:dy mg []:=λ_ _ h=>by cases h
def DY{d:D}(F:OX mg x d)(h:dy mg l):dy mg ((x,d)::l):=λy i' e=>by
 rw[zZ] at e;cases q:y == x with
 | true=>rw[q] at e;cases e;rw[eq_of_beq q];exact F
 | false=>rw[q] at e;exact h y i' e
def IL(F:∃t,mg x=some (.int i t))(h:dy mg l):dy mg ((x,.int i)::l):=DY (d:=.int i) F h
def Kh(F:∃t,mg x=some (.str i t))(h:dy mg l):dy mg ((x,.str i)::l):=DY (d:=.str i) F h
def IK{st:Stmt}(C:Bk X N (ai st) j)(B:Bn X)(hf:j8 X.prog X.w X.K X.mg X.base j fs)(hi:dy X.mg is)
  (t:nS (rH (ai st) N (tr ⟨fs,is⟩ 40 none (ai st) N) 40) (bc st)=some g):xk X HF₀ H₀ (bc st) g :=
 gH (λs g h=>rh C B (CQ (G:=⟨fs,is⟩) 40 C ⟨hf,hi,B⟩ (yJ j) λq z=>by cases z) 40 h) t
def Qg{st:Stmt}(D:uY K mg x st ps)(S:b9 N ps (ai st))(B:∀x∈cw,mg x=none)(hf:j8 P w K mg base j fs)(hi:dy mg is)
  (t:nS (rH (ai st) N (tr ⟨fs,is⟩ 40 none (ai st) N) 40) (bc st)=some g):Fm P w K mg base (j+1) x ps.length (aY g N.length):=by
 let⟨f,fd,hm,F,hb⟩:=D.ex;exact Qh F S hb hm λX hP hw hK hm' hb' C _ _ HF H=>by subst hP;subst hw;subst hK;subst hm';subst hb';exact IK C B hf hi t
end
abbrev tW(s:Stmt)(N:List Str)(S:Sg)(l:Option Str):Option GS:=nS (rH (ai s) N (tr S 40 l (ai s) N) 40) (bc s)
def NW(a:sc.kind=.function:=by rfl)(b:sc.isCoroutine=false:=by rfl)(c:sc.isGenerator=false:=by rfl)(d:N.Nodup:=by decide +kernel)(e:N.take P.length=P:=by rfl)(f:∀x∈P,sc.names.lookup x=some .local \/ sc.names.lookup x=some .cell:=by decide +kernel)(g:∀y∈sc.names,y.2≠.free:=by decide +kernel):b9 N P sc:=⟨a,b,c,d,e,f,g⟩
section
variable {K:W.Frag}
end
end Rf
namespace Ex
open PySem L2 PySem.Spec PyProof.Rows
variable {rest:List Stmt}
def pb(x:cL P w H h a o):∃ob,h.get? a=some ob:=by
 cases o with
 | lst xs=>let⟨_,_,_,_,e⟩:=x;exact⟨_,e⟩
 | tup xs=>let⟨_,_,_,⟨_,e,_⟩,_⟩:=x;exact⟨_,e⟩
 | dK kvs=>let⟨_,_,_,_,o,_,_,e,_⟩:=x;exact⟨_,e⟩
 | dT kvs=>let⟨_,_,_,_,o,_,_,e,_⟩:=x;exact⟨_,e⟩
 | set S n=>let⟨o,_,_,_,e,_⟩:=x;exact⟨_,e⟩
 | ins C dx fs=>let⟨_,_,_,e,_⟩:=x;exact⟨_,e⟩
 | own y=>let⟨_,e⟩:=x;exact⟨_,e⟩
 | xd fs=>let⟨_,⟨_,_,_,e,_⟩,_⟩:=x;exact⟨_,e⟩
 | rng lo hi=>let⟨_,_,_,e⟩:=x;exact⟨_,e⟩
 | frz ob u=>let⟨e,_⟩:=x;exact⟨_,e⟩
 | tab q=>let⟨_,e,_⟩:=x;exact⟨_,e⟩
 | cod q=>let⟨_,_,_,_,e0,e,_⟩:=x;cases e0;exact⟨_,e⟩
 | met f y=>exact⟨_,(show h.get? a=some _ from x)⟩
 | ext φ=>let⟨_,⟨_,e⟩,_⟩:=x;exact⟨_,e⟩
structure A4(P:Program)(w:World)(l:List Env)(H:Hp)(s:Shared)(cls:Value)(ea:Addr)(H':Hp)(s':Shared):Prop where
 os:s'.os=s.os
 bare:AllBare s'.gens
 un:Un (fP l) [] H H' s.heap s'.heap
 hok:lK P w H' s'.heap
 fly:∃B a0,Heap.FlyingW B l ea cls a0 s'.heap/\∀b,b∉fP l->(H' b≠none\/∃o,s.heap.get? b=some o)->∃o,B.get? b=some o
def wC(P:Program)(w:World):FY:=λl H s E e s'=>∃ea cls H',e=.ref ea/\A4 P w l H s cls ea H' s'/\E cls none H'
section
variable {X:Cx}{pins:List (Addr×Obj)}{σ:L2.St}{H H':Hp}{s s':Shared}{cls:Value}{ea:Addr}
def xw(I:Inv X pins σ H s)(hs:X.stack=X.env::X.outer)(hf:X.env.frame=some X.env.locals)(hex:X.ex=[])(hos:s'.os=s.os)(hbr:AllBare s'.gens)(hun:Un (fP X.stack) [] H H' s.heap s'.heap)(hok:lK X.prog X.w H' s'.heap)
  (hst:B.StaysIn s'.heap) (hff:s'.heap.FunFrames B X.stack) (hB:∀b,b∉fP X.stack->(H' b≠none\/∃o,X.s₀.heap.get? b=some o)->∃o,B.get? b=some o) (x1:Heap.FlyingW B X.outer ea cls a0 h')
  (x2:∀b∈fP X.outer,∀o,s'.heap.get? b=some o->(∀vs,o.data≠.fields vs)->∃sl,h'.get? b=some { o with slots:=sl }) :
  A4 X.prog X.w X.outer X.H₀ X.s₀ cls ea H' { s' with heap:=h' }:=by
 have nx:∀b:Addr,b∉X.ex:=λb=>by rw[hex];simp
 have fs:fP X.stack=X.env.locals::fP X.outer:=by rw[hs];unfold fP;rw[jB,hf]
 have neL:∀b o,X.s₀.heap.get? b=some o->b≠X.env.locals:=λb o e=>yO (zP (zW e) I.ok.above);have out:∀b o,X.s₀.heap.get? b=some o->b∉fP X.outer->b∉fP X.stack:=λb o e hb z=>by
  rw[fs] at z;rcases List.mem_cons.mp z with z|z
  ·exact neL b o e z
  ·exact hb z
 have stk:∀b∈fP X.stack,H' b=none:=λb hb=>by
  let⟨_,o,ho,_⟩:=I.stack.mem hb;exact hun.free b o ho (I.stkFree b hb) (by simp)
 have FJ:∀b u,H' b≠none->s'.heap.get? b=some u->h'.get? b=some u:=λb u hn e=>by
  let⟨o,eo⟩:=hB b (λz=>hn (stk b z)) (.inl hn);have:=hst b o eo;rw[e] at this;cases this;exact x1.1 b u eo
 have old:∀b o o2,b∉fP X.stack->X.s₀.heap.get? b=some o->s'.heap.get? b=some o2->h'.get? b=some o2:=λb o o2 hb e e2=>by
  let⟨o3,eo⟩:=hB b hb (.inr ⟨o,e⟩);have:=hst b o3 eo;rw[e2] at this;cases this;exact x1.1 b o2 eo
 have inO:∀b,b∈fP X.outer->b∈fP X.stack:=λb hb=>by rw[fs];exact zC _ hb
 have slotS:∀b∈fP X.outer,∀o,s'.heap.get? b=some o->∃sl,h'.get? b=some { o with slots:=sl }:=λb hb o e=>by
  let⟨_,o2,e2,d2⟩:=hff.mem (inO b hb);rw[e] at e2;cases e2;exact x2 b hb o e d2
 refine⟨hos.trans I.os,hbr,⟨λb o e n hb _=>?_,λb o e n hb _=>?_,λb o e n _=>?_,λb o e _=>?_,λb xs e=>hun.tups b xs (I.base.tups b xs e),λb o u e=>hun.frzs b o u (I.base.frzs b o u e),?_⟩,λa o e=>?_,B,a0,x1,λb hb hh=>?_⟩
 ·have e1:=I.base.keep b o e n hb (nx b);have n1:=I.base.free b o e n (nx b);have hb':=out b o e hb;exact old b o o hb' e (hun.keep b o e1 n1 hb' (by simp))
 ·let⟨sl,e1⟩:=I.base.slot b o e n hb (nx b);have n1:=I.base.free b o e n (nx b);let⟨sl2,e2⟩:=hun.slot b _ e1 n1 (inO b hb) (by simp);let⟨sl3,e3⟩:=slotS b hb _ e2;exact⟨sl3,e3⟩
 ·let⟨o1,e1⟩:=I.base.there b o e (nx b);exact hun.free b o1 e1 (I.base.free b o e n (nx b)) (by simp)
 ·let⟨o1,e1⟩:=I.base.there b o e (nx b);let⟨o2,e2⟩:=hun.there b o1 e1 (by simp);by_cases hb:b∈fP X.outer
  ·let⟨sl,e3⟩:=slotS b hb o2 e2;exact⟨_,e3⟩
  ·exact⟨o2,old b o o2 (out b o e hb) e e2⟩
 ·exact I.base.tbls.trans (hun.tbls.trans (.kept (λb u ⟨q,z⟩ e=>FJ b u (by rw[z];simp) e) λ_ _ e _=>e))
 ·refine (hok a o e).stay (λb u hb q=>FJ b u ?_ q) (λ_ q=>q) λ_ _ q _=>q;rcases hb with rfl|z
  ·rw[e];simp
  ·rw[z];simp
 ·refine hB b (λz=>?_) hh;rw[fs] at z;rcases List.mem_cons.mp z with z|z
  ·subst z;rcases hh with hn|⟨o,e⟩
   ·exact hn (stk _ (by rw[fs];exact zE))
   ·exact neL _ o e rfl
  ·exact hb z
def Nr(hs:X.stack=X.env::X.outer)(hf:X.env.frame=some X.env.locals)(hex:X.ex=[])
  (hxe:∀e s',wpAny (model X.prog X.w) X.A (leaving X.env e) (λ_ s''=>wC X.prog X.w X.outer X.H₀ X.s₀ E' e s'') (λ_ _=>False) s'->X.xe e s') (hE:∀cls H',E cls none H'->E' cls none H'):dW (wC X.prog X.w) X E:=by
 intro pins σ H s e s' I h;let⟨ea,cls,H',rfl,F,hc⟩:=h;let⟨B,a0,hfl,hB⟩:=F.fly;refine hxe _ _ ?_;refine wpAny_leaves_onW (base:=B) (a0:=a0) (cls:=cls) (by rw[I.ok.frames,hs]) hf (by rw[<- hs];exact hfl) λh' x1 x2=>⟨ea,cls,H',rfl,xw I hs hf hex F.os F.bare F.un F.hok hfl.1 hfl.2.2.1 (λb hb hh=>hB b hb (hh.imp id λ⟨o,e⟩=>I.base.there b o e (by rw[hex];simp))) x1 (λb _ o e d=>x2 b o e d),hE _ _ hc⟩
def uZ(I:Inv X pins σ H s)(hs:X.stack=X.env::X.outer)(hf:X.env.frame=some X.env.locals)(hex:X.ex=[])
  (hxe:∀e s',wpAny (model X.prog X.w) X.A (leaving X.env e) (λ_ s''=>wC X.prog X.w X.outer X.H₀ X.s₀ E' e s'') (λ_ _=>False) s'->X.xe e s') (hm:Heap.MadeExcOf s.heap s'.heap ea cls args) (ho:s'.os=s.os) (hg:AllBare s'.gens) (hE:E' cls none H):X.xe (.ref ea) s':=by
 have fs:fP X.stack=X.env.locals::fP X.outer:=by rw[hs];unfold fP;rw[jB,hf]
 have hfun:=I.stack;refine hxe _ _ ?_;have hin:∀env∈X.stack,∀b,env.frame=some b->b∈fP X.stack:=λenv he b hb=>List.mem_filterMap.mpr ⟨env,he,hb⟩;refine wpAny_leaves_madeW (base:=W.hideAll s.heap (fP X.stack)) (h:=s.heap) (cls:=cls) (args:=args) (by rw[I.ok.frames,hs]) hf (λb o q=>W.of_hideAll _ q) (by rw[<- hs];exact W.funFrames_hide hfun hin) hm λh' t x1 x2 x3 x4=>⟨ea,cls,H,rfl,?_,hE⟩
 refine xw I hs hf hex ho hg (Un.kept hm.keeps) (I.hok.kept hm.keeps) (λb o q=>hm.keeps b o (W.of_hideAll _ q)) ((W.funFrames_hide hfun hin).of_keeps λb o q _=>⟨o,hm.keeps b o q,rfl⟩) (λb hb hh=>?_) x1 (λb _ o e d=>x4 b o e d);have ⟨o,e⟩:∃o,s.heap.get? b=some o:=by
  rcases hh with hn|h
  ·let⟨u,hu⟩:=Option.ne_none_iff_exists'.mp hn;exact pb (I.hok b u hu)
  ·let⟨o,e⟩:=h;exact I.base.there b o e (by rw[hex];simp)
 exact⟨o,W.hideAll_get _ e hb⟩
end
abbrev JC:List Value:=[.type "ValueError",.type "Exception",.type "BaseException",.type "object"]
def HR{K:W.Frag}(X:K.In h)(q:W.excIn K C JC "ValueError.__new__"=true) :
  ∃bm N nm qn bs hd sn sub ab col dd k0 k1 k2 k3 k5 mN,h.get? C=some (excClassObj nm qn C N bs bm hd sn sub ab col dd k0 k1 k2 k3 k5 "ValueError.__new__")/\h.Ns N mN/\mN "__init__"=none/\OwnTail h JC bm:=by
 unfold W.excIn at q;split at q
 ·rename_i dd cd sl ho;split at q
  ·rename_i C' bm k0 k1 k2 k3 n k5 hm hsl;simp?[zF,kY,yM] at q;obtain⟨⟨⟨⟨⟨rfl,rfl⟩,hdel⟩,ht⟩,hok⟩,hni⟩:=q;cases cd with
   | mk nm bs mro ns qn hd sn sub ab col del =>
    simp only at hm hdel hok hni;subst hm hdel;cases sl with
    | mk l =>
     simp only at hsl;subst hsl;exact⟨bm,ns,nm,qn,bs,hd,sn,sub,ab,col,dd,k0,k1,k2,k3,k5,_,X _ _ ho,.of_isNs (W.isNs_of_in X hok),W.nsMap_none_of_in X hok hni,W.tail_of_in X ht⟩
  ·cases q
 ·cases q
def Cw(I:Inv X pins σ H s)(hc:X.calm=true)(hg:Gl X x)(hm:X.mg x=some (.ref C))(q:W.excIn X.K C JC "ValueError.__new__"=true)
  (hs:X.stack=X.env::X.outer) (hf:X.env.frame=some X.env.locals) (hex:X.ex=[])
  (hxe:∀e s',wpAny (model X.prog X.w) X.A (leaving X.env e) (λ_ s''=>wC X.prog X.w X.outer X.H₀ X.s₀ E' e s'') (λ_ _=>False) s'->X.xe e s') (hE:E' (.ref C) none H) (hdb:(x == ("__debug__":Str))=false) :
  wpAny (model X.prog X.w) X.A (exec (.Raise (some (.Call (.Name x np) [.Constant (.str t) i p] [] cpos)) none pos) X.env) Q X.xe s:=by
 let⟨bm,N,nm,qn,bs,hd,sn,sub,ab,col,dd,k0,k1,k2,k3,k5,mN,hC,hN,hni,T⟩:=HR I.kIn q;refine wpAny_Raise_call_subT (C:=C) (nm:=nm) (q:=qn) (N:=N) (bs:=bs) (bm:=bm) (hdct:=hd) (sn:=sn) (sub:=sub) (ab:=ab) (col:=col) (dd:=dd) (k0:=k0) (k1:=k1) (k2:=k2) (k3:=k3) (k5:=k5)
  F.excBase_ValueError (mN:=mN) (T.hasType F.excBase_ValueError.hasBase) (I.ok.hd hc) rfl hni (i7 I hg hm ⟨rfl,?_⟩ hdb)
 refine Calls.evalArgs_plain (jE (vU (k:=i) (pos:=p) (jX ⟨rfl,?_,hC,hN,T,λh' e hme=>?_⟩)))
 ·exact yB (show 1<=4000 by lia) (by decide)
 ·exact uZ (s:={ s with toks:=s.toks+1 }) (I.tok _) hs hf hex hxe hme rfl I.bare hE
open PySem L2 Dl PySem.Spec PyProof.Rows
def PQ(K:W.Frag)(mg:Str->Option Value)(n:Nat)(xm:List D->Option Str):Sp:=λvs H _ E=>∃HF ds c C,aH HF H/\di K HF/\au K HF ds vs/\ds.length=n/\xm ds=some c/\mg c=some (.ref C)/\∀H' HF',bw HF H HF' H'->E (.ref C) none H'
structure Hu(P:Program)(w:World)(K:W.Frag)(mg:Str->Option Value)(base:Heap)(k:Nat)(x:Str)(n:Nat)(xm:List D->Option Str):Prop where
 ex:∃ (f:Addr) (fd:FuncData) (ps:List Str),mI P w K mg base (wC P w) k f fd ps (PQ K mg n xm)/\mg x=some (.ref f)/\W.keepIn K (.ref f)=true/\Binds K fd ps []
def Hu.mono{K:W.Frag}{xm:List D->Option Str}(F:Hu P w K mg base k x n xm)(h:k<=j):Hu P w K mg base j x n xm:=by
 let⟨f,fd,ps,a,b,c,d⟩:=F.ex;exact⟨f,fd,ps,a.mono h,b,c,d⟩
structure Xk(X:Cx)(E:XK):Prop where
 hs:X.stack=X.env::X.outer
 hf:X.env.frame=some X.env.locals
 hex:X.ex=[]
 hxe:∀e s',wpAny (model X.prog X.w) X.A (leaving X.env e) (λ_ s''=>wC X.prog X.w X.outer X.H₀ X.s₀ E e s'') (λ_ _=>False) s'->X.xe e s'
def Xk.pass(hx:Xk X E):dW (wC X.prog X.w) X E:=Nr hx.hs hx.hf hx.hex hx.hxe λ_ _ h=>h
def PD(K:W.Frag)(mg:Str->Option Value)(E:XK)(xf:Dl.Env->Option Str):TE:=λσ H _=>∃HF ρ c C,aH HF H/\cx K HF ρ σ/\xf ρ=some c/\mg c=some (.ref C)/\∀H' HF',bw HF H HF' H'->E (.ref C) none H'
def FC(X:Cx)(E:XK)(e:Expr)(xf:Dl.Env->Option Str):Prop:=PE X e (PD X.K X.mg E xf)
def tX(K:W.Frag)(mg:Str->Option Value)(HF₀ H₀:Hp)(E:XK)(xg:ar->Option Str):TS:=λ_ σ H=>∃HF ρ c C,eh K HF₀ H₀ HF H ρ σ/\xg ρ=some c/\mg c=some (.ref C)/\∀H' HF',bw HF₀ H₀ HF' H'->E (.ref C) none H'
def DX(X:Cx)(E:XK)(HF₀ H₀:Hp)(st:Stmt)(xg:ar->Option Str):Prop:=PS X st (tX X.K X.mg HF₀ H₀ E xg)
def BF(X:Cx)(E:XK)(HF₀ H₀:Hp)(st:List Stmt)(xg:ar->Option Str):Prop:=so X st (tX X.K X.mg HF₀ H₀ E xg)
def JN(h:PA X.nox es t):PA X es t:=λpos pins s σ H Q I hw =>
 yX (h pos pins s σ H Q (I.wish _) hw) (λ_ _ ⟨v,H',I',r,q⟩=>⟨v,H',I'.unwish,r,q⟩) λ_ _ z=>False.elim z
def LJ{st:Stmt}(h:PS X.nox st t):PS X st t:=λpins s σ H D I hw =>
 yX (h pins s σ H D (I.wish _) hw) (λ_ _ q=>q.unwish) λ_ _ z=>False.elim z
def pY(n:Nat)(xm:List D->Option Str)(fs:Dl.Env->Option (List D)):Dl.Env->Option Str:=λρ=>(fs ρ).bind λds=>if ds.length=n then xm ds else none
def F6{xm:List D->Option Str}{p pos:Pos}(F:Hu X.prog X.w X.K X.mg X.base k x n xm)(hr:gu k X.A)(hx:dW (wC X.prog X.w) X E)(hg:Gl X x)(ha:DA X.nox (e::es) fs)(hdb:(x == ("__debug__":Str))=false:=by decide)
  (he:starEach (e::es) X.env=(false,eval e X.env)::starEach es X.env:=by rfl) (hpl:(backTo pos (starEach es X.env)).any (·.1)=false:=by rfl):FC X E (.Call (.Name x p) (e::es) [] pos) (pY n xm fs):=by
 let⟨f,fd,ps,ok,hm,hk,hb⟩:=F.ex;refine aG (yj (E:=E) ok hr hg hm hk hb .nil hx (JN ha) hdb he hpl) λσ H Q ⟨HF,ρ,c,C,sm,eo,hf,hc,q⟩=>?_;let⟨ds,hds,hf⟩:=bs hf;split at hf
 ·rename_i hl;exact⟨HF,ρ,ds,sm,eo,hds,λvs H1 HF1 g1 r1=>⟨HF1,ds,c,C,g1.fh,eo.tb.mono g1.ff,by rw[qC];exact r1,hl,hf,hc,λH' HF' g=>q H' HF' (g1.trans g)⟩⟩
 ·cases hf
def wD(t:Dl.Env->Option Bool)(xa xb:Dl.Env->Option Str):Dl.Env->Option Str:=λρ=>(t ρ).bind λb=>if b=true then xa ρ else xb ρ
def Mw(hc:DT X.nox c t)(ha:FC X E a xa)(hb:FC X E b xb):FC X E (.IfExp c a b pos) (wD t xa xb) :=
 aG (tV (PT.nox hc) ha hb) λσ H Q ⟨HF,ρ,c,C,sm,eo,hf,hc,q⟩=>by
  let⟨b,h,hf⟩:=bs hf;refine⟨HF,ρ,b,sm,eo,h,λH' HF' G=>?_⟩;cases b with
  | true=>exact oU ⟨HF',ρ,c,C,G.fh,eo.mono G.ff,hf,hc,λH2 HF2 G2=>q H2 HF2 (G.trans G2)⟩
  | false=>exact mG ⟨HF',ρ,c,C,G.fh,eo.mono G.ff,hf,hc,λH2 HF2 G2=>q H2 HF2 (G.trans G2)⟩
def EB{K:W.Frag}{D:Ends}(h:tX K mg HF₀ H₀ E (λρ=>xf (aL ρ)) D σ H):PD K mg E xf σ H Q:=by
 let⟨HF,ρ,c,C,S,hx,hc,q⟩:=h;exact⟨H,aL ρ,c,C,.refl _,S.all,hx,hc,λH' HF' G=>q H' HF (S.step G.hh).gr⟩
def Kg(h:FC X E e xf)(hs:swapsWith e none pos.line X.env=pure false:=by rfl):DX X E HF₀ H₀ (.Expr e pos) (λρ=>xf (aL ρ)):=bO (kr h hs) λD σ H q=>EB q
def Ka(h:FC X E e xf):DX X E HF₀ H₀ (.Return (some e) pos) (λρ=>xf (aL ρ)):=bO (u5 h) λD σ H q=>EB q
def nv{st:Stmt}(h:DX X E HF₀ H₀ st xg):BF X E HF₀ H₀ (st::rest) xg:=λpins s σ H D I q=>by
 refine kS (bK (h pins s σ H ⟨λ_ _=>False,λ_ _=>False,λ_ _=>False,λ_ _=>False⟩ I q) λf s1 z=>?_);cases f with
 | next=>let⟨_,_,_,z⟩:=z;exact z.elim
 | brk=>let⟨_,_,_,z⟩:=z;exact z.elim
 | cont=>let⟨_,_,_,z⟩:=z;exact z.elim
 | ret u=>let⟨_,_,_,_,_,z⟩:=z;exact z.elim
def AW(g:ar->Option Out)(xg:ar->Option Str):ar->Option Str:=λρ=>(g ρ).bind λo=>match o with|.nx ρ'=>xg ρ'|.rt _=>none
def tZ{st:Stmt}(h:DS X.nox HF₀ H₀ st g)(hr:BF X E HF₀ H₀ rest xg):BF X E HF₀ H₀ (st::rest) (AW g xg) :=
 mY (fY (LJ h) hr) λD σ H ⟨HF,ρ,c,C,S,hx,hc,q⟩=>by
  let⟨o,ho,hx⟩:=bs hx;cases o with
  | rt d=>cases hx
  | nx ρ'=>exact⟨HF,ρ,.nx ρ',S,ho,λσ' H' HF' S' _=>⟨HF',ρ',c,C,S',hx,hc,q⟩⟩
def FK(t:Dl.Env->Option Bool)(xa xb:ar->Option Str):ar->Option Str:=λρ=>(t (aL ρ)).bind λb=>if b=true then xa ρ else xb ρ
def MQ(hc:DT X.nox c t)(ha:BF X E HF₀ H₀ a xa)(hb:BF X E HF₀ H₀ b xb):DX X E HF₀ H₀ (.If c a b pos) (FK t xa xb) :=
 bO (Fc (PT.nox hc) ha hb) λD σ H ⟨HF,ρ,c,C,S,hx,hc,q⟩=>by
  let⟨b,h,hx⟩:=bs hx;refine⟨H,aL ρ,b,.refl _,S.all,h,λH' HF' G=>?_⟩;cases b with
  | true=>exact oU ⟨HF,ρ,c,C,S.step G.hh,hx,hc,q⟩
  | false=>exact mG ⟨HF,ρ,c,C,S.step G.hh,hx,hc,q⟩
def CT(hk:Xk X E)(hc:X.calm=true)(hg:Gl X x)(hm:X.mg x=some (.ref C))(q:W.excIn X.K C JC "ValueError.__new__"=true)(hdb:(x == ("__debug__":Str))=false:=by decide) :
  DX X E HF₀ H₀ (.Raise (some (.Call (.Name x np) [.Constant (.str t) i p] [] cpos)) none pos) (λ_=>some x):=λpins s σ H D I ⟨HF,ρ,c,C',S,hx,hc',z⟩=>by
 cases hx;rw[hm] at hc';cases hc';exact Cw I hc hg hm q hk.hs hk.hf hk.hex hk.hxe (z H HF S.gr) hdb
def oa(xg:ar->Option Str)(n:Nat)(args:List D):Option Str:=xg (args.map Slot.val++List.replicate (n - args.length) .non)
def tP{K:W.Frag}(sm:aH HF H)(tb:di K HF)(rr:au K HF ds vs):eh K HF H HF H (ds.map Slot.val++List.replicate (N.length - ds.length) .non) (L2.start N vs):=by
 refine⟨.refl sm,λi e h=>?_,λi es h=>?_,λi j es fs a h=>?_,?_,tb,λi ks h=>absurd h qr,λi j ks ls h=>absurd h qr⟩
 ·have hi:i < ds.length:=by
   by_cases hi:i < ds.length
   ·exact hi
   ·rw[yQ (by simpa using hi),yU] at h;split at h<;>cases h
  rw[yP (by simpa using hi),zO] at h;let⟨d',hd',h⟩:=ag h;cases h;let⟨v,hv,rv⟩:=rr.getD hd';refine⟨v,?_,rv⟩;unfold L2.start;rw[yP (by simpa [rr.length] using hi),zO,hv];rfl
 ·exfalso;by_cases hi:i < ds.length
  ·rw[yP (by simpa using hi),zO] at h;let⟨d',hd',h⟩:=ag h;cases h
  ·rw[yQ (by simpa using hi),yU] at h;split at h<;>cases h
 ·exfalso;by_cases hi:i < ds.length
  ·rw[yP (by simpa using hi),zO] at h;let⟨d',hd',h⟩:=ag h;cases h
  ·rw[yQ (by simpa using hi),yU] at h;split at h<;>cases h
 ·unfold L2.start;rw[zN,zN,zD,zD,xI,xI,rr.length];exact yJ _
def fnX{K:W.Frag}{st:Stmt}(F:C4 K x qual st f fd)(S:b9 N ps (ai st))(hb:Binds K fd ps [])(hm:mg x=some (.ref f))
  (body:∀ (X:Cx) (E:XK),X.prog=P->X.w=w->X.K=K->X.mg=mg->X.base=base->Bk X.nox N (ai st) k->X.calm=true->Xk X E->∀HF₀ H₀,BF X E HF₀ H₀ (bc st) xg):Hu P w K mg base (k+1) x ps.length (oa xg N.length):=by
 refine⟨f,fd,ps,?_,hm,F.kp,hb⟩;let⟨oc,od,kV,doc,pm,an,cdv,ct,osl,rfl,lk,hcd⟩:=F.ex;refine B1 lk hcd S (λvs H Q E ⟨HF,ds,c,C,h1,_,h2,h3,_⟩=>by rw[h2.length,h3]) λA outer s H vs Q E hr ⟨HF,ds,c,C,sm,tb,rr,hl,hd,hc,q⟩=>?_;refine⟨_,body (nN (wC P w) P w K mg base N qual (ai st) f cdv A outer s H E) E rfl rfl rfl rfl rfl ⟨rfl,S.nd,λy kd hy=>.inl hy,rfl,λ_ _=>rfl,hr,rfl,S.kind⟩ rfl ⟨rfl,rfl,rfl,λe s' z=>yX z (λ_ _ h=>h) λ_ _ h=>h.elim⟩ HF H,?_⟩;exact⟨HF,_,c,C,tP sm tb rr,hd,hc,q⟩
section
variable {X:Cx}{pins:List (Addr×Obj)}{σ:L2.St}{H H':Hp}{s s':Shared}{cls:Value}{ea:Addr}
def EY(I:Inv X pins σ H s)(hun:Un (fP X.stack) [] H H' s.heap s'.heap)(hok:lK X.prog X.w H' s'.heap)
  (hst:B.StaysIn s'.heap) (hff:s'.heap.FunFrames B X.stack) (hB:∀b,b∉fP X.stack->(H' b≠none\/∃o,s.heap.get? b=some o)->∃o,B.get? b=some o) (x1:B.StaysIn h') (x2:s'.heap.UpToSlots h') :
  Un (fP X.stack) [] H H' s.heap h'/\lK X.prog X.w H' h':=by
 have stk:∀b∈fP X.stack,H' b=none:=λb hb=>by
  let⟨_,o,ho,_⟩:=I.stack.mem hb;exact hun.free b o ho (I.stkFree b hb) (by simp)
 have FJ:∀b u,H' b≠none->s'.heap.get? b=some u->h'.get? b=some u:=λb u hn e=>by
  let⟨o,eo⟩:=hB b (λz=>hn (stk b z)) (.inl hn);have:=hst b o eo;rw[e] at this;cases this;exact x1 b u eo
 have old:∀b o o2,b∉fP X.stack->s.heap.get? b=some o->s'.heap.get? b=some o2->h'.get? b=some o2:=λb o o2 hb e e2=>by
  let⟨o3,eo⟩:=hB b hb (.inr ⟨o,e⟩);have:=hst b o3 eo;rw[e2] at this;cases this;exact x1 b o2 eo
 have slotS:∀b∈fP X.stack,∀o,s'.heap.get? b=some o->∃sl,h'.get? b=some { o with slots:=sl }:=λb hb o e=>by
  let⟨_,o2,e2,d2⟩:=hff.mem hb;rw[e] at e2;cases e2;exact x2 b o e d2
 refine⟨⟨λb o e n hb _=>?_,λb o e n hb _=>?_,λb o e n _=>hun.free b o e n (by simp),λb o e _=>?_,hun.tups,hun.frzs,?_⟩,λa o e=>?_⟩
 ·exact old b o o hb e (hun.keep b o e n hb (by simp))
 ·let⟨sl2,e2⟩:=hun.slot b o e n hb (by simp);let⟨sl3,e3⟩:=slotS b hb _ e2;exact⟨sl3,e3⟩
 ·let⟨o2,e2⟩:=hun.there b o e (by simp);by_cases hb:b∈fP X.stack
  ·let⟨sl,e3⟩:=slotS b hb o2 e2;exact⟨_,e3⟩
  ·exact⟨o2,old b o o2 hb e e2⟩
 ·exact hun.tbls.trans (.kept (λb u ⟨q,z⟩ e=>FJ b u (by rw[z];simp) e) λ_ _ e _=>e)
 ·refine (hok a o e).stay (λb u hb q=>FJ b u ?_ q) (λ_ q=>q) λ_ _ q _=>q;rcases hb with rfl|z
  ·rw[e];simp
  ·rw[z];simp
def A4.inv(I:Inv X pins σ H s)(F:A4 X.prog X.w X.stack H s cls ea H' s'):Inv X pins σ H' s':=I.call' F.os F.un F.hok F.bare (λb hb=>absurd hb (by simp))
def A4.stay(I:Inv X pins σ H s)(F:A4 X.prog X.w X.stack H s cls ea H' s')(hfl:Heap.FlyingW B X.stack ea cls a0 s'.heap)(hB:∀b,b∉fP X.stack->(H' b≠none\/∃o,s.heap.get? b=some o)->∃o,B.get? b=some o)
  (x1:Heap.FlyingW B X.stack ea cls a0 h') (x2:s'.heap.UpToSlots h'):A4 X.prog X.w X.stack H s cls ea H' { s' with heap:=h' }:=by
 let⟨u,k⟩:=EY I F.un F.hok hfl.1 hfl.2.2.1 hB x1.1 x2;exact⟨F.os,F.bare,u,k,B,a0,x1,hB⟩
def land{M:Model}{E:Value->Shared->Prop}{Q:Unit->Shared->Prop}(I:Inv X pins σ H s)(hs:X.stack=X.env::X.outer)(hf:X.env.frame=some X.env.locals)(F:A4 X.prog X.w X.stack H s cls ea H' s')
  (k:∀h',A4 X.prog X.w X.stack H s cls ea H' { s' with heap:=h' }->Q () { s' with heap:=h' }) :
  wpAny M X.A (noteFrame (.ref ea) X.env) (λ_ s2=>wpAny M X.A (setFlight (.ref ea) none) Q E s2) E s':=by
 let⟨B,a0,hfl,hB⟩:=F.fly;refine wpAny_looks_onW (base:=B) (a0:=a0) (cls:=cls) (by rw[I.ok.frames,hs]) hf (by rw[<- hs];exact hfl) λh4 hh x2=>?_;refine wpAny_landsW (s:={ s' with heap:=h4 }) hh λh5 y1 y2=>k h5 ?_;exact F.stay I hfl hB (by rw[hs];exact y1) (x2.trans y2)
def again{M:Model}{A:Around}{E:Value->Shared->Prop}{Q:Unit->Shared->Prop}(I:Inv X pins σ H s)(F:A4 X.prog X.w X.stack H s cls ea H' s')
  (k:∀h',A4 X.prog X.w X.stack H s cls ea H' { s' with heap:=h' }->Q () { s' with heap:=h' }):wpAny M A (setFlight (.ref ea) none) Q E s':=by
 let⟨B,a0,hfl,hB⟩:=F.fly;exact lands_againW hfl λh5 y1 y2=>k h5 (F.stay I hfl hB y1 y2)
end
abbrev gN(X:Cx)(A':Around):Cx:={ X with A:=A',calm:=false }
def m8(I:Inv X pins σ H s)(hfr:A'.frames=X.A.frames):Inv (gN X A') pins σ H s :=
 let ok:=I.ok
 ⟨⟨ok.mod,ok.kind,ok.glob,ok.blt,ok.above,ok.inj,ok.has,ok.cab,λz=>(by cases z),hfr.trans ok.frames,ok.stk,ok.exf,ok.bs,ok.bsz,ok.noex,ok.exfs,ok.funs,ok.frf⟩,I.os,I.bare,I.base,I.loc,I.cell,I.free,I.freeC,I.pin,I.hok,I.len⟩
def wc(ok:X.Ok)(I:Inv (gN X A') pins σ H s):Inv X pins σ H s:=⟨ok,I.os,I.bare,I.base,I.loc,I.cell,I.free,I.freeC,I.pin,I.hok,I.len⟩
def u7{t':Nat}(I:Inv X pins σ H s)(hn:h'.Ns X.env.locals m')(hs:Heap.SameBut X.env.locals s.heap h'):Inv X pins (List.replicate X.N.length none) H { s with heap:=h',toks:=t' }:=by
 have neL:∀b o,X.s₀.heap.get? b=some o->b≠X.env.locals:=λb o e=>yO (zP (zW e) I.ok.above);have kp:∀b o,b≠X.env.locals->s.heap.get? b=some o->h'.get? b=some o:=λb o ne e=>(hs.2 b ne).trans e;have tr:∀b u,H b=some u->b≠X.env.locals:=λb u e z=>by rw[z,I.free] at e;cases e
 refine⟨I.ok,I.os,I.bare,⟨λb o e n hb hx=>kp b o (neL b o e) (I.base.keep b o e n hb hx),λb o e n hb hx=>?_,I.base.free,λb o e hx=>?_,I.base.tups,I.base.frzs,?_⟩,⟨m',hn,λi x v _ h2 _=>?_⟩,λx c e=>?_,I.free,I.freeC,λp hp=>?_,λa o e=>?_,?_⟩
 ·let⟨sl,e1⟩:=I.base.slot b o e n hb hx;exact⟨sl,kp b _ (neL b o e) e1⟩
 ·let⟨o',e1⟩:=I.base.there b o e hx;exact⟨o',kp b _ (neL b o e) e1⟩
 ·exact I.base.tbls.trans (.kept (λb u ⟨q,z⟩ e=>kp b u (tr b _ z) e) λ_ _ e _=>e)
 ·rw[yU] at h2;split at h2<;>cases h2
 ·let⟨v,o,ho,hd⟩:=I.cell x c e;exact⟨v,o,kp c o (I.cne x c e) ho,hd⟩
 ·let⟨e,n,ne,r⟩:=I.pin p hp;exact⟨kp _ _ ne e,n,ne,r⟩
 ·refine (I.hok a o e).stay (λb u hb q=>kp b u ?_ q) (λ_ q=>q) λ_ _ q _=>q;rcases hb with rfl|z
  ·exact tr b _ e
  ·exact tr b _ z
 ·simp
def ExcAt(l:List PySem.Env)(H:Hp)(h:Heap)(ea:Addr)(cls:Value):Prop:=(∃ob vs,h.get? ea=some ob/\ob.cls=cls/\ob.data=.fields vs)/\H ea=none/\ea∉fP l
def K4{rest:List ExceptHandler}{D:Ends}(I:Inv X pins σ H s)(F:A4 X.prog X.w X.stack H s cls ea H' s')(hg:Gl X x)(hm:X.mg x=some (.ref C))(hdb:(x == ("__debug__":Str))=false)
  (hx:W.exmOne X.K cls (.ref C)=some true) (hN:X.N.Nodup) (hi:X.N[i]?=some n) (hl:X.env.kindOf n=some .local) (hsc:X.env.scope.names.lookup n=some .local) (hcl:X.env.cells.lookup n=none)
  (k:∀s2,Inv (gN X (X.A.mark (some (.ref ea)))) pins (σ.set i (some (.ref ea))) H' s2->ExcAt X.stack H' s2.heap ea cls ->
   wpAny (model X.prog X.w) (X.A.mark (some (.ref ea))) (execs (b₀::suite) X.env) (λf s3=>∃u v σ' H3,f=.ret u/\Inv (gN X (X.A.mark (some (.ref ea)))) pins σ' H3 s3/\RelV v u/\D.rt v H3) (λ_ _=>False) s2) :
  wpAny (model X.prog X.w) X.A (handleBy (.ref ea) X.env (.ExceptHandler (some (.Name x np)) (some n) (b₀::suite) pos::rest)) (SP X pins D) X.xe s':=by
 have hfr:(X.A.mark (some (.ref ea))).frames=X.A.frames:=rfl;have I1:=F.inv I;let⟨B,a0,hfl,hB⟩:=F.fly;let⟨ob,hob,hobc⟩:=hfl.there;refine wpAny_handleBy_cons (codeAny_handlers_test ?_) (by intro q;cases q);refine i7 (X:=gN X (X.A.mark (some (.ref ea)))) (m8 I1 hfr) hg hm ?_ hdb;have LT:W.Looks (model X.prog X.w) s'.heap (typeOf (.ref ea)) cls:=λA Q E s2 k2 q=>wpAny_typeOf_ref (k2 _ _ hob) (by rw[hobc];exact q);refine (W.exm_one I1.kIn LT hx).here ?_;refine codeAny_handlers_suite_as ?_;refine again I F λh2 F2=>?_;let⟨B2,a2,hfl2,hB2⟩:=F2.fly;let⟨oe,vs,T,oT,ts,he,⟨hec,_⟩,hed,_⟩:=hfl2.2.2.2;refine lU (X:=X) (i:=i) (v:=.ref ea) (F2.inv I) hN hi (.inl hsc) rfl (λs2 I2 hsb=>?_) (.inr hsc);let⟨a,hsb,ha⟩:=hsb;have hal:a=X.env.locals:=by
  rcases ha with h|h
  ·exact h
  ·rw[hcl] at h;cases h
 subst hal;have hne:ea≠X.env.locals:=λz=>by
  let⟨m,⟨o,es,ep,ho,hd,_⟩,_⟩:=(F2.inv I).loc;rw[<- z] at ho;have:oe=o:=by rw[he] at ho;exact xA ho
  rw[<- this,hed] at hd;cases hd
 have hnf:ea∉fP X.stack:=λz=>by
  let⟨_,o2,e2,d2⟩:=hfl2.2.2.1.mem z;have:oe=o2:=by rw[he] at e2;exact xA e2
  exact d2 vs (this ▸ hed)
 have hno:H' ea=none:=by
  cases q:H' ea with
  | none=>rfl
  | some u =>
   let⟨o,eo⟩:=hB2 ea hnf (.inl (by rw[q];simp));rw[hfl2.2.1] at eo;cases eo
 refine yX (k s2 (m8 I2 hfr) ⟨⟨oe,vs,(hsb.2 ea hne).trans he,hec,hed⟩,hno,hnf⟩) (λf s3 hz=>?_) λ_ _ z=>z.elim;let⟨u,v,σ',H3,rfl,I3,r,d⟩:=hz;have I4:=wc I1.ok I3;let⟨m3,hn3,_⟩:=id I4.loc;exact wpAny_nameGoes hl hn3 (by rw[I4.ok.kind];rfl) λh' m' hns hsb'=>⟨v,_,H3,u7 I4 hns hsb',r,d⟩
abbrev eM(X:Cx)(pn:List (Addr×Obj))(xe:Value->Shared->Prop):Cx:={ X with pn:=pn,xe:=xe }
def Dy(ok:X.Ok):(eM X pn xe).Ok :=
 ⟨ok.mod,ok.kind,ok.glob,ok.blt,ok.above,ok.inj,ok.has,ok.cab,ok.hd,ok.frames,ok.stk,ok.exf,ok.bs,ok.bsz,ok.noex,ok.exfs,ok.funs,ok.frf⟩
def xn(I:Inv X pins σ H s)(h:∀p∈pn++pins',p∈X.pn++pins):Inv (eM X pn xe) pins' σ H s :=
 ⟨Dy I.ok,I.os,I.bare,I.base,I.loc,I.cell,I.free,I.freeC,λp hp=>I.pin p (h p hp),I.hok,I.len⟩
def Ay(ok:X.Ok)(I:Inv (eM X pn xe) pins' σ H s)(h:∀p∈X.pn++pins,p∈pn++pins'):Inv X pins σ H s :=
 ⟨ok,I.os,I.bare,I.base,I.loc,I.cell,I.free,I.freeC,λp hp=>I.pin p (h p hp),I.hok,I.len⟩
def xj(X:Cx)(i:Nat)(ss:List Stmt)(c:Str)(d:D):Prop:=∀ (pn pins:List (Addr×Obj)) (xe:Value->Shared->Prop) (σ:L2.St) (H:Hp) (s:Shared) (ea C:Addr),X.mg c=some (.ref C)->Inv (gN (eM X pn xe) (X.A.mark (some (.ref ea)))) pins σ H s->σ[i]?=some (some (.ref ea)) ->
 ExcAt X.stack H s.heap ea (.ref C)->wpAny (model X.prog X.w) (X.A.mark (some (.ref ea))) (execs ss X.env) (λf s3=>∃u v σ' H3,f=.ret u/\Inv (gN (eM X pn xe) (X.A.mark (some (.ref ea)))) pins σ' H3 s3/\RelV v u/\∀HF,aH HF H->∃HF3,bw HF H HF3 H3/\Rep X.K HF3 d v) (λ_ _=>False) s
def sS(gb:ar->Option Out)(xg:ar->Option Str)(fin:Str->Option D):ar->Option Out:=λρ=>match gb ρ with
 | some (.rt d)=>some (.rt d)
 | some (.nx _)=>none
 | none=>(xg ρ).bind λc=>(fin c).map Out.rt
def LH{fin:Str->Option D}(hs:X.stack=X.env::X.outer)(hf:X.env.frame=some X.env.locals)
  (hg:Gl X x) (hm:X.mg x=some (.ref CF)) (hdb:(x == ("__debug__":Str))=false) (hN:X.N.Nodup) (hi:X.N[i]?=some n) (hl:X.env.kindOf n=some .local) (hsc:X.env.scope.names.lookup n=some .local) (hcl:X.env.cells.lookup n=none)
  (hok:xk X.nox HF₀ H₀ body gb) (hx:∀pn xe E,dW (wC X.prog X.w) (eM X pn xe) E->BF (eM X pn xe) E HF₀ H₀ body xg)
  (hfin:∀c d,fin c=some d->(∀C,X.mg c=some (.ref C)->W.exmOne X.K (.ref C) (.ref CF)=some true)/\(∃C,X.mg c=some (.ref C))/\xj X i (b₀::suite) c d) :
  DS X HF₀ H₀ (.Try body [.ExceptHandler (some (.Name x np)) (some n) (b₀::suite) hpos] [] [] pos) (sS gb xg fin):=by
 intro pins s σ H D I ⟨HF,ρ,o,S,hgo,q⟩;refine wpAny_Try_except ?_;unfold sS at hgo;split at hgo
 ·rename_i d hgb;cases hgo;refine yX (so.nox hok pins s σ H { D with nx:=λ_ _=>False,bk:=λ_ _=>False,ct:=λ_ _=>False } I ⟨HF,ρ,.rt d,S,hgb,q⟩ |> λ_=>hok pins s σ H { D with nx:=λ_ _=>False,bk:=λ_ _=>False,ct:=λ_ _=>False } (I.wish _) ⟨HF,ρ,.rt d,S,hgb,q⟩) (λf s1 z=>?_) λ_ _ z=>z.elim;cases f with
  | next=>let⟨_,_,_,z⟩:=z;exact z.elim
  | brk=>let⟨_,_,_,z⟩:=z;exact z.elim
  | cont=>let⟨_,_,_,z⟩:=z;exact z.elim
  | ret u=>exact SP.unwish (D:=D) z
 ·cases hgo
 ·let⟨c,hc,hgo⟩:=bs hgo;let⟨d,hd,rfl⟩:=ag hgo;let⟨hex,⟨C,hC⟩,hsu⟩:=hfin c d hd;have hxm:=hex C hC;let E1:XK:=λcls _ H'=>cls=.ref C/\∃HF',bw HF₀ H₀ HF' H';let xeT:Value->Shared->Prop:=λe s1=>∃pins' σ' Hc s0 ea H',e=.ref ea/\Inv (eM X (X.pn++pins) X.xe) pins' σ' Hc s0/\A4 X.prog X.w X.stack Hc s0 (.ref C) ea H' s1/\∃HF',bw HF₀ H₀ HF' H';have hp:dW (wC X.prog X.w) (eM X (X.pn++pins) xeT) E1:=λpins' σ' Hc s0 e s1 Ic hcx=>by
   let⟨ea,cls,H',rfl,F,rfl,HF',G⟩:=hcx;exact⟨pins',σ',Hc,s0,ea,H',rfl,⟨Dy I.ok,Ic.os,Ic.bare,Ic.base,Ic.loc,Ic.cell,Ic.free,Ic.freeC,Ic.pin,Ic.hok,Ic.len⟩,F,HF',G⟩
  have hI:Inv (eM X (X.pn++pins) xeT) [] σ H s:=xn I λp hp=>by rw[qC] at hp;exact hp
  refine yX (hx _ _ E1 hp [] s σ H ⟨λ_ _=>False,λ_ _=>False,λ_ _=>False,λ_ _=>False⟩ hI ⟨HF,ρ,c,C,S,hc,hC,λH' HF' G=>⟨rfl,HF',G⟩⟩) (λf s1 z=>?_) λe s1 z=>?_
  ·exfalso;cases f with
   | next=>let⟨_,_,_,z⟩:=z;exact z
   | brk=>let⟨_,_,_,z⟩:=z;exact z
   | cont=>let⟨_,_,_,z⟩:=z;exact z
   | ret u=>let⟨_,_,_,_,_,z⟩:=z;exact z
  ·let⟨pins',σ',Hc,s0,ea,H',rfl,Ic,F,HF',G⟩:=z;refine land (X:=eM X (X.pn++pins) X.xe) Ic hs hf F λh' F'=>?_;refine bK (K4 (X:=eM X (X.pn++pins) X.xe) (D:=⟨λ_ _=>False,λv H3=>D.rt v H3,λ_ _=>False,λ_ _=>False⟩) Ic F' hg hm hdb hxm hN hi hl hsc hcl λs2 I2 hob=>?_) λf s3 z=>?_
   ·have hlen:i < σ'.length:=by rw[Ic.len];exact (List.getElem?_eq_some_iff.mp hi).1
    refine yX (hsu _ _ _ _ _ _ _ C hC I2 (by simp[hlen]) hob) (λf s3 z=>?_) λ_ _ z=>z;let⟨u,v,σ3,H3,rfl,I3,r,z⟩:=z;let⟨HF3,g3,rp⟩:=z HF' G.fh;exact⟨u,v,σ3,H3,rfl,I3,r,q v H3 HF3 (G.trans g3) rp⟩
   ·cases f with
    | next=>let⟨_,_,_,z⟩:=z;exact z.elim
    | brk=>let⟨_,_,_,z⟩:=z;exact z.elim
    | cont=>let⟨_,_,_,z⟩:=z;exact z.elim
    | ret u =>
     let⟨v,σ3,H3,I3,r,z⟩:=z;exact⟨v,σ3,H3,Ay I.ok I3 λp hp=>qF _ hp,r,z⟩
structure yk(P:Program)(w:World)(K:W.Frag)(mg:Str->Option Value)(base:Heap)(k:Nat)(x c:Str)(d:D):Prop where
 ex:∃ (f:Addr) (fd:FuncData) (ps:List Str),mg x=some (.ref f)/\W.keepIn K (.ref f)=true/\Binds K fd ps []/\ps.length=1 /\
  ∀ (A:Around) (outer:List PySem.Env) (s:Shared) (H:Hp) (args:Args) (ea C:Addr),A.depth+3 * k+5 < recursionLimit->A.units+16 * k+200 < cLine->vg P w K mg base A outer s H->BindsTo s fd args (ps.zip [.ref ea])->mg c=some (.ref C)->ExcAt outer H s.heap ea (.ref C) ->
   codeAny (model P w) A (.call (.ref f) args) (λr s'=>∃u,r=.ok (.ret u)/\CE outer P w H s (λv H'=>∀HF,aH HF H->∃HF',bw HF H HF' H'/\Rep K HF' d v) u s') s
def AC(R:yk X.prog X.w X.K X.mg X.base k x c d)(hr:gu k X.A)(hg:Gl X x)(hdb:(x == ("__debug__":Str))=false)(hi:X.N[i]?=some n)(hl:X.env.kindOf n=some .local)(hsc:X.env.scope.names.lookup n=some .local)(hnd:(n == ("__debug__":Str))=false) :
  xj X i [.Return (some (.Call (.Name x p) [.Name n pe] [] cpos)) pos] c d:=by
 let⟨f,fd,ps,hm,hk,hb,hpl,run⟩:=R.ex;intro pn pins xe σ H s ea C hC I hσ hob;have ev:∀ {Q:Value->Shared->Prop},Q (.ref ea) s->wpAny (model X.prog X.w) (X.A.mark (some (.ref ea))) (eval (.Name n pe) X.env) Q (λ_ _=>False) s:=λ{Q} q=>by
  let⟨m,hn,hlo⟩:=I.loc;let⟨u,r,l⟩:=hlo i n (.ref ea) hi hσ (.inl hsc);have r:u=.ref ea:=r;subst r;rcases l with ⟨hk,hm⟩|⟨hk,_⟩
  ·exact vQ (vL I.ok.kind hk hn hm q) hnd
  ·have hk:X.env.kindOf n=some .cell\/X.env.kindOf n=some .free:=hk;rw[hl] at hk;rcases hk with hk|hk<;>cases hk
 have key:wpAny (model X.prog X.w) (X.A.mark (some (.ref ea))) (eval (.Call (.Name x p) [.Name n pe] [] cpos) X.env) (EP (gN (eM X pn xe) (X.A.mark (some (.ref ea)))) pins σ (λv H'=>∀HF,aH HF H->∃HF',bw HF H HF' H'/\Rep X.K HF' d v)) (λ_ _=>False) s:=by
  refine qT (i7 I hg hm ?_ hdb);refine W.callWith_K (h₀:=X.base) I.ok.mod.kin hk (jE (ev (jX ⟨I.kIn,?_⟩))) rfl rfl;refine kX (jN (run _ X.stack s H ⟨[.ref ea],[]⟩ ea C hr.dp hr.un I.env0 (by have:=hb s [.ref ea] I.kIn (by simp[hpl]);simpa using this) hC hob) λr s' hq=>?_);let⟨u,rfl,hq⟩:=hq;exact I.after hq
 refine kS (wpAny_Return_some (yX key (λu s3 z=>?_) λ_ _ z=>z));let⟨v,H3,I3,r,z⟩:=z;exact⟨u,v,σ,H3,rfl,I3,r,z⟩
open PySem PySem.W PySem.Spec PySem.Calls PyProof.Rows
section
variable {K:Frag}{x D:Addr}
def A9(X:K.In h)(ha:findIn K (.ref D) name=some (some a))(hg:specialIn K a "__get__"=some (some g))(ht:takesIn K a=some true):Looks M h (Builtin.ObjectAttr.find self (.ref D) name) (.bind g a):=by
 refine (looks_findIn X ha).andThen ?_;refine (show Looks M h (Builtin.ObjectAttr.getOf (some a)) (some g) from looks_specialIn X hg).andThen ?_;refine (show Looks M h (Builtin.ObjectAttr.dataDescriptor? (some a) (some g)) (some (g,a)) from (looks_takesIn X ht).andThen .now).andThen ?_;exact Looks.tag .now
def CK(X:K.In s.heap)(L0:Looks (model prog w) s.heap (typeOf (.ref x)) (.ref D))(hm:mroIn K D (.type "object")=some true)
  (h:R (.ok (.ret (.ref D))) s):codeAny (model prog w) A (.call (.builtin "getset_descriptor.__get__") ⟨[.builtin "object.__class__",.ref x,tp],[]⟩) R s:=by
 have LI:Looks (model prog w) s.heap (isInstance (.ref x) (.type "object")) true:=L0.andThen (looks_mroIn X hm);let⟨hh,g,dr,t,os⟩:=s;refine vM KF.slot_gs.plain KF.entry_gs (KF.slot_gs.check _ _ _ _ _ _ _ _ KF.type_class (KF.args_gs _ _ _) ?_);unfold Builtin.«getset_descriptor.__get__» Builtin.Getset_descriptor.descrGet;rw[dga_obj];refine zT (zU ?_);unfold Builtin.Getset_descriptor.descrGetter Builtin.Getset_descriptor.descrCheckInstance Builtin.Getset_descriptor.descrNameAndClass;simp?[KF.owner_class]
 repeat lk
 refine⟨vT _ (by decide +kernel),jV KF.entry_class ?_⟩;unfold Builtin.«object.__class__» shownTypeOf
 repeat lk
 exact h
def Bx(X:K.In s.heap)(ho:s.heap.get? x=some ox)(hcl:ox.cls=.ref D)(hga:findIn K (.ref D) "__getattribute__"=some (some (.builtin "BaseException.__getattribute__")))(hno:findIn K (.ref D) "__getattr__"=some none)
  (ha:findIn K (.ref D) "__class__"=some (some (.builtin "object.__class__"))) (hn:specialIn K (.builtin "object.__class__") "__get__"=some (some (.builtin "getset_descriptor.__get__"))) (htk:takesIn K (.builtin "object.__class__")=some true) (hm:mroIn K D (.type "object")=some true) (hb:subIn K (.ref D) (.type "BaseException")=some true)
  (h:Q (some (.ref D)) { s with toks:=s.toks+1 }):wpAny (model prog w) A (getAttr? (.ref x) "__class__") Q E s:=by
 let⟨hh,g,d,t,os⟩:=s;have L0:Looks (model prog w) hh (typeOf (.ref x)) (.ref D):=hcl ▸ (Looks.ld ho).andThen .now;have L1:=looks_findIn (M:=model prog w) X hga;have L2:=looks_findIn (M:=model prog w) X hno;have LF:=A9 (M:=model prog w) (self:=.ref x) X ha hn htk;have LI:Looks (model prog w) hh (isInstance (.ref x) (.type "BaseException")) true:=L0.andThen (looks_subIn X hb);unfold getAttr? getAttrBy? getAttrBy;refine zT (wpAny_mkText (zT (kF (xU (zT (L0.at (zT (L1.at ?_))))))));have hx2:(Value.builtin "BaseException.__getattribute__" == Value.builtin "object.__getattribute__")=false:=by decide +kernel
 simp?[hx2,kK,yL,qL];unfold getAttrByItsOwn hookBefore;refine zT ?_;show wpAny _ _ (typeLookup (.ref D) "__getattr__") _ _ _;refine L2.at ?_;refine zT (kF (xU ?_));show wpAny _ _ (boundAndCalled (.builtin "BaseException.__getattribute__") (.ref x) (.str "__class__" t)) _ _ _;unfold boundAndCalled;refine zT (wpAny_of_eq (F.attr_ValueError.ga.bind (.ref x)) ?_);refine kX (vM F.attr_ValueError.ga.plain F.entry_bexc_ga ?_);have hk:builtinKind "BaseException.__getattribute__"=some .slot:=by decide +kernel
 have hsplit:splitId "BaseException.__getattribute__"=some ("BaseException","__getattribute__"):=by decide +kernel
 simp?[checkBuiltinCall,hk,hsplit];refine zT (LI.at ?_);simp?[xV,yL,qL];have hargs:argsOk "BaseException.__getattribute__" ⟨[.ref x]++[.str (Str.ofString "__class__") t],[]⟩:=F.args_bexc_ga _ _;have body:∀ {P:Fin->Shared->Prop}{E':Value->Shared->Prop},P (.done (.ret (.ref D))) ⟨hh,g,d,t+1,os⟩->wpAny (model prog w) A.in1 (Builtin.«object.__getattribute__» ⟨[.ref x]++[.str (Str.ofString "__class__") t],[]⟩) P E' ⟨hh,g,d,t+1,os⟩:=λ{P E'} q=>by
  unfold Builtin.«object.__getattribute__»;refine zT (zU ?_);refine zT (zU ?_);refine zT (L0.at ?_);refine zT (LF.at ?_);show wpAny _ _ (holding [.builtin "object.__class__"] (call (.builtin "getset_descriptor.__get__") [.builtin "object.__class__",.ref x,.ref D]) >>= ret) _ _ _;exact zT (xU (kX (CK (s:=⟨hh,g,d,t+1,os⟩) X L0 hm (zU q))))
 cases hsig:Manifest.signature? "BaseException.__getattribute__" with
 | none=>exact zU (body (handed_on rfl (zU h)))
 | some sig =>
  have ha':Bind.checkArgs "BaseException.__getattribute__" sig ⟨[.ref x]++[.str (Str.ofString "__class__") t],[]⟩=pure ():=by simpa only[argsOk,hsig] using hargs
  simp?[ha'];exact zU (body (handed_on rfl (zU h)))
structure Hi(K:Frag)(C:Addr):Prop where
 ga:findIn K (.ref C) "__getattribute__"=some (some (.builtin "BaseException.__getattribute__"))
 no:findIn K (.ref C) "__getattr__"=some none
 cl:findIn K (.ref C) "__class__"=some (some (.builtin "object.__class__"))
 hn:specialIn K (.builtin "object.__class__") "__get__"=some (some (.builtin "getset_descriptor.__get__"))
 tk:takesIn K (.builtin "object.__class__")=some true
 ob:mroIn K C (.type "object")=some true
 be:subIn K (.ref C) (.type "BaseException")=some true
 ci:(clsIn K C).isSome=true
def CW(k:Hi K D):KitX K (.ref x) (.ref D) (λh=>h.get? x=some ox/\ox.cls=.ref D) where
 ty:=λ_ _ _ p=>p.2 ▸ (Looks.ld p.1).andThen .now
 it:=λ_ _ X _=>by
  have hc:=k.ci;unfold clsIn at hc;split at hc
  ·rename_i ho;intro A' Q' E' s' kp q;unfold isType loadHead;exact zT (wpAny_loadPart (kp _ _ (X _ _ ho)) (zU q))
  ·cases hc
 ne:=λh tp dd its n sl X htp=>by
  have hc:=k.ci;refine Bool.eq_false_iff.mpr λq=>?_;have e:D=tp:=Value.ref.inj (beq_iff_eq.mp q);subst e;unfold clsIn at hc;split at hc
  ·rename_i ho;have z:=(X _ _ ho).symm.trans htp;cases z
  ·cases hc
 ca:=λX p q=>Bx X p.1 p.2 k.ga k.no k.cl k.hn k.tk k.ob k.be q
def wG(k:Hi K D)(X:K.In s.heap)(ho:s.heap.get? x=some ox)(hc:ox.cls=.ref D)(e:kitOne K (.ref D) c=some b)(h:∀tk,Q (.bool b) { s with toks:=tk }) :
  wpAny (model prog w) A (call (.builtin "isinstance") [.ref x,c]) Q E s:=kia_one (CW k) X ⟨ho,hc⟩ e (λz=>nomatch z) h
end
abbrev uU(A:Around):Around:={ A with handled:=none }
abbrev yp(P:Program)(w:World)(K:W.Frag)(mg:Str->Option Value)(base:Heap)(N:List Str)(qual:Str)(scope:Scope)(f:Addr)(cdv:Value)(A:Around)(outer:List PySem.Env)(s:Shared)(H:Hp)(pn:List (Addr×Obj)):Cx :=
 eM (gN (nN FD P w K mg base N qual scope f cdv (uU A) outer s H E0) (A.deeper (envOfC qual scope s.heap.objs.size f cdv))) pn λ_ _=>False
section
variable {K:W.Frag}
def Bq{C:Addr}{st:Stmt}(F:C4 K x qual st f fd)(S:b9 N ps (ai st))(h1:ps.length=1)
  (hdp:A.depth < recursionLimit) (e0:vg P w K mg base A outer s H) (hb:BindsTo s fd args (ps.zip [.ref ea])) (ho:s.heap.get? ea=some ob) (hd:ob.data=.fields vs) (hn:H ea=none) (hf:ea∉fP outer)
  (body:∀ (cdv:Value) (s1:Shared),Inv (yp P w K mg base N qual (ai st) f cdv A outer s H [(ea,ob)]) [] (L2.start N [.ref ea]) H s1 ->
   wpAny (model P w) (A.deeper (envOfC qual (ai st) s.heap.objs.size f cdv)) (execs (bc st) (envOfC qual (ai st) s.heap.objs.size f cdv)) (λfl s'=>∃u v σ' H',fl=.ret u/\Inv (yp P w K mg base N qual (ai st) f cdv A outer s H [(ea,ob)]) [] σ' H' s'/\RelV v u/\Q v H') (λ_ _=>False) s1) :
  codeAny (model P w) A (.call (.ref f) args) (λr s'=>∃u,r=.ok (.ret u)/\CE outer P w H s Q u s') s:=by
 let⟨oc,od,kV,doc,pm,an,cdv,ct,osl,rfl,lk,hcd⟩:=F.ex;have KX:K.In s.heap:=e0.mod.kin.keeps λb o e=>(e0.bs b o e).1;have lim:s.heap.NoLimit:=e0.mod.nolimit.keeps λb o e=>(e0.bs b o e).1;have hkind:∀y∈ps.zip [Value.ref ea],(ai st).names.lookup y.1=some .local \/ ((ai st).names.lookup y.1=some .cell/\((cellsFrom (s.heap.objs.size+1) (ai st).names []).lookup y.1).isSome=true):=λ⟨n,v⟩ hy=>by
  rcases S.par n (vE hy).1 with q|q
  ·exact .inl q
  ·exact .inr ⟨q,W.cellsFrom_some _ _ _ (.inl q)⟩
 refine codeAny_call_function hdp (KX _ _ lk) rfl S.co S.gen rfl (W.codeRec_of KX hcd) (hb _ _ _ _ ?_);refine wpAny_newFunctionEnv_cells S.kind hkind λenv he s1 x=>?_;subst he;refine⟨lim.keeps x.toInCall.keep,codeAny_func ?_⟩;have e0':vg P w K mg base (uU A) outer s H:=⟨e0.frames,e0.mod,e0.bs,e0.bsz,e0.funs,e0.frf,e0.hok,e0.bare⟩
 have I0:Inv (nN FD P w K mg base N qual (ai st) f cdv (uU A) outer s H E0) [] (L2.start N [.ref ea]) H s1:=pP S rfl e0' (by simp[h1]) (.cons rfl .nil) x;have hlt:ea < s.heap.objs.size:=zW ho;have I1:=I0.pins_of (pins':=[(ea,ob)]) λp hp=>by
  have hp:p=(ea,ob):=by simpa using hp
  subst hp;exact⟨x.toInCall.keep _ _ ho,hn,yO hlt,hf,λv z=>by rw[hd] at z;cases z⟩
 have I2:Inv (yp P w K mg base N qual (ai st) f cdv A outer s H [(ea,ob)]) [] (L2.start N [.ref ea]) H s1:=xn (m8 I1 rfl) λp hp=>yC _ (by simpa using hp);refine yX (body cdv s1 I2) (λfl s' z=>?_) λ_ _ z=>z.elim;let⟨u,v,σ',H',rfl,J,r,q⟩:=z;exact⟨u,rfl,v,H',J.os,J.bare,J.base,J.hok,r,q⟩
end
def Lc{i:Nat}{n y:Str}{ea C:Addr}{ob:Obj}{c:Value}{b:Bool}{p p1 p2 pos:Pos}(k:Hi X.K C)(hpn:(ea,ob)∈X.pn)(hcls:ob.cls=.ref C)(hgi:Gl X "isinstance")(hmi:X.mg "isinstance"=none)(hi:X.N[i]?=some n)(hl:X.env.kindOf n=some .local)(hsc:X.env.scope.names.lookup n=some .local)(hnd:(n == ("__debug__":Str))=false)
  (hy:∀ {pins:List (Addr×Obj)}{σ:L2.St}{H:Hp}{s:Shared}{Q:Value->Shared->Prop},Inv X pins σ H s->Q c s->wpAny (model X.prog X.w) X.A (eval (.Name y p2) X.env) Q X.xe s) (e:W.kitOne X.K (.ref C) c=some b) :
  PE X (.Call (.Name "isinstance" p) [.Name n p1,.Name y p2] [] pos) (λσ H Q=>σ[i]?=some (some (.ref ea))/\Q (.bl b) H):=by
 intro pins s σ H Q I ⟨hσ,q⟩;have ev:∀ {Q:Value->Shared->Prop},Q (.ref ea) s->wpAny (model X.prog X.w) X.A (eval (.Name n p1) X.env) Q X.xe s:=λ{Q} q=>by
  let⟨m,hn,hlo⟩:=I.loc;let⟨u,r,l⟩:=hlo i n (.ref ea) hi hσ (.inl hsc);have r:u=.ref ea:=r;subst r;rcases l with ⟨hk,hm⟩|⟨hk,_⟩
  ·exact vQ (vL I.ok.kind hk hn hm q) hnd
  ·have hk:X.env.kindOf n=some .cell\/X.env.kindOf n=some .free:=hk;rw[hl] at hk;rcases hk with hk|hk<;>cases hk
 have ho:=(I.pin (ea,ob) (qF _ hpn)).1;refine qT (gW I hgi hmi (u:=.builtin "isinstance") (by decide +kernel) ?_);refine PyProof.Rows.callWith_builtin1 (jE (ev (jE (hy I (jX ?_))))) rfl rfl;exact wG k I.kIn ho hcls e λtk=>⟨.bl b,H,I.tok tk,rfl,q⟩
def Eg(d:D)(xs:List D):Nat:=xs.countP λx=>PyData.eqv x d
def AK(hu:X.A.units+66 < cLine):FM X "list.count" (λx vs H Q=>∃ (HF:Hp) (ds:List D) (d:D) (y:V),aH HF H/\Rep X.K HF (.list ds) x/\vs=[y]/\Rep X.K HF d y/\SeqAt.shaped d=true/\SeqAt.shaped (.list ds)=true/\Q (.int (Eg d ds)) H):=by
 intro pins s σ H x vs v us Q I rx rv h;let⟨HF,ds,d,y,sm,r1,rfl,r2,hd,hl,q⟩:=h;let⟨u,rfl,ru⟩:=rv.one;let⟨as,ra⟩:=bP I sm r1 rx;let⟨bs,rb⟩:=bP I sm r2 ru;have c1:=jY hd;have c2:=jY hl;have d1:=SeqAt.depth_of_shaped hd;simp?[PyData.canLay0] at c2;have m:=Nat.min_le_right (PyData.depthAll ds) d.depth;cases ra with
 | list h1 h2 h3 h4 =>
  rename_i l o its n as;let⟨cls,dd,data,sl⟩:=o;simp only at h2 h3;subst h2 h3;have hm:=SeqAt.readsAll_map _ _ _ c2 h4;refine qS F.slot_list_count ⟨_,h1,rfl⟩ F.entry_list_count (F.args_list_count_2 _ _) (PySem.SeqAt.list_countAt l its n dd sl u (λy=>PyData.eqv (SeqAt.readOf s.heap y) d)) ⟨h1,?_,?_⟩
  ·exact SeqAt.items_eqAt h4 rb c2 c1 (by lia)
  ·refine⟨.int (Eg d ds),H,I.tok _,⟨s.toks,?_⟩,q⟩;rw[Eg,<- hm,List.countP_map];rfl
def iY(X:Cx)(ea:Addr)(es:List Expr)(bs:List Bool):Prop:=PA X es (λσ H Q=>σ[0]?=some (some (.ref ea))/\Q (bs.map V.bl) H)
def K0:iY X ea [] []:=λpos pins s σ H Q I ⟨_,q⟩=>cA pos pins s σ H Q I q
def Iw{bs:List Bool}(h:PE X e (λσ H Q=>σ[0]?=some (some (.ref ea))/\Q (.bl b) H))(hr:iY X ea es bs)(hs:starEach (e::es) X.env=(false,eval e X.env)::starEach es X.env:=by rfl):iY X ea (e::es) (b::bs) :=
 u9 (bh h hr hs) λσ H Q ⟨h0,q⟩=>⟨h0,h0,q⟩
def dw{K:W.Frag}:∀bs:List Bool,au K H (bs.map PyData.bool) (bs.map V.bl)
 | []=>rfl
 | b::bs=>⟨_,_,rfl,rfl,dw bs⟩
def j3(bs:List Bool):SeqAt.shaped (.list (bs.map PyData.bool))=true:=by
 have h:∀bs:List Bool,PyData.canLayAll0 (bs.map PyData.bool)=true/\PyData.depthAll (bs.map PyData.bool)<=1:=λbs=>by
  induction bs with
  | nil=>exact⟨by simp[PyData.canLayAll0],by simp[PyData.depthAll]⟩
  | cons b bs ih=>exact⟨by simp[PyData.canLayAll0,PyData.canLay0,ih.1],by simp[PyData.depthAll,PyData.depth];lia⟩
 have:=h bs;unfold SeqAt.shaped;rw[zF];exact⟨by simp[PyData.canLay0,this.1],by simp[PyData.depth];lia⟩
def D9{a1 a2 a3 b6:Pos}(hu:X.A.units+66 < cLine)(hN:X.N=[("_law_e":Str),("_law_flags":Str)])(hl:X.env.scope.names.lookup ("_law_flags":Str)=some .local)
  (h1:iY X ea es1 bs1) (h2:iY X ea es2 bs2) (h6:PE X e6 (λσ H Q=>σ[0]?=some (some (.ref ea))/\Q (.bl true) H)) (w6:∀whole,isTrue e6 X.env whole=(do let v <- whole;standAt e6.pos;holding [v] (truthy v)))
  (hc:Eg (.bool true) ((bs1++bs2).map PyData.bool)=1) (hj:rf (.bool true) ((bs1++bs2).map PyData.bool)=some j) (hz:bs1.length+bs2.length<=sizeLine) (l1:(c2.endLine == c4.line)=true) (l2:(d2.endLine == d4.line)=true) :
  so X [.Assign [.Name "_law_flags" a1] (.List es1 a2) a3,.Assign [.Name "_law_flags" b1] (.BinOp (.Name "_law_flags" b2) .Add (.List es2 b3) b4) b5,
   .If (.BoolOp .Or [.Compare (.Call (.Attribute (.Name "_law_flags" c1) "count" c2) [.Constant (.bool true) i1 c3] [] c4) [.NotEq] [.Constant (.int 1) i2 c5] c6,.UnaryOp .Not e6 c7] c8) bad [] c9,
   .Return (some (.Tuple [.Constant (.str "refused") i3 d1,.Call (.Attribute (.Name "_law_flags" d3) "index" d2) [.Constant (.bool true) i4 d5] [] d4] k1 d6)) d7]
   (λD σ H=>σ.length=2/\σ[0]?=some (some (.ref ea))/\∀v H',(∀HF,aH HF H->∃HF',bw HF H HF' H'/\Rep X.K HF' (.tuple [.str "refused",.int j]) v)->D.rt v H'):=by
 have hnd:X.N.Nodup:=by rw[hN];decide
 have hi:X.N[1]?=some ("_law_flags":Str):=by rw[hN];rfl
 have hlc:Loc X.env.scope ("_law_flags":Str):=.inl hl;have hv:FA X.env.scope ("_law_flags":Str):=.inl hl;have hbad:so X bad (λ_ _ _=>False):=λ_ _ _ _ _ _ z=>z.elim;have p1:=lY (pos':=a1) (pos:=a3) hnd hi hlc (wJ (pos:=a2) h1) rfl (.inr hl);have p2:=lY (pos':=b1) (pos:=b5) hnd hi hlc (w8 (pos:=b4) ow (gQ (pos:=b2) hi hv) (wJ (pos:=b3) h2)) rfl (.inr hl);have p3:=Fc (pos:=c9) (PW.pt (Jd (pos:=c8) (yu (pos:=c6) Nv (jf (apos:=c2) (cpos:=c4) qK PySem.F.slot_list_count PySem.F.type_list_count (AK hu) (gQ (pos:=c1) hi hv) (bh (Eb (b:=true) (j:=i1) (pos:=c3)) cA) rfl rfl l1) (wM (i:=1) (j:=i2) (pos:=c5)) (Fn _ (by decide) (by decide))) (Dx (pos:=c8) (CI (pos:=c7) (EO h6 w6))))) hbad qy;have p4:=u5 (pos:=d7) (CD (x1:=k1) (pos:=d6) (bh (DU (x:="refused") (j:=i3) (pos:=d1)) (bh (jf (apos:=d2) (cpos:=d4) qK PySem.F.slot_list_index PySem.F.type_list_index (Bc hu) (gQ (pos:=d3) hi hv) (bh (Eb (b:=true) (j:=i4) (pos:=d5)) cA) rfl rfl l2) cA)));refine mY (fY p1 (fY p2 (fY p3 (fY p4 qy)))) λD σ H ⟨hlen,h0,q⟩=>?_;refine⟨h0,by rw[zD];lia,λp hp=>?_⟩;have s1:∀v:V,(σ.set 1 (some v))[1]?=some (some v):=λv=>by simp[hlen]
 have s0:∀v:V,(σ.set 1 (some v))[0]?=some (some (.ref ea)):=λv=>by simp[h0]
 refine⟨.ref p,s1 _,s0 _,by rw[zD];lia,λp2 hp2=>⟨p,p2,bs1.map V.bl,bs2.map V.bl,rfl,rfl,.inl (.inl ?_),.inl (.inl aD),by rw[zD,zD];exact hz,λp3 hp3=>?_⟩⟩
 ·rw[aC (λz=>by rw[z] at hp2 ;rw[aD] at hp2;cases hp2)];exact aD
 have t1:∀v w:V,((σ.set 1 (some w)).set 1 (some v))[1]?=some (some v):=λv w=>by simp[hlen]
 have t0:∀v w:V,((σ.set 1 (some w)).set 1 (some v))[0]?=some (some (.ref ea)):=λv w=>by simp[h0]
 let H3:Hp:=upd (upd (upd H p (.lst (bs1.map V.bl))) p2 (.lst (bs2.map V.bl))) p3 (.lst (bs1.map V.bl++bs2.map V.bl));have hsm:aH H H3:=λb o e=>by
  have n1:b≠p:=λz=>by rw[z,hp] at e;cases e
  have e1:upd H p (.lst (bs1.map V.bl)) b=some o:=by rw[aC n1];exact e
  have n2:b≠p2:=λz=>by rw[z,hp2] at e1;cases e1
  have e2:upd (upd H p (.lst (bs1.map V.bl))) p2 (.lst (bs2.map V.bl)) b=some o:=by rw[aC n2];exact e1
  have n3:b≠p3:=λz=>by rw[z,hp3] at e2;cases e2
  show upd _ p3 _ b=some o;rw[aC n3];exact e2
 have hls:fD X.K H3 p3 ((bs1++bs2).map V.bl):=by
  rw[qU];exact .inl (.inl aD)
 have hrp:Rep X.K H3 (.list ((bs1++bs2).map PyData.bool)) (.ref p3):=⟨p3,_,rfl,hls,dw _⟩
 have hst:SeqAt.shaped (.bool true)=true:=by decide
 refine⟨.ref p3,t1 _ _,.inl ⟨rfl,_,hls⟩,H3,_,.bool true,.bl true,.refl _,hrp,rfl,rfl,hst,j3 _,?_⟩;rw[hc];refine⟨rfl,?_⟩;refine⟨false,rfl,?_⟩;refine mG ?_;refine⟨t0 _ _,true,rfl,?_⟩;refine mG ?_;refine⟨.ref p3,t1 _ _,.inl ⟨rfl,_,hls⟩,H3,_,.bool true,.bl true,j,.refl _,hrp,rfl,rfl,hst,j3 _,by rw[zD,zN];exact hz,hj,(show 2<=sizeLine by decide),λp4 hp4=>?_⟩;have hp4:H3 p4=none:=hp4;refine q (.ref p4) _ λHF sm=>⟨upd HF p4 (.tup [.str "refused",.int j]),⟨λb o e=>?_,λb o e=>?_,λb o e=>?_,λb o e=>?_⟩,p4,_,rfl,.inl (.inl aD),?_⟩
 ·have e3:=hsm b o e;rw[aC (λz=>by rw[z,hp4] at e3;cases e3)];exact e3
 ·have e3:=hsm b o (sm b o e);rw[aC (λz=>by rw[z,hp4] at e3;cases e3)];exact e
 ·by_cases z:b=p4
  ·subst z;rw[aD] at e ⊢;exact e
  ·rw[aC z] at e ⊢;exact hsm b o (sm b o e)
 ·by_cases z:b=p4
  ·subst z;refine .inr ?_;cases w:H b with
   | none=>rfl
   | some u=>have:=hsm b u w;rw[hp4] at this;cases this
  ·rw[aC z] at e;exact .inl e
 ·exact⟨_,_,rfl,rfl,_,_,rfl,rfl,rfl⟩
open PySem L2 Dl PySem.Spec PyProof.Rows Rf
abbrev XE:=Dl.Env->Option Str
abbrev XS:=ar->Option Str
abbrev XT:=List (Str×Nat×(List D->Option Str))
def Io:XE:=λ_=>none
def jt:XS:=λ_=>none
def ja(x:XE):XS:=λρ=>x (aL ρ)
def Nn(c:Str):XS:=λ_=>some c
def hU(xh:XS)(g:GS)(xr:XS):XS:=λρ=>match xh ρ with
 | some c=>some c
 | none=>AW g xr ρ
def oH(P:Program)(w:World)(K:W.Frag)(mg:Str->Option Value)(base:Heap)(j:Nat)(l:XT):Prop:=∀x n m,l.lookup x=some (n,m)->Hu P w K mg base j x n m
def Od(fx:XT)(sc:Scope)(T:Tr)(x:Str)(a:Expr)(as:List Expr):Option XE:=match fx.lookup x with
 | some (m,xm)=>if (sG sc x&&((a::as).all λe=>!isStar e)&&!(x == ("__debug__":Str)))=true then (oC T (a::as)).map λfs=>pY m xm fs else none
 | none=>none
def IQ(fx:XT)(sc:Scope)(N:List Str)(T:Tr):Nat->Expr->Option XE
 | 0,_=>none
 | n+1,e=>match e with
  | .Call (.Name x _) (a::as) [] _=>Od fx sc T x a as
  | .IfExp c a b _=>(T.t c).bind λt=>match IQ fx sc N T n a,IQ fx sc N T n b with
   | none,none=>none
   | xa,xb=>some (wD t (xa.getD Io) (xb.getD Io))
  | _=>none
def oI(f:Stmt->Option XS)(tS:Stmt->Option GS):List Stmt->Option XS
 | []=>none
 | s::r=>match f s,oI f tS r with
  | none,none=>none
  | some xh,none=>some xh
  | none,some xr=>(tS s).map λg=>AW g xr
  | some xh,some xr=>match tS s with
   | some g=>some (hU xh g xr)
   | none=>some xh
def F5(cl:List Str)(fx:XT)(sc:Scope)(N:List Str)(T:Tr)(tS:Stmt->Option GS):Nat->Stmt->Option XS
 | 0,_=>none
 | n+1,st=>match st with
  | .Return (some e) _=>(IQ fx sc N T 4 e).map ja
  | .Expr e _=>if mZ e=true then (IQ fx sc N T 4 e).map ja else none
  | .Assign [.Name x _] e _=>(N.idxOf? x).bind λi=>if (mD N sc i x&&!wk e)=true then (IQ fx sc N T 4 e).map ja else none
  | .If c a b _=>(T.t c).bind λt=>match oI (F5 cl fx sc N T tS n) tS a,oI (F5 cl fx sc N T tS n) tS b with
   | none,none=>none
   | xa,xb=>some (FK t (xa.getD jt) (xb.getD jt))
  | .Raise (some (.Call (.Name x _) [.Constant (.str _) _ _] [] _)) none _=>if (cl.contains x&&sG sc x&&!(x == ("__debug__":Str)))=true then some (Nn x) else none
  | _=>none
section
variable {tS:Stmt->Option GS}
def M8:FC X E e Io:=λpins s σ H Q I ⟨HF,ρ,c,C,_,_,h,_⟩=>by cases h
def IF{st:List Stmt}:BF X E HF₀ H₀ st jt:=λpins s σ H Q I ⟨HF,ρ,c,C,_,h,_⟩=>by cases h
def J0(C:Bk X.nox N sc k)(O:bR X.nox T)(hx:oH X.prog X.w X.K X.mg X.base k fx)(hp:dW (wC X.prog X.w) X E)(h:Od fx sc T x a as=some xf):FC X E (.Call (.Name x p) (a::as) [] pos) xf:=by
 unfold Od at h;split at h
 ·rename_i m xm hl;split at h
  ·rename_i hc;simp?[zF] at hc;let⟨fs,hfs,rfl⟩:=ag h;have hst:isStar a=false/\(as.all λe=>!isStar e)=true:=by
    have:=hc.1.2;rw[xP,zF] at this;exact⟨by simpa using this.1,this.2⟩
   exact F6 (hx x m xm hl) C.room hp (C.gl hc.1.1) (bV O hfs) (by simpa using hc.2) (aV (by simpa using hst.1)) (eU hst.2)
  ·cases h
 ·cases h
def rD(C:Bk X.nox N sc k)(B:Bn X)(O:bR X.nox T)(hx:oH X.prog X.w X.K X.mg X.base k fx)(hp:dW (wC X.prog X.w) X E):∀ (n:Nat) {e:Expr}{xf:XE},IQ fx sc N T n e=some xf->FC X E e xf
 | 0,e,xf,h=>by cases h
 | n+1,e,xf,h=>by
  have ih:∀ {e:Expr}{o:Option XE},IQ fx sc N T n e=o->FC X E e (o.getD Io):=λ{e o} h=>by
   cases o with
   | none=>exact M8
   | some x=>exact rD C B O hx hp n h
  unfold IQ at h;split at h
  ·exact J0 C O hx hp h
  ·let⟨t,ht,h⟩:=bs h;split at h
   ·cases h
   ·cases h;exact Mw (O.t _ _ ht) (ih rfl) (ih rfl)
  ·cases h
def Hw{st:Stmt}(h1:DX X E HF₀ H₀ st xh)(h2:DS X.nox HF₀ H₀ st g)(h3:BF X E HF₀ H₀ rest xr):BF X E HF₀ H₀ (st::rest) (hU xh g xr):=λpins s σ H D I ⟨HF,ρ,c,C,S,hx,hc,q⟩=>by
 unfold hU at hx;split at hx
 ·rename_i c' hh;cases hx;exact nv h1 pins s σ H D I ⟨HF,ρ,c,C,S,hh,hc,q⟩
 ·exact tZ h2 h3 pins s σ H D I ⟨HF,ρ,c,C,S,hx,hc,q⟩
def sE(hf:∀s x,f s=some x->DX X E HF₀ H₀ s x)(ht:∀s g,tS s=some g->DS X.nox HF₀ H₀ s g):∀ {l:List Stmt}{x:XS},oI f tS l=some x->BF X E HF₀ H₀ l x
 | [],x,h=>by cases h
 | s::r,x,h=>by
  have ih:=λx=>sE hf ht (l:=r) (x:=x);unfold oI at h;split at h
  ·cases h
  ·rename_i h1 h2;cases h;exact nv (hf _ _ h1)
  ·rename_i h1 h2;let⟨g,hg,rfl⟩:=ag h;exact tZ (ht _ _ hg) (ih _ h2)
  ·rename_i h1 h2;split at h
   ·rename_i g hg;cases h;exact Hw (hf _ _ h1) (ht _ _ hg) (ih _ h2)
   ·cases h;exact nv (hf _ _ h1)
def Po(X:Cx)(E:XK)(HF₀ H₀:Hp)(cl:List Str):Prop:=∀x∈cl,Gl X x->(x == ("__debug__":Str))=false->∀ (np cpos pos p:Pos) (t:Str) (i:Nat),DX X E HF₀ H₀ (.Raise (some (.Call (.Name x np) [.Constant (.str t) i p] [] cpos)) none pos) (Nn x)
def B3(C:Bk X.nox N sc k)(B:Bn X)(O:bR X.nox T)(hx:oH X.prog X.w X.K X.mg X.base k fx)(hp:dW (wC X.prog X.w) X E)(hr:Po X E HF₀ H₀ cl)(ht:∀s g,tS s=some g->DS X.nox HF₀ H₀ s g):∀ (n:Nat) {st:Stmt}{x:XS},F5 cl fx sc N T tS n st=some x->DX X E HF₀ H₀ st x
 | 0,st,x,h=>by cases h
 | n+1,st,x,h=>by
  have ih:∀ {l:List Stmt}{o:Option XS},oI (F5 cl fx sc N T tS n) tS l=o->BF X E HF₀ H₀ l (o.getD jt):=λ{l o} h=>by
   cases o with
   | none=>exact IF
   | some x=>exact sE (λs x h=>B3 C B O hx hp hr ht n h) ht h
  unfold F5 at h;split at h
  ·let⟨xf,hf,rfl⟩:=ag h;exact Ka (rD C B O hx hp 4 hf)
  ·split at h
   ·rename_i hc;let⟨xf,hf,rfl⟩:=ag h;refine Kg (rD C B O hx hp 4 hf) ?_;rename_i e pos;cases e<;>first|rfl|cases hc
   ·cases h
  ·let⟨i,hi,h⟩:=bs h;split at h
   ·rename_i hl;simp?[zF,yM] at hl;let⟨xf,hf,rfl⟩:=ag h;let⟨z1,z2,z3,z4⟩:=C.loc hl.1;exact bO (lY z1 z2 z3 (rD C B O hx hp 4 hf) (lZ hl.2) z4) λD σ H q=>EB q
   ·cases h
  ·let⟨t,ht',h⟩:=bs h;split at h
   ·cases h
   ·cases h;exact MQ (O.t _ _ ht') (ih rfl) (ih rfl)
  ·split at h
   ·rename_i hc;simp?[zF,yM] at hc;cases h;exact hr _ (List.contains_iff_mem.mp hc.1.1) (C.gl hc.1.2) hc.2 _ _ _ _ _ _
   ·cases h
  ·cases h
end
abbrev Pt(st:Stmt)(N:List Str)(S:Sg)(fx:XT)(cl:List Str):Option XS:=oI (F5 cl fx (ai st) N (tr S 40 none (ai st) N) (rH (ai st) N (tr S 40 none (ai st) N) 40) 10) (rH (ai st) N (tr S 40 none (ai st) N) 40) (bc st)
def ES(K:W.Frag)(mg:Str->Option Value)(cl:List Str):Prop:=∀c∈cl,∃C:Addr,mg c=some (.ref C)/\W.excIn K C JC "ValueError.__new__"=true
section
variable {K:W.Frag}
def Jo(C:Bk X.nox N sc j)(B:Bn X)(hf:j8 X.prog X.w X.K X.mg X.base j fs)(hi:dy X.mg is)(hx:oH X.prog X.w X.K X.mg X.base j fx)(hp:dW (wC X.prog X.w) X E)(hr:Po X E HF₀ H₀ cl)
  (t:oI (F5 cl fx sc N (tr ⟨fs,is⟩ 40 none sc N) (rH sc N (tr ⟨fs,is⟩ 40 none sc N) 40) 10) (rH sc N (tr ⟨fs,is⟩ 40 none sc N) 40) l=some xg):BF X E HF₀ H₀ l xg:=by
 have O:bR X.nox (tr ⟨fs,is⟩ 40 none sc N):=CQ (G:=⟨fs,is⟩) 40 C ⟨hf,hi,B⟩ (yJ j) λq z=>by cases z
 have ht:∀s g,rH sc N (tr ⟨fs,is⟩ 40 none sc N) 40 s=some g->DS X.nox HF₀ H₀ s g:=λs g h=>rh C B O 40 h;exact sE (λs x h=>B3 C B O hx hp hr ht 10 h) ht t
def N9{st:Stmt}(D:uY K mg x st ps)(B:∀x∈cw,mg x=none)(hf:j8 P w K mg base j S.fn)(hi:dy mg S.int)(hx:oH P w K mg base j fx)(hc:ES K mg cl)(t:Pt st N S fx cl=some xg)(F:b9 N ps (ai st):=by exact Rf.NW):Hu P w K mg base (j+1) x ps.length (oa xg N.length):=by
 let⟨f,fd,hm,Fu,hb⟩:=D.ex;refine fnX Fu F hb hm λX E hP hw hK hm' hb' C hcalm hk HF H=>?_;subst hP;subst hw;subst hK;subst hm';subst hb';exact Jo C B hf hi hx hk.pass (λc hcl hg hd np cpos pos p t i=>by
  let⟨Ca,h1,h2⟩:=hc c hcl;exact CT hk hcalm hg h1 h2 hd) t
def Ot:oH P w K mg base j []:=λ_ _ _ h=>by cases h
def xm(F:Hu P w K mg base i x n m)(h:oH P w K mg base j l)(e:i<=j:=by decide):oH P w K mg base j ((x,n,m)::l):=λy n' m' e'=>by
 rw[zZ] at e';cases q:y == x with
 | true=>rw[q] at e';cases e';rw[eq_of_beq q];exact F.mono e
 | false=>rw[q] at e';exact h y n' m' e'
end
def Mu(K:W.Frag)(C:Addr):Bool:=W.findIn K (.ref C) "__getattribute__" == some (some (.builtin "BaseException.__getattribute__"))&&(W.findIn K (.ref C) "__getattr__" == some none)&&(W.findIn K (.ref C) "__class__" == some (some (.builtin "object.__class__")))&&(W.specialIn K (.builtin "object.__class__") "__get__" == some (some (.builtin "getset_descriptor.__get__")))&&(W.takesIn K (.builtin "object.__class__") == some true)&&(W.mroIn K C (.type "object") == some true)&&(W.subIn K (.ref C) (.type "BaseException") == some true)&&(W.clsIn K C).isSome
def Nm(K:W.Frag)(F:Addr)(cs:List (Str×Addr)):Bool:=(W.nsIn K mainGlobals "FlowError" == some (some (.ref F)))&&(W.nsIn K mainGlobals "ValueError" == some none)&&cs.all λc=>(W.nsIn K mainGlobals c.1 == some (some (.ref c.2)))&&W.excIn K c.2 JC "ValueError.__new__"&&Mu K c.2&&(W.exmOne K (.ref c.2) (.ref F) == some true)&&(W.kitOne K (.ref c.2) (.type "ValueError") == some true)&&cs.all λd=>W.kitOne K (.ref c.2) (.ref d.2) == some (c.1 == d.1)
structure rg(K:W.Frag)(mg:Str->Option Value)(F:Addr)(cs:List (Str×Addr)):Prop where
 fe:mg "FlowError"=some (.ref F)
 ve:mg "ValueError"=none
 at_:∀c∈cs,mg c.1=some (.ref c.2)
 ex:∀c∈cs,W.excIn K c.2 JC "ValueError.__new__"=true
 ek:∀c∈cs,Hi K c.2
 xm:∀c∈cs,W.exmOne K (.ref c.2) (.ref F)=some true
 kv:∀c∈cs,W.kitOne K (.ref c.2) (.type "ValueError")=some true
 kt:∀c∈cs,∀d∈cs,W.kitOne K (.ref c.2) (.ref d.2)=some (c.1 == d.1)
def Gp{K:W.Frag}{cs:List (Str×Addr)}(X:K.In h)(G:h.Ns mainGlobals mg)(e:Nm K F cs=true):rg K mg F cs:=by
 unfold Nm at e;simp?[zF,xD,kY] at e;let⟨⟨e1,e2⟩,e3⟩:=e;refine⟨W.mg_of X G e1,W.mg_none_of X G e2,λc hc=>W.mg_of X G (e3 c hc).1.1.1.1.1,λc hc=>(e3 c hc).1.1.1.1.2,λc hc=>?_,λc hc=>(e3 c hc).1.1.2,λc hc=>(e3 c hc).1.2,λc hc d hd=>(e3 c hc).2 d hd⟩;have q:=(e3 c hc).1.1.1.2;unfold Mu at q;simp?[zF,kY] at q;exact⟨q.1.1.1.1.1.1.1,q.1.1.1.1.1.1.2,q.1.1.1.1.1.2,q.1.1.1.1.2,q.1.1.1.2,q.1.1.2,q.1.2,q.2⟩
def rg.ok{K:W.Frag}{cs:List (Str×Addr)}(M:rg K mg F cs)(h:(cl.all λc=>(cs.map Prod.fst).contains c)=true):ES K mg cl:=λc hc=>by
 have:=List.contains_iff_mem.mp (List.all_eq_true.mp h c hc);let⟨q,hq,rfl⟩:=List.mem_map.mp this;exact⟨q.2,M.at_ q hq,M.ex q hq⟩
def NT(sc:Scope):Expr->Option Str
 | .Call (.Name f _) [.Name n _,.Name y _] [] _=>if (f == ("isinstance":Str)&&n == ("_law_e":Str)&&sG sc "isinstance"&&sG sc y)=true then some y else none
 | _=>none
def Ea(sc:Scope):List Expr->Option (List Str)
 | []=>some []
 | e::r=>(NT sc e).bind λy=>(Ea sc r).map λys=>y::ys
def ku(ns:List Str)(c:Str):Option D:=if ns.contains c=true then (rf (.bool true) (ns.map λn=>.bool (c == n))).map λj=>.tuple [.str "refused",.int ((j:Nat):Int)] else none
section
variable {K:W.Frag}{cs:List (Str×Addr)}
def BU(M:rg X.K X.mg F cs)(hc:c∈cs)(hpn:(ea,ob)∈X.pn)(hcls:ob.cls=.ref c.2)(hsc:Hn X sc)(hmi:X.mg "isinstance"=none)(hN:X.N[0]?=some ("_law_e":Str))(hl:X.env.kindOf ("_law_e":Str)=some .local)(hs:X.env.scope.names.lookup ("_law_e":Str)=some .local)
  (hr:NT sc e=some y) (hy:∀ {p2:Pos}{pins:List (Addr×Obj)}{σ:L2.St}{H:Hp}{s:Shared}{Q:Value->Shared->Prop},Gl X y->Inv X pins σ H s->Q v s->wpAny (model X.prog X.w) X.A (eval (.Name y p2) X.env) Q X.xe s) (hk:W.kitOne X.K (.ref c.2) v=some b) :
  PE X e (λσ H Q=>σ[0]?=some (some (.ref ea))/\Q (.bl b) H)/\(∀env whole,isTrue e env whole=(do let v <- whole;standAt e.pos;holding [v] (truthy v)))/\∀es:List Expr,starEach (e::es) X.env=(false,eval e X.env)::starEach es X.env:=by
 unfold NT at hr;split at hr
 ·rename_i f pf n pn y' py pos;split at hr
  ·rename_i hh;cases hr;simp?[zF,kY] at hh;let⟨⟨⟨rfl,rfl⟩,hg⟩,hgy⟩:=hh;have gl:∀ {x:Str},sG sc x=true->Gl X x:=λh=>by
    rcases hsc _ _ (yN h) with q|⟨q,_⟩
    ·exact q
    ·cases q
   exact⟨Lc (M.ek c hc) hpn hcls (gl hg) hmi hN hl hs (by decide) (λ{pins σ H s Q} I q=>hy (gl hgy) I q) hk,λenv whole=>rfl,λes=>rfl⟩
  ·cases hr
 ·cases hr
def sg(M:rg X.K X.mg F cs)(hc:c∈cs)(hpn:(ea,ob)∈X.pn)(hcls:ob.cls=.ref c.2)(hsc:Hn X sc)(hmi:X.mg "isinstance"=none)(hN:X.N[0]?=some ("_law_e":Str))(hl:X.env.kindOf ("_law_e":Str)=some .local)(hs:X.env.scope.names.lookup ("_law_e":Str)=some .local)(hd:(cs.all λd=>!(d.1 == ("__debug__":Str)))=true) :
  ∀ {es:List Expr}{ns:List Str},Ea sc es=some ns->(ns.all λc=>(cs.map Prod.fst).contains c)=true->iY X ea es (ns.map λn=>c.1 == n)
 | [],ns,h,_=>by cases h;exact K0
 | e::es,ns,h,ha=>by
  unfold Ea at h;let⟨y,hy,h⟩:=bs h;let⟨ys,hys,rfl⟩:=ag h;rw[xP,zF] at ha;let⟨d,hdm,rfl⟩:=List.mem_map.mp (List.contains_iff_mem.mp ha.1);have hdb:(d.1 == ("__debug__":Str))=false:=by simpa using List.all_eq_true.mp hd d hdm
  let⟨h1,_,h3⟩:=BU (v:=.ref d.2) M hc hpn hcls hsc hmi hN hl hs hy (λ{p2 pins σ H s Q} hg I q=>i7 I hg (M.at_ d hdm) q hdb) (M.kt c hc d hdm);exact Iw h1 (sg M hc hpn hcls hsc hmi hN hl hs hd hys ha.2) (h3 es)
def AO{A:Around}{env:PySem.Env}(h:A.units+200 < cLine):(A.deeper env).units+66 < cLine:=by
 have:(A.deeper env).units<=A.units+16:=by simp[Around.deeper]
 lia
def M9{st:Stmt}{a1 a2 a3:Pos}(D:uY K mg "_law_refused" st ["_law_e"])(M:rg K mg F cs)(B:∀x∈cw,mg x=none)
  (hb:bc st=[.Assign [.Name "_law_flags" a1] (.List es1 a2) a3,.Assign [.Name "_law_flags" b1] (.BinOp (.Name "_law_flags" b2) .Add (.List es2 b3) b4) b5,
   .If (.BoolOp .Or [.Compare (.Call (.Attribute (.Name "_law_flags" c1) "count" c2) [.Constant (.bool true) i1 c3] [] c4) [.NotEq] [.Constant (.int 1) i2 c5] c6,.UnaryOp .Not e6 c7] c8) bad [] c9,
   .Return (some (.Tuple [.Constant (.str "refused") i3 d1,.Call (.Attribute (.Name "_law_flags" d3) "index" d2) [.Constant (.bool true) i4 d5] [] d4] k1 d6)) d7])
  (S:b9 [("_law_e":Str),("_law_flags":Str)] ["_law_e"] (ai st)) (r1:Ea (ai st) es1=some ns1) (r2:Ea (ai st) es2=some ns2) (r6:NT (ai st) e6=some "ValueError")
  (s1:(ai st).names.lookup ("_law_e":Str)=some .local) (s2:(ai st).names.lookup ("_law_flags":Str)=some .local) (NR:((ns1++ns2).all λc=>(cs.map Prod.fst).contains c&&decide (Eg (.bool true) ((ns1++ns2).map λn=>.bool (c == n))=1))=true) (hdb:(cs.all λd=>!(d.1 == ("__debug__":Str)))=true) (hz:ns1.length+ns2.length<=sizeLine) (l1:(c2.endLine == c4.line)=true) (l2:(d2.endLine == d4.line)=true) :
  ∀c d,ku (ns1++ns2) c=some d->yk P w K mg base k "_law_refused" c d:=λc d h=>by
 unfold ku at h;split at h
 ·rename_i hc;have hcm:=List.contains_iff_mem.mp hc;let⟨j,hj,rfl⟩:=ag h;have hcc:=List.all_eq_true.mp NR c hcm;rw[zF] at hcc;let⟨q,hq,rfl⟩:=List.mem_map.mp (List.contains_iff_mem.mp hcc.1);have hcnt:=yN hcc.2;let⟨f,fd,hm,Fu,hbd⟩:=D.ex;refine⟨f,fd,["_law_e"],hm,Fu.kp,hbd,rfl,λA outer s H args ea C hdp hun e0 hbt hC hex=>?_⟩;let⟨⟨ob,vs,ho,hcl,hd⟩,hn,hf⟩:=hex;have hCq:C=q.2:=by
   have:=M.at_ q hq;rw[hC] at this;cases this;rfl
  subst hCq;refine Bq (C:=q.2) Fu S rfl (by lia) e0 hbt ho hd hn hf λcdv t1 I=>?_;rw[hb];have hall:∀ {l:List Str},(∀n∈l,n∈ns1++ns2)->(l.all λc=>(cs.map Prod.fst).contains c)=true:=λhl=>by
   rw[xD];intro n hn;have:=List.all_eq_true.mp NR n (hl n hn);rw[zF] at this;exact this.1
  let X:Cx:=yp P w K mg base [("_law_e":Str),("_law_flags":Str)] "_law_refused" (ai st) f cdv A outer s H [(ea,ob)];have hpn:(ea,ob)∈X.pn:=List.mem_singleton.mpr rfl;have hsc:Hn X (ai st):=λy kd hy=>.inl hy;have hmi:X.mg "isinstance"=none:=B _ (by decide);have f1:=sg (X:=X) (sc:=ai st) M hq hpn hcl hsc hmi rfl s1 s1 hdb r1 (hall λn hn=>qF _ hn);have f2:=sg (X:=X) (sc:=ai st) M hq hpn hcl hsc hmi rfl s1 s1 hdb r2 (hall λn hn=>yC _ hn);let⟨f6,w6,_⟩:=BU (X:=X) (sc:=ai st) (v:=.type "ValueError") M hq hpn hcl hsc hmi rfl s1 s1 r6 (λ{p2 pins σ H s Q} hg I q=>gW I hg M.ve (by decide +kernel) q) (M.kv q hq);have main:=D9 (X:=X) (bad:=bad) (j:=j) (a1:=a1) (a2:=a2) (a3:=a3) (b1:=b1) (b2:=b2) (b3:=b3) (b4:=b4) (b5:=b5) (b6:=b5) (c1:=c1) (c2:=c2) (c3:=c3) (c4:=c4) (c5:=c5) (c6:=c6) (c7:=c7) (c8:=c8) (c9:=c9) (d1:=d1) (d2:=d2) (d3:=d3) (d4:=d4) (d5:=d5) (d6:=d6) (d7:=d7) (i1:=i1) (i2:=i2) (i3:=i3) (i4:=i4) (k1:=k1) (AO (by lia)) rfl s2 f1 f2 f6 (λwhole=>w6 _ whole)
   (by rw[<- qU,zM];exact hcnt) (by rw[<- qU,zM];exact hj) (by rw[zD,zD];exact hz) l1 l2
   [] t1 (L2.start [("_law_e":Str),("_law_flags":Str)] [.ref ea]) H ⟨λ_ _=>False,λv H'=>∀HF,aH HF H->∃HF',bw HF H HF' H'/\Rep K HF' (.tuple [.str "refused",.int ((j:Nat):Int)]) v,λ_ _=>False,λ_ _=>False⟩ I ⟨rfl,rfl,λv H' z=>z⟩
  refine bK main λfl s' z=>?_;cases fl with
  | next=>let⟨_,_,_,z⟩:=z;exact z.elim
  | brk=>let⟨_,_,_,z⟩:=z;exact z.elim
  | cont=>let⟨_,_,_,z⟩:=z;exact z.elim
  | ret u =>
   let⟨v,σ',H',J,r,z⟩:=z;exact⟨u,v,σ',H',rfl,J,r,z⟩
 ·cases h
def qa:∀ (names:List (Str×NameKind)) (n:Nat),(names.all λy=>!(y.2 == NameKind.cell))=true->cellsFrom n names []=[]
 | [],_,_=>rfl
 | (x,k)::r,n,h=>by
  rw[xP,zF] at h;unfold cellsFrom;rw[yK (by simpa using h.1)];exact qa r n h.2
def E4:Stmt->Option (Str×Str)
 | .Return (some (.Call (.Name r _) [.Name m _] [] _)) _=>some (r,m)
 | _=>none
def v7(h:E4 s=some (r,m)):∃pr pm pc p,s=.Return (some (.Call (.Name r pr) [.Name m pm] [] pc)) p:=by
 unfold E4 at h;split at h
 ·cases h;exact⟨_,_,_,_,rfl⟩
 ·cases h
def DZ:ExceptHandler->Option (Str×Str×Stmt)
 | .ExceptHandler (some (.Name e _)) (some n) [s] _=>some (e,n,s)
 | _=>none
def uR(h:DZ x=some (e,n,s)):∃pe p,x=.ExceptHandler (some (.Name e pe)) (some n) [s] p:=by
 unfold DZ at h;split at h
 ·cases h;exact⟨_,_,rfl⟩
 ·cases h
def Mr(st:Stmt)(N:List Str)(S:Sg)(fx:XT)(ns:List Str):List Stmt->Option GS
 | [.Try body [x] [] [] _]=>(DZ x).bind λ(e,n,s)=>(E4 s).bind λ(r,m) =>
  if (e == ("FlowError":Str)&&r == ("_law_refused":Str)&&m == n&&!(n == ("__debug__":Str))&&sG (ai st) "FlowError"&&sG (ai st) "_law_refused"&&decide ((ai st).names.lookup n=some .local)&&(ai st).names.all (λy=>!(y.2 == NameKind.cell))&&N.contains n)=true then
   (nS (rH (ai st) N (tr S 40 none (ai st) N) 40) body).map λgb=>sS gb ((oI (F5 [] fx (ai st) N (tr S 40 none (ai st) N) (rH (ai st) N (tr S 40 none (ai st) N) 40) 10) (rH (ai st) N (tr S 40 none (ai st) N) 40) body).getD jt) (ku ns)
  else none
 | _=>none
abbrev Ow(st:Stmt)(N:List Str)(S:Sg)(fx:XT)(ns:List Str):Option GS:=Mr st N S fx ns (bc st)
def MI{st:Stmt}(D:uY K mg x st ps)(B:∀x∈cw,mg x=none)(M:rg K mg F cs)(hf:j8 P w K mg base j S.fn)(hi:dy mg S.int)(hx:oH P w K mg base j fx)(R:∀c d,ku ns c=some d->yk P w K mg base j "_law_refused" c d)(hns:(ns.all λc=>(cs.map Prod.fst).contains c)=true)(t:Ow st N S fx ns=some g)(FS:b9 N ps (ai st):=by exact Rf.NW):Fm P w K mg base (j+1) x ps.length (aY g N.length):=by
 let⟨f,fd,hm,Fu,hb⟩:=D.ex;refine⟨f,fd,ps,?_,hm,Fu.kp,hb⟩;let⟨oc,od,kV,doc,pm,an,cdv,ct,osl,rfl,lk,hcd⟩:=Fu.ex;refine B1 lk hcd FS (λvs H Q E ⟨HF,ds,d,h1,_,h2,h3,_⟩=>by rw[h2.length,h3]) λA outer s H vs Q E hr ⟨HF,ds,d,sm,tb,rr,hl,hd,q⟩=>?_;have key:∀X:Cx,X=(nN FD P w K mg base N x (ai st) f cdv A outer s H E).nox->Bk X N (ai st) j->∀HF1 H1,xk X HF1 H1 (bc st) g:=λX hX C HF1 H1=>by
  unfold Ow at t;generalize bc st=bd at t;unfold Mr at t;split at t
  ·rename_i body x0 pt;let⟨⟨e,n,s0⟩,h1,t1⟩:=bs t;let⟨⟨r,m⟩,h2,t2⟩:=bs t1;clear t t1;let⟨pe,ph,rfl⟩:=uR h1;let⟨pr,pm',pc,prt,rfl⟩:=v7 h2;clear h1 h2;have t:=t2;clear t2;dsimp only at t;split at t
   ·rename_i hh;simp?[zF,kY,yM,zJ] at hh;obtain⟨⟨⟨⟨⟨⟨⟨⟨rfl,rfl⟩,rfl⟩,hnd⟩,hgF⟩,hgR⟩,hloc⟩,hnc⟩,hNn⟩:=hh;let⟨gb,hgb,rfl⟩:=ag t;let⟨i,hi',hiN⟩:=qM (List.contains_iff_mem.mp hNn);have hiN':N[i]?=some m:=by rw[zK hi',hiN]
    subst hX;refine yw (LH (i:=i) rfl rfl (C.gl hgF) M.fe (by decide) C.nd hiN' hloc hloc ?_ ?_ ?_ ?_)
    ·show List.lookup m (cellsFrom _ _ [])=none;rw[qa _ _ hnc];rfl
    ·exact Rf.gH (λs g h=>rh C B (CQ (G:=S) 40 C ⟨hf,hi,B⟩ (yJ j) λq z=>by cases z) 40 h) hgb
    ·intro pn xe E' hp;have C':Bk (eM (nN FD P w K mg base N x (ai st) f cdv A outer s H E).nox pn xe).nox N (ai st) j:=⟨rfl,FS.nd,λy kd hy=>.inl hy,rfl,λ_ _=>rfl,hr,rfl,FS.kind⟩
     cases hq:oI (F5 [] fx (ai st) N (tr S 40 none (ai st) N) (rH (ai st) N (tr S 40 none (ai st) N) 40) 10) (rH (ai st) N (tr S 40 none (ai st) N) 40) body with
     | none=>exact IF
     | some xg=>exact Jo C' B hf hi hx hp (λc hcl=>by cases hcl) hq
    ·intro c d hcd;have hcd':=hcd;unfold ku at hcd';split at hcd'
     ·rename_i hc;let⟨z,hz,rfl⟩:=List.mem_map.mp (List.contains_iff_mem.mp (List.all_eq_true.mp hns c (List.contains_iff_mem.mp hc)));refine⟨λC hC=>?_,⟨z.2,M.at_ z hz⟩,AC (R z.1 d hcd) C.room (C.gl hgR) (by decide) hiN' hloc hloc hnd⟩;have:=M.at_ z hz;rw[show mg z.1=some (.ref C) from hC] at this;cases this;exact M.xm z hz
     ·cases hcd'
   ·cases t
  ·cases t
 unfold aY at hd;let⟨o,ho,hd⟩:=ag hd;refine⟨_,(key _ rfl ⟨rfl,FS.nd,λy kd hy=>.inl hy,rfl,λ_ _=>rfl,hr,rfl,FS.kind⟩ HF H).nox,HF,_,o,tP sm tb rr,ho,?_⟩;cases o with
 | rt d'=>cases hd;exactλv H' HF' G r=>q v H' HF' G r
 | nx ρ'=>cases hd;exactλσ' H' HF' S' _=>q .non H' HF' S'.gr (by simp[Rep])
end
end Ex
namespace Hd
open PySem L2 Dl PySem.Spec PyProof.Rows
section
variable {K:W.Frag}
def NV{st:Stmt}(hb:lQ st ps)(a:W.nsIn K mainGlobals x=some (some (.ref f)))(l:K.lookup f=some (fo x st pm c))(d:W.codeIn K (.ref c) x=true)(k:W.keepIn K (.ref f)=true):gh K x st ps:=Na hb a l d k
end
section
variable {α:Type}{R:List α->Prop}
def vj(h:∀a,R [a])(us:List α)(e:us.length=1):R us:=by
 let⟨a,rfl⟩:=List.length_eq_one_iff.mp e;exact h a
def LU(us:List α)(e:us.length=n+1):∃a r,us=a::r/\r.length=n:=by
 cases us with
 | nil=>cases e
 | cons a r=>exact⟨a,r,rfl,by simpa using e⟩
def Nk(h:∀a b,R [a,b])(us:List α)(e:us.length=2):R us:=by
 let⟨a,r,rfl,e'⟩:=LU us e;exact vj (R:=λr=>R (a::r)) (h a) r e'
def NF(h:∀a b c,R [a,b,c])(us:List α)(e:us.length=3):R us:=by
 let⟨a,r,rfl,e'⟩:=LU us e;exact Nk (R:=λr=>R (a::r)) (h a) r e'
def OR(h:∀a b c d,R [a,b,c,d])(us:List α)(e:us.length=4):R us:=by
 let⟨a,r,rfl,e'⟩:=LU us e;exact NF (R:=λr=>R (a::r)) (h a) r e'
end
section
variable {K:W.Frag}
def f1(f c:Addr)(pm:Value){st:Stmt}(hb:lQ st ps:=by exactλ_ _ _ _ _ _ _ _ us hl=>vj (R:=λus=>bindArgs _ ⟨us,[]⟩=pure (List.zip _ us)) (λ_=>rfl) us hl)(a:W.nsIn K mainGlobals x=some (some (.ref f)):=by kernel_rfl)(l:K.lookup f=some (fo x st pm c):=by kernel_rfl)(d:W.codeIn K (.ref c) x=true:=by kernel_rfl)(k:W.keepIn K (.ref f)=true:=by kernel_rfl):gh K x st ps:=NV hb a l d k
def f2(f c:Addr)(pm:Value){st:Stmt}(hb:lQ st ps:=by exactλ_ _ _ _ _ _ _ _ us hl=>Nk (R:=λus=>bindArgs _ ⟨us,[]⟩=pure (List.zip _ us)) (λ_ _=>rfl) us hl)(a:W.nsIn K mainGlobals x=some (some (.ref f)):=by kernel_rfl)(l:K.lookup f=some (fo x st pm c):=by kernel_rfl)(d:W.codeIn K (.ref c) x=true:=by kernel_rfl)(k:W.keepIn K (.ref f)=true:=by kernel_rfl):gh K x st ps:=NV hb a l d k
def f3(f c:Addr)(pm:Value){st:Stmt}(hb:lQ st ps:=by exactλ_ _ _ _ _ _ _ _ us hl=>NF (R:=λus=>bindArgs _ ⟨us,[]⟩=pure (List.zip _ us)) (λ_ _ _=>rfl) us hl)(a:W.nsIn K mainGlobals x=some (some (.ref f)):=by kernel_rfl)(l:K.lookup f=some (fo x st pm c):=by kernel_rfl)(d:W.codeIn K (.ref c) x=true:=by kernel_rfl)(k:W.keepIn K (.ref f)=true:=by kernel_rfl):gh K x st ps:=NV hb a l d k
def f4(f c:Addr)(pm:Value){st:Stmt}(hb:lQ st ps:=by exactλ_ _ _ _ _ _ _ _ us hl=>OR (R:=λus=>bindArgs _ ⟨us,[]⟩=pure (List.zip _ us)) (λ_ _ _ _=>rfl) us hl)(a:W.nsIn K mainGlobals x=some (some (.ref f)):=by kernel_rfl)(l:K.lookup f=some (fo x st pm c):=by kernel_rfl)(d:W.codeIn K (.ref c) x=true:=by kernel_rfl)(k:W.keepIn K (.ref f)=true:=by kernel_rfl):gh K x st ps:=NV hb a l d k
end
end Hd
namespace Rg
open PySem L2 Dl Rf Ex PySem.Spec PyProof.Rows
abbrev FT:=List (Str×Nat×(List D->Option D))
def Ej(st:Stmt):List Str:=((ai st).names.filter λy=>y.2 == .local || y.2 == .cell).map (·.1)
structure Ok(P:Program)(w:World)(K:W.Frag)(mg:Str->Option Value)(base:Heap)(is:List (Str×D))(cl:List Str)(j:Nat)(l:FT)(fx:XT):Prop where
 of:j8 P w K mg base j l
 ox:oH P w K mg base j fx
 oi:dy mg is
 ob:∀x∈cw,mg x=none
 oc:ES K mg cl
 os:∃h:Heap,K.In h/\h.Ns mainGlobals mg
section
variable {K:W.Frag}{st:Stmt}{l:FT}
def up(h:Ok P w K mg base is cl j l fx)(e:j<=k):Ok P w K mg base is cl k l fx:=⟨λx n m z=>(h.of x n m z).mono e,λx n m z=>(h.ox x n m z).mono e,h.oi,h.ob,h.oc,h.os⟩
def M5(h:Ok P w K mg base is cl j l fx)(F:Fm P w K mg base j x n m):Ok P w K mg base is cl j ((x,n,m)::l) fx:=⟨Nb F h.of,h.ox,h.oi,h.ob,h.oc,h.os⟩
def OC(h:Ok P w K mg base is cl j l fx)(F:Hu P w K mg base j x n m):Ok P w K mg base is cl j l ((x,n,m)::fx):=⟨h.of,xm F h.ox (yJ j),h.oi,h.ob,h.oc,h.os⟩
def Of(h:Ok P w K mg base is cl j l fx)(D:gh K x st ps):uY K mg x st ps:=let ⟨_,a,b⟩:=h.os;D.mg a b
def fst(a:sc.kind=.function:=by kernel_rfl)(b:sc.isCoroutine=false:=by kernel_rfl)(c:sc.isGenerator=false:=by kernel_rfl)(d:N.Nodup:=by decide +kernel)(e:N.take P.length=P:=by kernel_rfl)(f:∀x∈P,sc.names.lookup x=some .local \/ sc.names.lookup x=some .cell:=by decide +kernel)(g:∀y∈sc.names,y.2≠.free:=by decide +kernel):b9 N P sc:=⟨a,b,c,d,e,f,g⟩
abbrev HW(st:Stmt)(n:Nat):List Str:=(Ej st).take n
def on(st:Stmt)(D:gh K x st (HW st n))(h:Ok P w K mg base is cl j l fx)(t:tW st (Ej st) ⟨l,is⟩ none=some g:=by kernel_rfl)(F:b9 (Ej st) (HW st n) (ai st):=by exact fst)(e:(HW st n).length=n:=by kernel_rfl)(e':(Ej st).length=k:=by kernel_rfl):Ok P w K mg base is cl (j+1) ((x,n,aY g k)::l) fx:=by
 have:=M5 (up h (Nat.le_succ j)) (Qg (Of h D) F h.ob h.of h.oi t);rw[e,e'] at this;exact this
def ox(st:Stmt)(D:gh K x st (HW st n))(h:Ok P w K mg base is cl j l fx)(t:tW st (Ej st) ⟨l,is⟩ none=some g:=by kernel_rfl)(tx:Pt st (Ej st) ⟨l,is⟩ fx cl=some xg:=by kernel_rfl)(F:b9 (Ej st) (HW st n) (ai st):=by exact fst)(e:(HW st n).length=n:=by kernel_rfl)(e':(Ej st).length=k:=by kernel_rfl):Ok P w K mg base is cl (j+1) ((x,n,aY g k)::l) ((x,n,oa xg k)::fx):=by
 have:=N9 (Of h D) h.ob h.of h.oi h.ox h.oc tx F;rw[e,e'] at this;exact OC (on st D h t F e e') this
def ot(st:Stmt)(D:gh K x st (HW st n))(M:rg K mg Fa cs)(R:{j:Nat}->∀c d,ku ns c=some d->yk P w K mg base j "_law_refused" c d)(h:Ok P w K mg base is cl j l fx)(t:Ow st (Ej st) ⟨l,is⟩ fx ns=some g:=by kernel_rfl)(hns:(ns.all λc=>(cs.map Prod.fst).contains c)=true:=by decide +kernel)(F:b9 (Ej st) (HW st n) (ai st):=by exact fst)(e:(HW st n).length=n:=by kernel_rfl)(e':(Ej st).length=k:=by kernel_rfl):Ok P w K mg base is cl (j+1) ((x,n,aY g k)::l) fx:=by
 have:=M5 (up h (Nat.le_succ j)) (MI (Of h D) h.ob M h.of h.oi h.ox R hns t F);rw[e,e'] at this;exact this
end
end Rg
namespace Pg
open PySem L2 Dl PySem.Spec PyProof.Rows
def nG:ar->Option Out:=(ax (gx (ib (bf (fB (Jc "int" (ae 0)))) (fB (Jc "bool" (ae 0)))) (aO (fC (.bool false))) fH) (aO (iH Ag Ag (ae 1) (ae 0) (ae 2))))
def ba:List D->Option D:=aY nG 3
def mw:ar->Option Out:=(aO (ah 3 ba (aa (ae 0) (aa (fC (.int 0)) (aa (f2 Dl.jw (ae 1) (fC (.int 1))) af)))))
def cv:List D->Option D:=aY mw 2
def pJ:ar->Option Out:=(aO (i9 (Jc "tuple" (ae 0)) (iH Ag Ag (ae 1) (aU bE (aa (ae 0) af)) (ae 2))))
def bA:List D->Option D:=aY pJ 3
def ma:ar->Option Out:=(ax (gx (bf (fB (Jc "tuple" (ae 0)))) (aO (fC (.bool false))) fH) (ax (gx (bf (fB (aU kf (aa (bM (aw 1 [1] (aM (ae 0)) (fG 0) (λ_=>some true) (ah 2 cv (aa (ae 0) (aa (ae 1) af))))) af)))) (aO (fC (.bool false))) fH) (aO (f2 bj (f1 iV (ae 0)) (aU bE (aa (ae 0) af))))))
def fK:List D->Option D:=aY ma 2
def tT:ar->Option Out:=(aO (i9 (ah 3 bA (aa (ae 0) (aa (fC (.int 2)) (aa (fC (.int 2)) af)))) (i9 (ah 3 ba (aa (f2 aF (ae 0) (fC (.int 0))) (aa (fC (.int 0)) (aa (fC (.int 9)) af)))) (ah 2 fK (aa (f2 aF (ae 0) (fC (.int 1))) (aa (ae 1) af))))))
def eF:List D->Option D:=aY tT 2
def ue:ar->Option Out:=(ax (gx (bf (fB (ah 3 bA (aa (ae 0) (aa (fC (.int 3)) (aa (fC (.int 3)) af)))))) (aO (fC (.bool false))) fH) (aO (i9 (ah 2 cv (aa (f2 aF (ae 0) (fC (.int 0))) (aa (ae 1) af))) (i9 (ah 2 cv (aa (f2 aF (ae 0) (fC (.int 1))) (aa (ae 2) af))) (ah 3 ba (aa (f2 aF (ae 0) (fC (.int 2))) (aa (fC (.int 1)) (aa (fC (.int 9)) af))))))))
def iL:List D->Option D:=aY ue 3
def ml:ar->Option Out:=(ax (gx (ib (bf (fB (ah 3 bA (aa (ae 0) (aa (fC (.int 1)) (aa (fC (.int 4)) af)))))) (bf (fB (ah 3 bA (aa (ae 1) (aa (fC (.int 1)) (aa (fC (.int 4)) af))))))) (aO (fC (.bool false))) fH) (ax (gx (bf (fB (aU kf (aa (bM (aw 1 [1] (aM (ae 0)) (fG 0) (λ_=>some true) (ah 2 eF (aa (ae 0) (aa (aU bE (aa (ae 1) af)) af))))) af)))) (aO (fC (.bool false))) fH) (ax (gx (bf (fB (aU kf (aa (bM (aw 1 [0] (aM (ae 1)) (fG 0) (λ_=>some true) (ah 2 eF (aa (ae 0) (aa (aU bE (aa (ae 1) af)) af))))) af)))) (aO (fC (.bool false))) fH) (aO (i9 (Jc "tuple" (ae 2)) (aU kf (aa (bM (aw 1 [0,1] (aM (ae 2)) (fG 0) (λ_=>some true) (ah 3 iL (aa (ae 0) (aa (aU bE (aa (ae 1) af)) (aa (aU bE (aa (ae 2) af)) af)))))) af)))))))
def fN:List D->Option D:=aY ml 3
def jg:ar->Option Out:=(ax (bz 1 [] (du af)) (ax (dh [0] (dI (aa (ae 0) af)) (dk 2 3) (oK 1 [2,3] (aw 1 [2] (aM (f2 aF (ae 3) (fC (.int 1)))) (fG 0) (λ_=>some true) (aP (aa (ae 1) (aa (ae 0) af)))))) (aO (ae 1))))
def bp:List D->Option D:=aY jg 4
def gV:ar->Option Out:=(ax (gx (ib (bf (fB (ah 3 bA (aa (ae 0) (aa (fC (.int 3)) (aa (fC (.int 3)) af)))))) (bf (fB (ah 3 fN (aa (f2 aF (ae 0) (fC (.int 0))) (aa (f2 aF (ae 0) (fC (.int 1))) (aa (f2 aF (ae 0) (fC (.int 2))) af))))))) (aO (fC (.bool false))) fH) (ax (bz 1 [0] (aw 1 [] (aM (f2 aF (ae 0) (fC (.int 2)))) (fG 0) (λ_=>some true) (aP (aa (f2 aF (ae 0) (fC (.int 0))) (aa (f2 aF (ae 0) (fC (.int 1))) af))))) (ax (bz 2 [0] (eQ fA (aa (ah 1 bp (aa (f2 aF (ae 0) (fC (.int 0))) af)) af))) (ax (bz 3 [0] (eQ fA (aa (bM (aw 2 [] (aM (ah 1 bp (aa (f2 aF (ae 0) (fC (.int 1))) af))) (mC 0 1) (λ_=>some true) (aP (aa (ae 1) (aa (ae 0) af))))) af))) (aO (i9 (f2 bj (ae 1) (ae 2)) (f2 bj (ae 1) (ae 3))))))))
def aN:List D->Option D:=aY gV 4
def dC:ar->Option Out:=(gx (bf (fB (ah 1 aN (aa (ae 0) af)))) Cm fH)
def aW:List D->Option D:=aY dC 1
def ck:ar->Option Out:=(gx (bf (fB (ah 3 ba (aa (ae 0) (aa (ae 1) (aa (ae 2) af)))))) Cm fH)
def fU:List D->Option D:=aY ck 3
def bU:ar->Option Out:=(gJ (ah 3 fU (aa (ae 0) (aa (fC (.int 0)) (aa (f2 Dl.jw (ae 1) (fC (.int 1))) af)))))
def eJ:List D->Option D:=aY bU 2
def d9:ar->Option Out:=(gJ (ah 2 eJ (aa (ae 0) (aa (fC (.int 2)) af))))
def ko:List D->Option D:=aY d9 1
def ir:ar->Option Out:=(ax (gx (fB (f2 bj (ae 0) (bM (du af)))) (aO (f2 eL (fC (.int 7)) (ae 1))) fH) (aO (f2 aB (f2 aF (ae 0) (f2 jr (ae 1) (aU bE (aa (ae 0) af)))) (f2 eL (fC (.int 6553)) (f2 lx (ae 1) (aU bE (aa (ae 0) af)))))))
def dH:List D->Option D:=aY ir 2
def j7:ar->Option Out:=(ax (aS 3 [0,1] (f2 jr (f2 aB (f2 eL (f2 jr (ah 2 dH (aa (ae 0) (aa (ae 1) af))) (fC (.int 2147483563))) (fC (.int 69069))) (f2 eL (fC (.int 104723)) (f2 aB (ae 1) (fC (.int 1))))) (fC (.int 2147483563)))) (ax (aS 3 [3] (f2 jr (f2 aB (f2 eL (ae 3) (ae 3)) (f2 lx (ae 3) (fC (.int 3)))) (fC (.int 2147483399)))) (aO (f2 jr (f2 lx (f2 jr (f2 aB (f2 eL (ae 3) (ae 3)) (f2 lx (ae 3) (fC (.int 7)))) (fC (.int 2147483647))) (fC (.int 11))) (ae 2)))))
def aj:List D->Option D:=aY j7 4
def p9:ar->Option Out:=(aO (aU nr (aa (bM (aw 2 [2,3] (cO (aa (f2 aF (ae 0) (fC (.int 2))) (aa (ae 1) af))) (mC 0 1) (fB (f2 bj (f2 aF (ae 0) (ae 2)) (ae 3))) (ae 1))) af)))
def gC:List D->Option D:=aY p9 4
def ia:ar->Option Out:=(aO (aU kf (aa (bM (aw 2 [0,1,2] (dI (aa (f2 aF (ae 0) (ae 2)) af)) (mC 0 1) (λ_=>some true) (f2 Ag (ah 4 gC (aa (ae 2) (aa (ae 3) (aa (ae 4) (aa (ae 0) af))))) (f2 aF (ae 1) (fC (.int 0)))))) af)))
def cH:List D->Option D:=aY ia 3
def gE:ar->Option Out:=(ax (aS 2 [0] (f2 aF (ae 0) (fC (.int 2)))) (ax (gx (bf (fB (ah 3 bA (aa (ae 1) (aa (aU bE (aa (ae 2) af)) (aa (aU bE (aa (ae 2) af)) af)))))) (aO (fC (.bool false))) fH) (ax (gx (bf (fB (aU kf (aa (bM (aw 2 [] (cO (aa (ae 2) (aa (ae 1) af))) (mC 0 1) (λ_=>some true) (ah 3 ba (aa (ae 1) (aa (fC (.int 0)) (aa (f2 aF (ae 0) (fC (.int 2))) af)))))) af)))) (aO (fC (.bool false))) fH) (aO (i9 (ah 3 cH (aa (ae 0) (aa (ae 1) (aa (fC (.int 0)) af)))) (ah 3 cH (aa (ae 0) (aa (ae 1) (aa (fC (.int 1)) af)))))))))
def bN:List D->Option D:=aY gE 3
def ej:ar->Option Out:=(ax (gJ (ah 1 aW (aa (ae 0) af))) (gx (bf (fB (ah 2 bN (aa (ae 0) (aa (ae 1) af))))) Cm fH))
def cy:List D->Option D:=aY ej 2
def mq:ar->Option Out:=(aO (aU nr (aa (bM (aw 2 [2,3] (cO (aa (ae 1) (aa (f2 aF (ae 0) (fC (.int 2))) af))) (mC 0 1) (fB (f2 bj (f2 aF (ae 1) (ae 2)) (ae 3))) (ae 0))) af)))
def dN:List D->Option D:=aY mq 4
def iO:ar->Option Out:=(ax (dh [] (dc (aa (fC (.int 2)) af)) (p8 2) (dh [0,2] (dI (aa (f2 aF (ae 0) (ae 2)) af)) (dk 3 4) (gx (fB (f2 uL (ah 4 dN (aa (ae 0) (aa (ae 1) (aa (ae 2) (aa (ae 3) af))))) (f2 aF (ae 4) (fC (.int 0))))) (aO (fC (.bool false))) fH))) (aO (fC (.bool true))))
def dO:List D->Option D:=aY iO 5
def ik:ar->Option Out:=(ax (aS 3 [] (aP af)) (ax (dh [2] (dI (aa (f2 aF (ae 2) (fC (.int 2))) af)) (dk 4 5) (ax (aS 6 [0,1,3,4,5] (f2 aB (ae 3) (aP (aa (ah 3 aj (aa (ae 0) (aa (f2 aB (ae 1) (ae 4)) (aa (f2 aB (f2 aF (ae 5) (fC (.int 2))) (fC (.int 1))) af)))) af)))) (ax (aS 7 [2,6] (ah 2 dO (aa (ae 2) (aa (f2 aB (ae 6) (f2 eL (aP (aa (fC (.int 0)) af)) (f2 Dl.jw (aU bE (aa (f2 aF (ae 2) (fC (.int 2))) af)) (aU bE (aa (ae 6) af))))) af)))) (aS 3 [3,6,7] (BN (fB (ae 7)) (ae 6) (f2 aB (ae 3) (aP (aa (fC (.int 0)) af)))))))) (aO (ae 3))))
def mh:List D->Option D:=aY ik 8
open PySem L2 Dl PySem.Spec PyProof.Rows Ex
def oq:XS:=(FK (bf (fB (ah 1 aN (aa (ae 0) af)))) (Nn "NoWorld") jt)
def bq:List D->Option Str:=oa oq 1
def oE:XS:=(hU (ja (pY 1 bq (aa (ae 0) af))) (gJ (ah 1 aW (aa (ae 0) af))) (FK (bf (fB (ah 2 bN (aa (ae 0) (aa (ae 1) af))))) (Nn "NoPlan") jt))
def cW:List D->Option Str:=oa oE 2
def oo:XS:=(FK (bf (fB (ah 3 ba (aa (ae 0) (aa (ae 1) (aa (ae 2) af)))))) (Nn "NoPlace") jt)
def je:List D->Option Str:=oa oo 3
def mK:XS:=(ja (pY 3 je (aa (ae 0) (aa (fC (.int 0)) (aa (f2 Dl.jw (ae 1) (fC (.int 1))) af)))))
def iF:List D->Option Str:=oa mK 2
def oW:XS:=(ja (pY 2 iF (aa (ae 0) (aa (fC (.int 2)) af))))
def qq:List D->Option Str:=oa oW 1
open PySem L2 Dl Ex Rf PySem.Spec PyProof.Rows
def hZ:ar->Option Out:=(aO (f2 j5 (fC (.str "")) (bM (aw 1 [] (aM (ae 0)) (fG 0) (λ_=>some true) (f2 az (ae 0) (fC (.str "\n")))))))
def cf:List D->Option D:=aY hZ 1
def nW:ar->Option Out:=(ax (aS 1 [0] (bM (pU dZ (ae 0) (fC (.str "\n"))))) (ax (gx (fB (f2 dM (f2 aF (ae 1) (f1 B7 (fC (.int 1)))) (fC (.str "")))) Cm fH) (aO (cC bJ (ae 1) cZ (lh (f1 B7 (fC (.int 1))))))))
def eH:List D->Option D:=aY nW 2
def pM:ar->Option Out:=(aO (f2 j5 (fC (.str " ")) (bM (aw 1 [] (aM (ae 0)) (fG 0) (λ_=>some true) (aU cn (aa (ae 0) af))))))
def cQ:List D->Option D:=aY pM 1
def l5:ar->Option Out:=(ax (gx (ib (fB (f2 dM (aU l8 (aa (ae 0) af)) (fC (.int 1)))) (fB (f2 (λx y=>(Ds x y).map PyData.bool) (ae 0) (fC (.str "0123456789"))))) Cm fH) (aO (f2 nI (fC (.str "0123456789")) (ae 0))))
def dJ:List D->Option D:=aY l5 1
def ky:ar->Option Out:=(aO (aU cm (aa (bM (aw 1 [] (aM (ae 0)) (fG 0) (λ_=>some true) (ah 1 dJ (aa (ae 0) af)))) af)))
def cU:List D->Option D:=aY ky 1
def nJ:ar->Option Out:=(aO (ah 1 cQ (aa (bM (pU gF (bM (du (aa (ae 0) (aa (f2 aF (ae 1) (fC (.int 0))) af)))) (bM (eQ br (aa (f2 aF (ae 1) (fC (.int 1))) af))))) af)))
def b8:List D->Option D:=aY nJ 2
def dU:ar->Option Out:=(ax (bz 1 [0] (aw 1 [] (aM (f2 aF (ae 0) (fC (.int 0)))) (fG 0) (λ_=>some true) (ah 2 b8 (aa (fC (.str "give")) (aa (ae 0) af))))) (ax (oK 1 [0] (aw 1 [] (aM (f2 aF (ae 0) (fC (.int 1)))) (fG 0) (λ_=>some true) (ah 2 b8 (aa (fC (.str "take")) (aa (ae 0) af))))) (ax (oK 1 [0] (aw 1 [] (aM (f2 aF (ae 0) (fC (.int 2)))) (fG 0) (λ_=>some true) (ah 1 cQ (aa (bM (pU gF (bM (du (aa (fC (.str "way")) af))) (bM (eQ br (aa (ae 0) af))))) af)))) (aO (ah 1 cf (aa (ae 1) af))))))
def cg:List D->Option D:=aY dU 2
def iz:ar->Option Out:=(ax (aS 2 [0] (f2 aF (ae 0) (fC (.int 0)))) (ax (aS 3 [0] (f2 aF (ae 0) (fC (.int 1)))) (aO (GM [(f1 Bj (ae 2)),(fC (.str " -")),(f1 Bj (ae 1)),(fC (.str "> ")),(f1 Bj (ae 3))] Str.empty))))
def bG:List D->Option D:=aY iz 4
def eN:ar->Option Out:=(aO (ah 1 cf (aa (bM (aw 2 [] (cO (aa (f2 aF (ae 0) (fC (.int 2))) (aa (ae 1) af))) (mC 0 1) (fB (f2 uL (ae 1) (fC (.int 0)))) (ah 2 bG (aa (ae 0) (aa (ae 1) af))))) af)))
def cu:List D->Option D:=aY eN 2
def kl:ar->Option Out:=(ax (gJ (ah 1 aW (aa (ae 0) af))) (aO (ah 1 cg (aa (ae 0) af))))
def bH:List D->Option D:=aY kl 1
def oQ:XS:=(ja (pY 1 bq (aa (ae 0) af)))
def cT:List D->Option Str:=oa oQ 1
def mj:ar->Option Out:=(ax (gJ (ah 2 cy (aa (ae 0) (aa (ae 1) af)))) (aO (ah 2 cu (aa (ae 0) (aa (ae 1) af)))))
def bX:List D->Option D:=aY mj 2
def sv:XS:=(ja (pY 2 cW (aa (ae 0) (aa (ae 1) af))))
def fw:List D->Option Str:=oa sv 2
def lX:ar->Option Out:=(ax (bz 2 [0] (aw 1 [] (aM (ae 0)) (fG 0) (λ_=>some true) (bM (pU dZ (ae 0) (fC (.str " ")))))) (aO (bM (aw 1 [1] (aM (ae 2)) (fG 0) (fB (f2 bj (f2 aF (ae 0) (fC (.int 0))) (ae 1))) (ah 1 cU (aa (cC bJ (ae 0) (lh (fC (.int 1))) cZ) af))))))
def dg:List D->Option D:=aY lX 3
def lO:ar->Option Out:=(aO (aU cm (aa (bM (aw 1 [] (aM (ah 2 dg (aa (ae 0) (aa (ae 1) af)))) (fG 0) (fB (f2 uL (aU bE (aa (ae 0) af)) (fC (.int 0)))) (aP (aa (f2 aF (ae 0) (fC (.int 0))) (aa (cC bJ (ae 0) (lh (fC (.int 1))) cZ) af))))) af)))
def dv:List D->Option D:=aY lO 2
def gM:ar->Option Out:=(ax (aS 1 [0] (ah 1 eH (aa (ae 0) af))) (ax (aS 2 [1] (aP (aa (ah 2 dv (aa (ae 1) (aa (fC (.str "give")) af))) (aa (ah 2 dv (aa (ae 1) (aa (fC (.str "take")) af))) (aa (aU cm (aa (ah 2 dg (aa (ae 1) (aa (fC (.str "way")) af))) af)) af))))) (ax (gx (ib (bf (fB (ah 1 aN (aa (ae 2) af)))) (fB (f2 dM (ah 1 cg (aa (ae 2) af)) (ae 0)))) Cm fH) (aO (ae 2)))))
def ee:List D->Option D:=aY gM 3
def fR:ar->Option Out:=(ax (uf 1) (ax (dh [0] (dI (aa (f2 aF (ae 0) (fC (.int 2))) af)) (dk 2 3) (dh [3] (iP (aa (fC (.int 1)) (aa (f2 aB (f2 aF (ae 3) (fC (.int 2))) (fC (.int 1))) af))) (p8 4) (um 1 (ah 2 bG (aa (ae 3) (aa (ae 4) af))) (aP (aa (ae 2) (aa (ae 4) af)))))) (aO (ae 1))))
def dF:List D->Option D:=aY fR 5
def ig:ar->Option Out:=(ax (gJ (ah 1 aW (aa (ae 0) af))) (ax (aS 2 [0] (ah 1 dF (aa (ae 0) af))) (ax (bz 3 [0] (aw 1 [] (aM (f2 aF (ae 0) (fC (.int 2)))) (fG 0) (λ_=>some true) (fC (.int 0)))) (ax (dh [1] (aM (ah 1 eH (aa (ae 1) af))) (p8 4) (ax (gx (fB (f2 DH (ae 4) (ae 2))) Cm fH) (ax (aS 5 [2,4] (f2 pL (ae 2) (ae 4))) (Bg 3 [5] (f2 aF (ae 5) (fC (.int 0))) (f2 aF (ae 5) (fC (.int 1))))))) (ax (aS 6 [3] (aU cm (aa (ae 3) af))) (ax (gx (ib (bf (fB (ah 2 bN (aa (ae 0) (aa (ae 6) af))))) (fB (f2 dM (ah 2 cu (aa (ae 0) (aa (ae 6) af))) (ae 1)))) Cm fH) (aO (ae 6))))))))
def bY:List D->Option D:=aY ig 7
def rM:XS:=(ja (pY 1 bq (aa (ae 0) af)))
def fE:List D->Option Str:=oa rM 7
def iB:ar->Option Out:=(ax (aS 2 [0,1] (f2 aB (fC (.int 1)) (ah 3 aj (aa (ae 0) (aa (ae 1) (aa (fC (.int 4)) af)))))) (ax (aS 3 [0,1] (f2 aB (fC (.int 1)) (ah 3 aj (aa (ae 0) (aa (f2 aB (ae 1) (fC (.int 1))) (aa (fC (.int 4)) af)))))) (ax (bz 4 [] (du af)) (ax (dh [2,3] (dc (aa (f2 eL (ae 2) (ae 3)) af)) (p8 5) (gx (fB (f2 bj (ah 3 aj (aa (ae 0) (aa (f2 aB (f2 aB (ae 1) (fC (.int 2))) (ae 5)) (aa (fC (.int 2)) af)))) (fC (.int 0)))) (oG 4 [0,1,3,5] (aP (aa (f2 lx (ae 5) (ae 3)) (aa (f2 jr (ae 5) (ae 3)) (aa (f2 aB (fC (.int 1)) (ah 3 aj (aa (ae 0) (aa (f2 aB (f2 aB (ae 1) (fC (.int 20))) (ae 5)) (aa (fC (.int 9)) af))))) af))))) fH)) (ax (bz 6 [] (du af)) (ax (dh [2] (dc (aa (ae 2) af)) (p8 7) (ax (aS 8 [4,7] (aU cm (aa (bM (aw 1 [7] (aM (ae 4)) (fG 0) (fB (f2 bj (f2 aF (ae 0) (fC (.int 0))) (ae 1))) (f2 aF (ae 0) (fC (.int 1))))) af))) (ax (aS 9 [0,1,7,8] (ah 3 aj (aa (ae 0) (aa (f2 aB (f2 aB (ae 1) (fC (.int 40))) (ae 7)) (aa (f2 aB (aU bE (aa (ae 8) af)) (fC (.int 1))) af))))) (oG 6 [0,1,7,8,9] (aP (aa (ah 3 aj (aa (ae 0) (aa (f2 aB (f2 aB (ae 1) (fC (.int 44))) (ae 7)) (aa (fC (.int 10)) af)))) (aa (f2 aB (cC bJ (ae 8) (lh (ae 9)) cZ) (f1 ou (cC bJ (ae 8) cZ (lh (ae 9))))) af))))))) (ax (bz 10 [] (du af)) (ax (dh [3] (dc (aa (ae 3) af)) (p8 11) (ax (aS 8 [4,11] (aU cm (aa (bM (aw 1 [11] (aM (ae 4)) (fG 0) (fB (f2 bj (f2 aF (ae 0) (fC (.int 1))) (ae 1))) (f2 aF (ae 0) (fC (.int 0))))) af))) (ax (aS 9 [0,1,8,11] (ah 3 aj (aa (ae 0) (aa (f2 aB (f2 aB (ae 1) (fC (.int 50))) (ae 11)) (aa (f2 aB (aU bE (aa (ae 8) af)) (fC (.int 1))) af))))) (oG 10 [0,1,8,9,11] (aP (aa (ah 3 aj (aa (ae 0) (aa (f2 aB (f2 aB (ae 1) (fC (.int 54))) (ae 11)) (aa (fC (.int 10)) af)))) (aa (f2 aB (cC bJ (ae 8) (lh (ae 9)) cZ) (f1 ou (cC bJ (ae 8) cZ (lh (ae 9))))) af))))))) (aO (aP (aa (aU cm (aa (ae 6) af)) (aa (aU cm (aa (ae 10) af)) (aa (aU cm (aa (ae 4) af)) af)))))))))))))
def ft:List D->Option D:=aY iB 12
def mH:ar->Option Out:=(aO (aU nr (aa (bM (aw 2 [2,3] (cO (aa (ae 1) (aa (f2 aF (ae 0) (fC (.int 2))) af))) (mC 0 1) (fB (f2 bj (f2 aF (ae 1) (ae 2)) (ae 3))) (ae 0))) af)))
def g9:List D->Option D:=aY mH 4
def mF:ar->Option Out:=(ax (dh [] (dc (aa (fC (.int 2)) af)) (p8 2) (dh [0,2] (dI (aa (f2 aF (ae 0) (ae 2)) af)) (dk 3 4) (gx (fB (f2 uL (ah 4 g9 (aa (ae 0) (aa (ae 1) (aa (ae 2) (aa (ae 3) af))))) (f2 aF (ae 4) (fC (.int 0))))) (aO (fC (.bool false))) fH))) (aO (fC (.bool true))))
def dX:List D->Option D:=aY mF 5
def lq:ar->Option Out:=(ax (bz 1 [] (du (aa (aP af) af))) (ax (dh [0] (aM (f2 aF (ae 0) (fC (.int 2)))) (p8 2) (ax (bz 3 [] (du af)) (ax (dh [1] (aM (ae 1)) (p8 4) (bz 3 [2,3,4] (pU gF (ae 3) (bM (aw 1 [4] (dc (aa (f2 aB (f2 aF (ae 2) (fC (.int 2))) (fC (.int 1))) af)) (fG 0) (λ_=>some true) (f2 aB (ae 1) (aP (aa (ae 0) af)))))))) (aS 1 [3] (ae 3))))) (aO (bM (aw 1 [0] (aM (ae 1)) (fG 0) (fB (ah 2 dX (aa (ae 1) (aa (ae 0) af)))) (ae 0))))))
def lL:List D->Option D:=aY lq 5
def mM:ar->Option Out:=(ax (aS 3 [] (aP af)) (ax (dh [2] (dI (aa (f2 aF (ae 2) (fC (.int 2))) af)) (dk 4 5) (ax (aS 6 [0,1,3,4,5] (f2 aB (ae 3) (aP (aa (ah 3 aj (aa (ae 0) (aa (f2 aB (ae 1) (ae 4)) (aa (f2 aB (f2 aF (ae 5) (fC (.int 2))) (fC (.int 1))) af)))) af)))) (ax (aS 7 [2,6] (ah 2 dX (aa (ae 2) (aa (f2 aB (ae 6) (f2 eL (aP (aa (fC (.int 0)) af)) (f2 Dl.jw (aU bE (aa (f2 aF (ae 2) (fC (.int 2))) af)) (aU bE (aa (ae 6) af))))) af)))) (aS 3 [3,6,7] (BN (fB (ae 7)) (ae 6) (f2 aB (ae 3) (aP (aa (fC (.int 0)) af)))))))) (aO (ae 3))))
def cG:List D->Option D:=aY mM 8
def mO:ar->Option Out:=(sS (ax (gx (fB (f2 bj (ae 0) (fC (.int 0)))) (aO (ah 1 bH (aa (ae 1) af))) fH) (aO (BN (fB (f2 bj (ae 0) (fC (.int 1)))) (ah 2 bX (aa (ae 1) (aa (ae 2) af))) (ah 2 bY (aa (ae 1) (aa (ae 2) af)))))) (hU (FK (fB (f2 bj (ae 0) (fC (.int 0)))) (ja (pY 1 cT (aa (ae 1) af))) jt) (gx (fB (f2 bj (ae 0) (fC (.int 0)))) (aO (ah 1 bH (aa (ae 1) af))) fH) (ja (wD (fB (f2 bj (ae 0) (fC (.int 1)))) (pY 2 fw (aa (ae 1) (aa (ae 2) af))) (pY 2 fE (aa (ae 1) (aa (ae 2) af)))))) (ku ["NoWorld","NoPlan","NoPlace","TooMany","Nothing"]))
def aA:List D->Option D:=aY mO 4
abbrev pE:List Str:=["_law_script","_law_world","_law_plan_here","_law_text","_law_word","_law_side","_law_amount","_law_order","_law_giver","_law_taker","_law_limit","_law_lines","_law_many","_law_way","_law_bad","_law_none"]
def i5:ar->Option Out:=(ax (aS 1 [0] (ah 2 ft (aa (ae 0) (aa (fC (.int 0)) af)))) (ax (aS 2 [0,1] (ah 3 cG (aa (ae 0) (aa (fC (.int 70)) (aa (ae 1) af))))) (ax (aS 3 [] (fC (.str ""))) (ax (dh [1] (aM (aP (aa (aP (aa (fC (.str "give")) (aa (f2 aF (ae 1) (fC (.int 0))) af))) (aa (aP (aa (fC (.str "take")) (aa (f2 aF (ae 1) (fC (.int 1))) af))) af)))) (dk 4 5) (dh [5] (aM (ae 5)) (dk 6 7) (aS 3 [3,4,6,7] (f2 az (f2 az (f2 az (f2 az (f2 az (ae 3) (ae 4)) (fC (.str " "))) (aU cn (aa (ae 6) af))) (f2 j5 (fC (.str "")) (bM (aw 1 [] (aM (ae 7)) (fG 0) (λ_=>some true) (f2 az (fC (.str " ")) (aU cn (aa (ae 0) af))))))) (fC (.str "\n")))))) (ax (dh [1] (aM (f2 aF (ae 1) (fC (.int 2)))) (Be 8 9 10) (aS 3 [3,8,9,10] (f2 az (f2 az (f2 az (f2 az (f2 az (f2 az (f2 az (ae 3) (fC (.str "way "))) (aU cn (aa (ae 8) af))) (fC (.str " "))) (aU cn (aa (ae 9) af))) (fC (.str " "))) (aU cn (aa (ae 10) af))) (fC (.str "\n"))))) (ax (gx (ib (bf (fB (ah 1 aN (aa (ae 1) af)))) (ib (bf (fB (ah 2 bN (aa (ae 1) (aa (ae 2) af))))) (ib (fB (f2 dM (ah 1 bH (aa (ae 1) af)) (ae 3))) (fB (f2 dM (ah 1 ee (aa (ae 3) af)) (ae 1)))))) (aO (fC (.bool false))) fH) (ax (aS 11 [] (fC (.str ""))) (ax (dh [1,2] (cO (aa (ae 2) (aa (f2 aF (ae 1) (fC (.int 2))) af))) (dk 12 13) (gx (fB (f2 uL (ae 12) (fC (.int 0)))) (aS 11 [11,12,13] (f2 az (f2 az (f2 az (f2 az (f2 az (f2 az (ae 11) (aU cn (aa (f2 aF (ae 13) (fC (.int 0))) af))) (fC (.str " -"))) (aU cn (aa (ae 12) af))) (fC (.str "> "))) (aU cn (aa (f2 aF (ae 13) (fC (.int 1))) af))) (fC (.str "\n")))) fH)) (ax (gx (ib (fB (f2 dM (ah 3 aA (aa (fC (.int 1)) (aa (ae 1) (aa (ae 2) af)))) (ae 11))) (fB (f2 dM (ah 3 aA (aa (fC (.int 2)) (aa (ae 1) (aa (ae 11) af)))) (ae 2)))) (aO (fC (.bool false))) fH) (ax (gx (fB (f2 dM (ah 3 aA (aa (fC (.int 2)) (aa (ae 1) (aa (fC (.str "")) af)))) (f2 eL (aP (aa (fC (.int 0)) af)) (aU bE (aa (ae 2) af))))) (aO (fC (.bool false))) fH) (ax (aS 14 [0,2] (f2 aF (bM (du (aa (f2 aB (ae 2) (aP (aa (fC (.int 0)) af))) (aa (fC .none) (aa (bM (eQ br (aa (ae 2) af))) af))))) (ah 3 aj (aa (ae 0) (aa (fC (.int 100)) (aa (fC (.int 3)) af)))))) (ax (aS 15 [0,1] (f2 aF (bM (du (aa (fC .none) (aa (cC bJ (ae 1) cZ (lh (fC (.int 2)))) (aa (cC bJ (f1 ou (ae 1)) cZ (lh (fC (.int 2)))) af))))) (ah 3 aj (aa (ae 0) (aa (fC (.int 101)) (aa (fC (.int 3)) af)))))) (ax (gx (fB (f2 dM (ah 3 aA (aa (fC (.int 1)) (aa (ae 1) (aa (ae 14) af)))) (aP (aa (fC (.str "refused")) (aa (fC (.int 1)) af))))) (aO (fC (.bool false))) fH) (aO (f2 bj (bM (aw 1 [14,15] (dc (aa (fC (.int 3)) af)) (fG 0) (λ_=>some true) (ah 3 aA (aa (ae 0) (aa (ae 2) (aa (ae 1) af)))))) (bM (tM (du (aa (aP (aa (fC (.str "refused")) (aa (fC (.int 0)) af))) af)) (fC (.int 3)))))))))))))))))))
def eA:List D->Option D:=aY i5 16
end Pg
namespace K80
open PySem L2 Dl PySem.Spec PyProof.Rows
open Pg Ex Rg
abbrev Qo:List Str:=["NoWorld","NoPlan","NoPlace","TooMany","Nothing"]
abbrev PX:List Str:=["NoPlan","NoWorld"]
abbrev gi:List (Str×D):=[("MOST_PLACES",.int 4),("MOST",.int 9),("DIGITS",.str "0123456789")]
abbrev Ls:FT:=("_law_told",3,aA)::("_law_plan",3,cG)::("_law_plans",1,lL)::("_law_fits",2,dX)::("_law_used",4,g9)::("_law_wide",2,ft)::("_law_drawn",3,aj)::("_law_cell",2,dH)::("read_plan",2,bY)::("known_lines",1,dF)::("read_world",1,ee)::("ends_of",2,dv)::("rows_of",2,dg)::("plan_text",2,bX)::("world_text",1,bH)::("written_plan",2,cu)::("flow_line",2,bG)::("written_world",1,cg)::("end_line",2,b8)::("numbers_of",1,cU)::("number_of",1,dJ)::("line_of",1,cQ)::("lines_of",1,eH)::("text_of_lines",1,cf)::("check_plan",2,cy)::("check_world",1,aW)::("is_plan",2,bN)::("keeps_amounts",3,cH)::("through",4,gC)::("is_world",1,aN)::("liked_pairs",1,bp)::("are_parts",3,fN)::("is_way",3,iL)::("is_end",2,eF)::("are_likes",2,fK)::("is_long",3,bA)::("is_number",2,cv)::("is_whole",3,ba)::[]
abbrev Xs:XT:=("read_plan",2,fE)::("plan_text",2,fw)::("world_text",1,cT)::("check_plan",2,cW)::("check_world",1,bq)::[]
def Mm:Rf.tW (top 53) pE ⟨Ls,gi⟩ none=some i5:=by kernel_rfl
structure La(K:W.Frag)(mg:Str->Option Value):Prop where
 o:∀P w base,Ok P w K mg base gi PX 38 Ls Xs
 c:uY K mg "law" (top 53) ["_law_script"]
def LY{P:Program}{w:World}{K:W.Frag}{mg:Str->Option Value}{fa:Addr}(D:La K mg)(hfa:mg "law"=some (.ref fa)):∃fd:FuncData,(∀ (s:Shared) (v:Value),BindsTo s fd ⟨[v],[]⟩ [("_law_script",v)])/\∀base:Heap,K.In base->base.Ns mainGlobals mg->mI P w K mg base FD 39 fa fd ["_law_script"] (Nz K 1 eA):=by
 let⟨f,fd,hm,F,hb⟩:=D.c.ex;rw[hfa] at hm;cases hm;refine⟨fd,λs v=>?_,λbase _ _=>IH F (Rf.NW (N:=pE)) λX hP hw hK hm' hb' C _ _ HF H=>by subst hP;subst hw;subst hK;subst hm';subst hb';have o:=D.o X.prog X.w X.base;exact Rf.IK C o.ob o.of o.oi Mm⟩;let⟨oc,od,kV,doc,pm,an,cdv,ct,osl,rfl,lk,hcd⟩:=F.ex;exact .of_eq rfl
def walk{l:W.OpenLaw}{q:Program}{loose:List Str}{XP:(Str->Option Value)->Heap->Prop}{YP:World->Heap->Prop}{d:DefRec}{K:Params->W.Frag}{ts:List Addr}(hn:l.most=some 63)(hdf:d.params.defaults=[])(hname:d.name="law")
  (hY:∀ (w:World) (h:Heap),YP w h->(K w.params).In h/\∀P∈ts,h.get? P=some (W.tabObj #[])) (ht:∀w:World,la (K w.params) ts=true) (hI:∀ (w:World) {h:Heap}{mg:Str->Option Value},(K w.params).In h->h.Ns mainGlobals mg->La (K w.params) mg) (main:∀ns:List Int,ns.length<=63->eA [.list (ns.map PyData.int)]=some (.bool true)) :
  W.WalkO q loose XP YP l.row.toRowW d [] (λf vs=>PySem.call f vs) :=
 Er (n:=63) (k:=39) (x:="_law_script") (CX:=λ_=>FD) (sp:=λw=>Nz (K w.params) 1 eA) hn (by decide) hdf ⟨rfl,by decide,by decide⟩ hY ht (λw mg fa h KX G hmg=>LY (hI w KX G) (by rw[<- hname];exact hmg)) (λ_ _ a ns hl hT hS=>vh hS hT (main ns hl)) λ_ _ _ _ _ z=>z
end K80
namespace Dl
open PySem L2 PySem.Spec PyProof.Rows
def sZ:D->Prop|.none=>True|.bool _=>True|.int _=>True|.str x=>PyData.canLay0 (.str x)=true|_=>False
def gg(b:Nat):Nat->D->Prop
 | 0,d=>sZ d
 | k+1,d=>sZ d\/(∃xs,(d=.list xs\/d=.tuple xs)/\xs.length<=b/\∀x∈xs,gg b k x)
def gg.leaf(h:sZ d):gg b k d:=by
 cases k with
 | zero=>exact h
 | succ k=>exact .inl h
def gg.tup(hb:xs.length<=b)(h:∀x∈xs,gg b k x):gg b (k+1) (.tuple xs):=.inr ⟨xs,.inr rfl,hb,h⟩
def gg.lst(hb:xs.length<=b)(h:∀x∈xs,gg b k x):gg b (k+1) (.list xs):=.inr ⟨xs,.inl rfl,hb,h⟩
def gg.of_tup(h:gg b k (.tuple xs)):∃j,k=j+1/\xs.length<=b/\∀x∈xs,gg b j x:=by
 cases k with
 | zero=>cases h
 | succ k =>
  rcases h with h|⟨ys,h|h,h1,h2⟩
  ·cases h
  ·cases h
  ·cases h;exact⟨k,rfl,h1,h2⟩
def gg.mono(hb:b<=b'):∀ {k k':Nat}{d:D},k<=k'->gg b k d->gg b' k' d
 | 0,k',d,_,h=>.leaf h
 | k+1,0,d,hk,h=>by lia
 | k+1,k'+1,d,hk,h=>by
  rcases h with h|⟨xs,h,h1,h2⟩
  ·exact .inl h
  ·exact .inr ⟨xs,h,yB h1 hb,λx hx=>(h2 x hx).mono hb (by lia)⟩
def zv{b:Nat}:∀ {xs:List D},(∀x∈xs,PyData.canLay0 x=true/\x.depth<=k)->PyData.canLayAll0 xs=true/\PyData.depthAll xs<=k
 | [],_=>⟨by simp[PyData.canLayAll0],by simp[PyData.depthAll]⟩
 | x::xs,h=>by
  let⟨a,c⟩:=zv (b:=b) (xs:=xs) λy hy=>h y (zC _ hy);let⟨a',c'⟩:=h x zE;exact⟨by simp[PyData.canLayAll0,a,a'],by simp[PyData.depthAll];lia⟩
def gg.lay:∀ {k:Nat}{d:D},gg b k d->PyData.canLay0 d=true/\d.depth<=k:=by
 have lf:∀ {k:Nat}{d:D},sZ d->PyData.canLay0 d=true/\d.depth<=k:=λ{k d} h=>by
  cases d<;>simp?[sZ] at h<;>first|exact⟨h,by simp[PyData.depth]⟩|exact⟨by simp[PyData.canLay0],by simp[PyData.depth]⟩
 intro k
 induction k with
 | zero=>exactλh=>lf h
 | succ k ih =>
  intro d h;rcases h with h|⟨xs,h,h1,h2⟩
  ·exact lf h
  ·let⟨a,c⟩:=zv (b:=b) (xs:=xs) λy hy=>ih (h2 y hy);rcases h with rfl|rfl
   ·exact⟨by simp[PyData.canLay0,a],by simp[PyData.depth];lia⟩
   ·exact⟨by simp[PyData.canLay0,a],by simp[PyData.depth];lia⟩
def gg.shaped(h:gg b k d)(hk:k<=64):SeqAt.shaped d=true:=by
 let⟨a,c⟩:=h.lay;simp[SeqAt.shaped,a];lia
def gg.noDict(h:gg b k d):∀kv,d≠.dict kv:=by
 rintro kv rfl;have:=h.lay.1;simp[PyData.canLay0] at this
def iE:D->Bool|.dict _=>false|_=>true
def gg.nd(h:gg b k d):iE d=true:=by
 cases d<;>first|rfl|exact absurd rfl (h.noDict _)
def Px:D->Bool|.int _=>true|.bool _=>true|_=>false
def Ph:D->Bool|.bool _=>true|_=>false
def Jv:D->Bool|.tuple _=>true|_=>false
def kI(h:iE d=true):rz (fS d) "int"=some (Px d):=by cases d<;>first|cases h;done|exact Ik _ (by simp[fS])
def kB(h:iE d=true):rz (fS d) "bool"=some (Ph d):=by cases d<;>first|cases h;done|exact Fp _ (by simp[fS])
def kT(h:iE d=true):rz (fS d) "tuple"=some (Jv d):=by cases d<;>first|cases h;done|exact kit_tuple _ (by simp[fS])
def whole(a b:Int):D->Bool|.int i=>decide (a<=i)&&decide (i<=b)|_=>false
def qb:∀ {ds:List D},(∀d∈ds,∃ρ',tgt ρ d=some ρ'/\te ρ'=some (h d))->cY tgt (λ_=>some true) te ρ ds=some (ds.map h)
 | [],_=>rfl
 | d::ds,hh=>by
  let⟨ρ',h1,h2⟩:=hh d zE;have ih:=qb (ds:=ds) λy hy=>hh y (zC _ hy);unfold cY;rw[h1];simp[h2,ih]
def j1:∀ {ds:List D},(∀d∈ds,∃ρ',tgt ρ d=some ρ'/\tt ρ'=some (p d)/\(p d=true->te ρ'=some (h d)))->cY tgt tt te ρ ds=some ((ds.filter p).map h)
 | [],_=>rfl
 | d::ds,hh=>by
  let⟨ρ',h1,h2,h3⟩:=hh d zE;have ih:=j1 (ds:=ds) λy hy=>hh y (zC _ hy);unfold cY;rw[h1];simp?[zA,h2];cases hp:p d with
  | true=>rw[yI rfl,h3 hp];simp[ih,jS,hp]
  | false=>simp[ih,jS,hp]
def l6:∀ds:List D,boolsOf (ds.map λd=>.bool (p d))=some (ds.map p)
 | []=>rfl
 | d::ds=>by simp[boolsOf,l6 ds]
def ke(ds:List D):kf [.list (ds.map λd=>.bool (p d))]=some (.bool (ds.all p)):=by
 simp?[kf,oneOf,zA,l6,zB,List.all_map];rfl
def bx(h:ds.length<=4000):small ds=some ds:=yI (yB h (by decide))
def kb{ds:List D}{i:Nat}(h:i < ds.length):mR ds (i:Nat)=some (ds.getD i .none):=by
 have:=sj (xs:=ds) (j:=i) (v:=ds[i]) (List.getElem?_eq_some_iff.mpr ⟨h,rfl⟩);rw[this];simp[List.getD,h]
def y0{ds:List D}(h:0 < ds.length):mR ds 0=some (ds.getD 0 .none):=kb (i:=0) h
def tN{ds:List D}(h:1 < ds.length):mR ds 1=some (ds.getD 1 .none):=kb (i:=1) h
def II{ds:List D}(h:2 < ds.length):mR ds 2=some (ds.getD 2 .none):=kb (i:=2) h
end Dl
namespace Wm
open PySem L2 Dl PySem.Spec PyProof.Rows Pg
variable {qs:List (List Nat×List Nat)}
def ug(ha:fa ρ=some (.int a))(hb:fb ρ=some (.int i))(hc:fc ρ=some (.int b)):iH Ag Ag fa fb fc ρ=some (.bool (decide (a<=i)&&decide (i<=b))):=by
 simp?[iH,ha,hb,hc,zA,Ag,sO,xE];by_cases h:a<=i<;>simp[h]
def sR(i j:Int):Dl.jw (.int i) (.int j)=some (.int (i - j)):=rfl
def aQ(i j:Int):Dl.aB (.int i) (.int j)=some (.int (i+j)):=rfl
def yh(d:D):Slot.all (.val d)=some d:=rfl
def Al(ds:List D):Slot.all (.own ds)=some (.list ds):=rfl
def zu:Slot.all .non=none:=rfl
def xl(d:D):Slot.frz (.val d)=some d:=rfl
def yo(ds:List D):Slot.frz (.own ds)=none:=rfl
def zz:Slot.frz .non=none:=rfl
local macro_rules|`(tactic| simp! [$ts,*])=>`(tactic| simp only[aY,ax,gx,aO,fH,ib,Ac,bf,fB,gB,Jc,ae,fC,i9,ON,OG,M7,f1,f2,sR,aQ,aa,af,ah,aU,eQ,bE,br,oneOf,gk,aL,yh,Al,zu,xl,yo,zz,aM,bM,cm,aP,du,aF,  zI,yR,xC,xK,zL,xH,List.replicate,xN,yV,qD,kC,zA,Option.bind_none,zB,Option.map_none,Nat.reduceAdd,Nat.reduceSub,qY,Nat.sub_self,xE,reduceIte,$ts,*])
def dB(h:iE d=true)(a b:Int):ba [d,.int a,.int b]=some (.bool (whole a b d)):=by
 simp! [ba,nG,kI h,kB h];cases d<;>simp[Px,Ph,whole];rw[ug rfl rfl rfl]
def ip(h:iE d=true)(n:Int):cv [d,.int n]=some (.bool (whole 0 (n - 1) d)):=by
 simp! [cv,mw,dB h]
def long(a b:Int):D->Bool|.tuple ds=>decide (a<=(ds.length:Int))&&decide ((ds.length:Int)<=b)|_=>false
def cN(h:iE d=true)(a b:Int):bA [d,.int a,.int b]=some (.bool (long a b d)):=by
 simp! [bA,pJ,kT h];cases d<;>simp[Jv,long];rw[ug rfl (i:=_) rfl rfl]
def mr:D->Int|.int i=>i|_=>0
def eE(h:whole a b d=true):d=.int (mr d)/\a<=mr d/\mr d<=b:=by
 cases d<;>simp[whole] at h;exact⟨rfl,h⟩
def jq:∀ {ls:List D},ls.all (whole a b)=true->ls=(ls.map mr).map PyData.int
 | [],_=>rfl
 | d::ls,h=>by
  rw[xP,zF] at h;rw[zI,zI,<- (eE h.1).1,<- jq h.2]
def gK(n:Int):D->Bool|.tuple ls=>ls.all (whole 0 (n - 1))&&decide ((ls.map mr).Nodup)|_=>false
def dP(i j:Int):bj (.int i) (.int j)=some (.bool (decide (i=j))):=by
 simp[bj,IY,SeqAt.shaped,PyData.canLay0,PyData.depth,PyData.eqv];rfl
def BM(h:ls.all (whole a b)=true)(hl:ls.length<=100):f2 bj (f1 iV (λ_=>some (.tuple ls))) (aU bE (aa (λ_=>some (.tuple ls)) af)) []=some (.bool (decide ((ls.map mr).Nodup))):=by
 have e:=jq h;have e1:iV (.tuple ls)=some (.int (many (ls.map mr))):=by
  simp?[iV,k7]
  conv=>lhs;rw[e]
  rw[eS,zA,yI];rw[zD];exact Nat.lt_of_le_of_lt (Nat.add_le_add_right hl 1) (by decide)
 simp! [e1,dP];have:=wZ (ls.map mr);rw[zD] at this;simp?[<- this,Int.ofNat_inj,Option.some.injEq,PyData.bool.injEq]
def Mj(r:Dl.Env)(d:D):fG 0 (none::r) d=some (some d::r):=by simp[fG,isFree]
def cM{cs:List Nat}(hfi:fi ρ=some ds)(hl:ds.length<=4000)(hh:∀d∈ds,te (some d::cs.map λj=>(ρ[j]?).getD none)=some (h d)):aw 1 cs fi (fG 0) (λ_=>some true) te ρ=some (ds.map h):=by
 simp?[aw,hfi,zA,iM,List.replicate,xC,xK];rw[qb (h:=h) λd hd=>⟨_,Mj _ d,hh d hd⟩,zA,bx (by rw[zD];exact hl)]
def qp{cs:List Nat}(hfi:fi ρ=some ds)(hl:ds.length<=4000)
  (hp:∀d∈ds,tt (some d::cs.map λj=>(ρ[j]?).getD none)=some (p d)) (hh:∀d∈ds,p d=true->te (some d::cs.map λj=>(ρ[j]?).getD none)=some (h d)):aw 1 cs fi (fG 0) tt te ρ=some ((ds.filter p).map h):=by
 simp?[aw,hfi,zA,iM,List.replicate,xC,xK];rw[j1 (p:=p) (h:=h) λd hd=>⟨_,Mj _ d,hp d hd,hh d hd⟩,zA,bx (by rw[zD];exact yB (xM _ _) hl)]
def ux(h:gg b k d)(hb:b<=100)(n:Int):fK [d,.int n]=some (.bool (gK n d)):=by
 simp! [fK,ma,kT h.nd];cases d<;>try (simp[Jv,gK];done)
 rename_i ls;let⟨j,rfl,hl,hf⟩:=h.of_tup;have c:=cM (cs:=[1]) (fi:=aM (ae 0)) (te:=(ah 2 cv (aa (ae 0) (aa (ae 1) af)))) (h:=λx=>.bool (whole 0 (n - 1) x)) (ρ:=[some (.tuple ls),some (.int n)]) rfl (by lia) λx hx=>by simp! [ip (hf x hx).nd]
 simp! [Jv,xV,yL,c,ke];cases e:ls.all (whole 0 (n - 1)) with
 | false=>simp[gK,e]
 | true =>
  have:=BM e (yB hl hb);simp?[f2,f1,aU,aa,af,zA,zB] at this;simp! [gK,e,xV,yL,jG];simp?[bE,br,oneOf,zA,gk,zB] at this;simp! [this]
def placeOk(n:Int):D->Bool|.tuple ds=>decide (ds.length=2)&&(whole 0 9 (ds.getD 0 .none)&&gK n (ds.getD 1 .none))|_=>false
def g8(g t:Int):D->Bool|.tuple ds=>decide (ds.length=3)&&(whole 0 (g - 1) (ds.getD 0 .none)&&(whole 0 (t - 1) (ds.getD 1 .none)&&whole 1 9 (ds.getD 2 .none)))|_=>false
def nq(n:Nat)(ds:List D):long (n:Int) (n:Int) (.tuple ds)=decide (ds.length=n):=by
 simp?[long];by_cases h:ds.length=n
 ·simp[h]
 ·rw[zX h,Bool.and_eq_false_iff,yY,yY];lia
def getD_mem{ds:List D}{i:Nat}(h:i < ds.length):ds.getD i .none∈ds:=by simp[List.getD,h]
def tE{b:Nat}(h:gg b k d)(hb:b<=100)(n:Int):eF [d,.int n]=some (.bool (placeOk n d)):=by
 simp! [eF,tT,cN h.nd];cases d<;>try (simp[long,placeOk];done)
 rename_i ds;let⟨j,rfl,hl,hf⟩:=h.of_tup;rw[show long 2 2 (.tuple ds)=decide (ds.length=2) from nq 2 ds];by_cases e:ds.length=2
 ·have f0:=hf _ (getD_mem (i:=0) (by lia));have f1:=hf _ (getD_mem (i:=1) (by lia));simp! [e,jL,y0 (show 0 < ds.length by lia),tN (show 1 < ds.length by lia),dB f0.nd,ux f1 hb,placeOk];cases whole 0 9 (ds.getD 0 .none)<;>simp
 ·simp[e,placeOk]
def Cu{b:Nat}(h:gg b k d)(hb:b<=100)(g t:Int):iL [d,.int g,.int t]=some (.bool (g8 g t d)):=by
 simp! [iL,ue,cN h.nd];cases d<;>try (simp[long,g8];done)
 rename_i ds;let⟨j,rfl,hl,hf⟩:=h.of_tup;rw[show long 3 3 (.tuple ds)=decide (ds.length=3) from nq 3 ds];by_cases e:ds.length=3
 ·have f0:=hf _ (getD_mem (i:=0) (by lia));have f1:=hf _ (getD_mem (i:=1) (by lia));have f2':=hf _ (getD_mem (i:=2) (by lia));simp! [e,jL,xV,yL,y0 (show 0 < ds.length by lia),tN (show 1 < ds.length by lia),II (show 2 < ds.length by lia),dB f2'.nd,ip f0.nd,ip f1.nd,g8];cases whole 0 (g - 1) (ds.getD 0 .none)<;>cases whole 0 (t - 1) (ds.getD 1 .none)<;>simp
 ·simp[e,g8]
def cB:D->List D|.tuple ds=>ds|_=>[]
def lC(d:D):Bool:=long 1 4 d
def gX(g t w:D):Bool:=lC g&&(lC t&&((cB g).all (placeOk (cB t).length)&&((cB t).all (placeOk (cB g).length)&&(Jv w&&(cB w).all (g8 (cB g).length (cB t).length)))))
def iG(h:long a b d=true):d=.tuple (cB d):=by cases d<;>first|rfl|cases h
def mi(hg:gg b k g)(ht:gg b k t)(hw:gg b k w)(hb:b<=100):fN [g,t,w]=some (.bool (gX g t w)):=by
 simp! [fN,ml,cN hg.nd,cN ht.nd,kT hw.nd];unfold gX lC;cases e1:long 1 4 g with
 | false=>simp
 | true =>
  cases e2:long 1 4 t with
  | false=>simp
  | true =>
   obtain⟨gs,rfl⟩:∃gs,g=.tuple gs:=⟨_,iG e1⟩
   obtain⟨ts,rfl⟩:∃ts,t=.tuple ts:=⟨_,iG e2⟩
   let⟨j,rfl,hgl,hgf⟩:=hg.of_tup;let⟨j',hj,htl,htf⟩:=ht.of_tup;have c1:=cM (cs:=[1]) (fi:=aM (ae 0)) (te:=(ah 2 eF (aa (ae 0) (aa (aU bE (aa (ae 1) af)) af)))) (h:=λx=>.bool (placeOk ts.length x)) (ρ:=[some (.tuple gs),some (.tuple ts),some w]) rfl (by lia) λx hx=>by simp! [tE (hgf x hx) hb]
   have c2:=cM (cs:=[0]) (fi:=aM (ae 1)) (te:=(ah 2 eF (aa (ae 0) (aa (aU bE (aa (ae 1) af)) af)))) (h:=λx=>.bool (placeOk gs.length x)) (ρ:=[some (.tuple gs),some (.tuple ts),some w]) rfl (by lia) λx hx=>by simp! [tE (htf x hx) hb]
   simp! [xV,yL,c1,ke,cB,jG];cases e3:gs.all (placeOk ts.length) with
   | false=>simp
   | true =>
    simp! [xV,yL,c2,ke,jG];cases e4:ts.all (placeOk gs.length) with
    | false=>simp
    | true =>
     cases hT:Jv w with
     | false=>simp! [xV,yL,kT hw.nd,hT,vK,kK]
     | true =>
     obtain⟨ws,rfl⟩:∃ws,w=.tuple ws:=by cases w<;>first|exact⟨_,rfl⟩|cases hT
     let⟨j2,hj2,hwl,hwf⟩:=hw.of_tup;have c3:=cM (cs:=[0,1]) (fi:=aM (ae 2)) (te:=(ah 3 iL (aa (ae 0) (aa (aU bE (aa (ae 1) af)) (aa (aU bE (aa (ae 2) af)) af))))) (h:=λx=>.bool (g8 gs.length ts.length x)) (ρ:=[some (.tuple gs),some (.tuple ts),some (.tuple ws)]) rfl (by lia) λx hx=>by simp! [Cu (hwf x hx) hb]
     simp! [xV,yL,c3,ke,jG,kT hw.nd,Jv]
def om:∀ (a b:List Int),PyData.eqvAll (a.map PyData.int) (b.map PyData.int)=decide (a=b)
 | [],[]=>by simp[PyData.eqvAll]
 | [],_::_=>by simp[PyData.eqvAll]
 | _::_,[]=>by simp[PyData.eqvAll]
 | i::a,j::b=>by
  rw[zI,zI,PyData.eqvAll,om a b];by_cases h:i=j
  ·subst h;simp[PyData.eqv]
  ·simp[PyData.eqv,h]
def uJ:∀ (a b:List (List Int)),PyData.eqvAll (a.map ak) (b.map ak)=decide (a=b)
 | [],[]=>by simp[PyData.eqvAll]
 | [],_::_=>by simp[PyData.eqvAll]
 | _::_,[]=>by simp[PyData.eqvAll]
 | x::a,y::b=>by
  rw[zI,zI,PyData.eqvAll,uJ a b,ak,ak,PyData.eqv,om];by_cases h:x=y
  ·subst h;simp
  ·simp[h]
def kc(i:Int):gg b k (.int i):=.leaf trivial
def yc(h:r.length<=b):gg b (k+1) (ak r):=.tup (by rw[zD];exact h) λx hx=>by
 let⟨i,_,rfl⟩:=List.mem_map.mp hx;exact kc i
def EN{b k:Nat}{a:List (List Int)}(h:a.length<=b)(hr:∀r∈a,r.length<=b):gg b (k+2) (.list (a.map ak)):=.lst (by rw[zD];exact h) λx hx=>by
 let⟨r,hr',rfl⟩:=List.mem_map.mp hx;exact yc (hr r hr')
def AQ(a:List (List Int)):∃b,a.length<=b/\∀r∈a,r.length<=b:=by
 induction a with
 | nil=>exact⟨0,yJ _,λr h=>by cases h⟩
 | cons x a ih =>
  let⟨b,h1,h2⟩:=ih;refine⟨b+1+x.length,by rw[zL];lia,λr hr=>?_⟩;rcases List.mem_cons.mp hr with rfl|hr
  ·lia
  ·have:=h2 r hr;lia
def tf(a:List (List Int)):SeqAt.shaped (.list (a.map ak))=true:=by
 let⟨b,h1,h2⟩:=AQ a;exact (EN (b:=b) (k:=0) h1 h2).shaped (by decide)
def Bh(a b:List (List Int)):bj (.list (a.map ak)) (.list (b.map ak))=some (.bool (decide (a=b))):=by
 simp?[bj,IY,tf,jK,xE,PyData.eqv,uJ,zB]
def iI(d:D):List Int:=(cB ((cB d).getD 1 .none)).map mr
def gT(h:placeOk n d=true):∃a ds,d=.tuple ds/\ds.length=2/\ds.getD 0 .none=.int a/\0<=a/\a<=9/\ds.getD 1 .none=.tuple ((iI d).map PyData.int)/\(iI d).Nodup/\∀j∈iI d,0<=j/\j<=n - 1:=by
 cases d<;>simp?[placeOk] at h<;>try cases h
 rename_i ds;simp?[zF,zJ] at h;let⟨h1,h2,h3⟩:=h;have e:iI (.tuple ds)=(cB (ds.getD 1 .none)).map mr:=rfl;rw[e];generalize hl:ds.getD 1 .none=l at h3;cases l<;>simp?[gK] at h3<;>try cases h3
 rename_i ls;simp?[zF,zJ] at h3;let⟨w1,w2,w3⟩:=eE h2;refine⟨_,ds,rfl,h1,w1,w2,w3,?_,h3.2,λj hj=>?_⟩
 ·rw[show cB (.tuple ls)=ls from rfl,<- jq h3.1];exact hl
 ·let⟨x,hx,rfl⟩:=List.mem_map.mp hj;exact (eE (List.all_eq_true.mp h3.1 x hx)).2
def jz(k:Nat):List D->List (List Int)|[]=>[]|p::ps=>(iI p).map (λj=>[((k:Nat):Int),j])++jz (k+1) ps
def nL:∀ (n:Nat) {l:List Int},l.Nodup->(∀j∈l,0<=j/\j<=(n:Int) - 1)->l.length<=n:=by
 intro n l hn h;have hs:l.map Int.toNat ⊆ List.range n:=λx hx=>by
  let⟨j,hj,rfl⟩:=List.mem_map.mp hx;have:=h j hj;exact List.mem_range.mpr (by lia)
 have hnd:(l.map Int.toNat).Nodup:=by
  refine List.pairwise_map.mpr (hn.imp_of_mem λ{x y} hx hy hne e=>hne ?_);have:=h x hx;have:=h y hy;lia
 have:=List.Nodup.length_le_of_subset hnd hs;simpa using this
def rL{n:Nat}:∀ {ps:List D}{k:Nat},(∀p∈ps,placeOk n p=true)->(jz k ps).length<=ps.length * n
 | [],k,_=>xR _
 | p::ps,k,h=>by
  let⟨_,_,_,_,_,_,_,_,hn,hr⟩:=gT (h p zE);have h1:=nL n hn hr;have h2:=rL (ps:=ps) (k:=k+1) λq hq=>h q (zC _ hq);rw[jz,zN,zD,zL,Nat.succ_mul];lia
def pB:ar->Option Out:=oK 1 [2,3] (aw 1 [2] (aM (f2 aF (ae 3) (fC (.int 1)))) (fG 0) (λ_=>some true) (aP (aa (ae 1) (aa (ae 0) af))))
def KU{n:Nat}{p:D}{acc:List D}(hp:placeOk n p=true)(hn:n<=100)(ha:acc.length<=1000):pB [.val x,.own acc,.val (.int (k:Nat)),.val p]=some (.nx [.val x,.own (acc++((iI p).map λj=>ak [((k:Nat):Int),j])),.val (.int (k:Nat)),.val p]):=by
 let⟨a,ds,rfl,hl,_,_,_,h1,hnd,hr⟩:=gT hp;have hb:=nL n hnd hr;generalize iI (.tuple ds)=ls at *;have c:=cM (cs:=[2]) (fi:=aM (f2 aF (ae 3) (fC (.int 1)))) (te:=aP (aa (ae 1) (aa (ae 0) af))) (h:=λy=>.tuple [.int (k:Nat),y]) (ρ:=[some x,none,some (.int (k:Nat)),some (.tuple ds)]) (ds:=ls.map PyData.int)
  (by simp! [tN (show 1 < ds.length by lia),h1]) (by rw[zD];lia) λy hy=>by
   simp! [bx (show [PyData.int (k:Nat),y].length<=4000 by simp)]
 have hh:hand [2,3] 0 [Slot.val x,.own acc,.val (.int (k:Nat)),.val (.tuple ds)]=[Slot.val x,.own acc,.val (.int (k:Nat)),.val (.tuple ds)]:=rfl;simp?[pB,oK,hh,bW,zI,yR,Slot.frz,c,zA,oZ,yV,xN];rw[yI]
 ·simp?[zB,yT,yS,zM];rfl
 ·simp?[zD];exact yB (show acc.length+ls.length<=1100 by lia) (by decide)
def qo{n:Nat}(hn:n<=100):∀ {ps:List D}{k:Nat}{acc:List D}{s2 s3:Slot},(∀p∈ps,placeOk n p=true)->acc.length+ps.length * n<=1000 ->
  ∃t2 t3,dm (dk 2 3) pB (cR k ps) [.val x,.own acc,s2,s3]=some (.nx [.val x,.own (acc++(jz k ps).map ak),t2,t3])
 | [],k,acc,s2,s3,_,_=>⟨s2,s3,by simp[cR,dm,jz]⟩
 | p::ps,k,acc,s2,s3,h,hl=>by
  have hp:=h p zE;let⟨_,_,_,_,_,_,_,_,hnd,hr⟩:=gT hp;have hb:=nL n hnd hr;rw[zL,Nat.succ_mul] at hl;let⟨t2,t3,e⟩:=qo hn (x:=x) (ps:=ps) (k:=k+1) (acc:=acc++((iI p).map λj=>ak [((k:Nat):Int),j])) (s2:=.val (.int (k:Nat))) (s3:=.val p) (λq hq=>h q (zC _ hq)) (by rw[zN,zD];lia);refine⟨t2,t3,?_⟩;have hs:dk 2 3 [.val x,.own acc,s2,s3] (.tuple [.int (k:Nat),p])=some [.val x,.own acc,.val (.int (k:Nat)),.val p]:=rfl;simp?[cR,dm,hs,zA,KU hp hn (show acc.length<=1000 by lia)];rw[e];simp[jz,zM,vZ]
def xp{n:Nat}{ps:List D}(h:∀p∈ps,placeOk n p=true)(hn:n<=100)(hl:ps.length * n<=1000):bp [.tuple ps]=some (.list ((jz 0 ps).map ak)):=by
 let⟨t2,t3,e⟩:=qo hn (x:=.tuple ps) (k:=0) (acc:=[]) (s2:=.non) (s3:=.non) h (by simpa using hl);have hs:bz 1 [] (du af) [Slot.val (.tuple ps),.non,.non,.non]=some (.nx [.val (.tuple ps),.own [],.non,.non]):=rfl;have hh:hand [0] 0 [Slot.val (.tuple ps),.own [],.non,.non]=[Slot.val (.tuple ps),.own [],.non,.non]:=rfl;have hf:dI (aa (ae 0) af) (bW [Slot.val (.tuple ps),.own [],.non,.non])=some (cR 0 ps):=rfl;simp! [bp,jg,hs,dh,hh,hf];rw[show oK 1 [2,3] (aw 1 [2] (aM (f2 aF (ae 3) (fC (.int 1)))) (fG 0) (λ_=>some true) (aP (aa (ae 1) (aa (ae 0) af))))=pB from rfl,e];simp! []
def d8(d:D):List Int:=[mr ((cB d).getD 0 .none),mr ((cB d).getD 1 .none)]
def vq(h:g8 g t d=true):∃ds c,d=.tuple ds/\ds.length=3/\ds.getD 0 .none=.int (mr (ds.getD 0 .none))/\ds.getD 1 .none=.int (mr (ds.getD 1 .none))/\ds.getD 2 .none=.int c/\1<=c/\c<=9 /\
  0<=mr (ds.getD 0 .none)/\mr (ds.getD 0 .none)<=g - 1/\0<=mr (ds.getD 1 .none)/\mr (ds.getD 1 .none)<=t - 1:=by
 cases d<;>simp?[g8] at h<;>try cases h
 rename_i ds;simp?[zF,zJ] at h;let⟨h1,h2,h3,h4⟩:=h;have a:=eE h2;have b:=eE h3;have c:=eE h4;exact⟨ds,_,rfl,h1,a.1,b.1,c.1,c.2.1,c.2.2,a.2.1,a.2.2,b.2.1,b.2.2⟩
def uT(g t w:D):Bool:=decide ((cB w).map d8=oD (jz 0 (cB g)))&&decide ((cB w).map d8=oD ((jz 0 (cB t)).map List.reverse))
def ND(d:D):Bool:=long 3 3 d&&(gX ((cB d).getD 0 .none) ((cB d).getD 1 .none) ((cB d).getD 2 .none)&&uT ((cB d).getD 0 .none) ((cB d).getD 1 .none) ((cB d).getD 2 .none))
def iW:∀ {ps:List D}{k:Nat},∀r∈jz k ps,∃i j,r=[i,j]
 | [],k,r,h=>by cases h
 | p::ps,k,r,h=>by
  rcases List.mem_append.mp h with h|h
  ·let⟨j,_,rfl⟩:=List.mem_map.mp h;exact⟨_,_,rfl⟩
  ·exact iW r h
def kh(h:∀r∈a,∃i j,r=[i,j])(hl:a.length < 64):fA [.list (a.map ak)]=some ((oD a).map ak):=by
 have:∀ns∈a,ns≠[]:=λns hn=>by let⟨i,j,rfl⟩:=h ns hn;exact List.cons_ne_nil _ _
 simp?[fA,oneOf,zA,m7 this,yI hl]
def pG:∀ {a:List (List Int)},(∀r∈a,∃i j,r=[i,j])->cY (mC 0 1) (λ_=>some true) (aP (aa (ae 1) (aa (ae 0) af))) [none,none] (a.map ak)=some ((a.map List.reverse).map ak)
 | [],_=>rfl
 | r::a,h=>by
  let⟨i,j,rfl⟩:=h r zE;have ih:=pG (a:=a) λq hq=>h q (zC _ hq);have e:mC 0 1 [none,none] (ak [i,j])=some [some (.int i),some (.int j)]:=rfl;rw[zI,cY,e,zA,zA,yI rfl,ih];simp! [bx (show [PyData.int j,.int i].length<=4000 by simp)];rfl
def BG{a:List (List Int)}(hfi:fi ρ=some (a.map ak))(hl:a.length<=4000)(h:∀r∈a,∃i j,r=[i,j]):aw 2 [] fi (mC 0 1) (λ_=>some true) (aP (aa (ae 1) (aa (ae 0) af))) ρ=some ((a.map List.reverse).map ak):=by
 simp?[aw,hfi,zA,iM,List.replicate,xC,xK,yR];rw[pG h,zA,bx (by rw[zD,zD];exact hl)]
def uy(h:gX g t w=true):∃gs ts ws,g=.tuple gs/\t=.tuple ts/\w=.tuple ws/\1<=gs.length/\gs.length<=4/\1<=ts.length/\ts.length<=4/\(∀p∈gs,placeOk ts.length p=true)/\(∀p∈ts,placeOk gs.length p=true)/\∀x∈ws,g8 gs.length ts.length x=true:=by
 simp?[gX,lC,zF] at h;let⟨h1,h2,h3,h4,h5,h6⟩:=h;cases w<;>try cases h5
 rename_i ws;have e1:=iG h1;have e2:=iG h2;generalize cB g=gs at *;generalize cB t=ts at *;subst e1 e2;simp?[long,zF,zJ] at h1 h2;exact⟨gs,ts,ws,rfl,rfl,rfl,by lia,by lia,by lia,by lia,List.all_eq_true.mp h3,List.all_eq_true.mp h4,List.all_eq_true.mp h6⟩
def jo{b:Nat}(h:gg b k d)(hb:b<=100):aN [d]=some (.bool (ND d)):=by
 unfold ND;cases e1:long 3 3 d with
 | false=>simp! [aN,gV,cN h.nd,e1,Bool.not_false,vK]
 | true =>
  obtain⟨ds,rfl⟩:∃ds,d=.tuple ds:=⟨_,iG e1⟩
  let⟨j,rfl,hl,hf⟩:=h.of_tup;rw[show long 3 3 (.tuple ds)=decide (ds.length=3) from nq 3 ds,zJ] at e1;have f0:=hf _ (getD_mem (i:=0) (by lia));have f1:=hf _ (getD_mem (i:=1) (by lia));have f2':=hf _ (getD_mem (i:=2) (by lia));have i0:=y0 (show 0 < ds.length by lia);have i1:=tN (show 1 < ds.length by lia);have i2:=II (show 2 < ds.length by lia);have el:bA [.tuple ds,.int 3,.int 3]=some (.bool true):=by rw[cN rfl,show long 3 3 (.tuple ds)=decide (ds.length=3) from nq 3 ds,zY e1]
  rw[show cB (.tuple ds)=ds from rfl,jG];generalize hg:ds.getD 0 .none=g at *;generalize ht:ds.getD 1 .none=t at *;generalize hw:ds.getD 2 .none=w at *;cases e2:gX g t w with
  | false=>simp! [aN,gV,el,i0,i1,i2,mi f0 f1 f2' hb,e2,Bool.not_false,xV,vK]
  | true =>
   let⟨gs,ts,ws,rfl,rfl,rfl,g1,g4,t1,t4,hG,hT,hW⟩:=uy e2;have hfw:=f2'.of_tup;let⟨j2,_,hwl,_⟩:=hfw;have q1:=rL (k:=0) hG;have q2:=rL (k:=0) hT;have m1:gs.length * ts.length<=16:=vJ g4 t4;have m2:ts.length * gs.length<=16:=vJ t4 g4;have l1:=xp hG (by lia) (by lia);have l2:=xp hT (by lia) (by lia);have s1:=kh (a:=jz 0 gs) iW (by lia);have s2:=kh (a:=(jz 0 ts).map List.reverse) (λr hr=>by
    let⟨q,hq,rfl⟩:=List.mem_map.mp hr;let⟨i,j,rfl⟩:=iW q hq;exact⟨j,i,rfl⟩) (by rw[zD];lia)
   have c1:aw 1 [] (aM (f2 aF (ae 0) (fC (.int 2)))) (fG 0) (λ_=>some true) (aP (aa (f2 aF (ae 0) (fC (.int 0))) (aa (f2 aF (ae 0) (fC (.int 1))) af))) [some (.tuple ds),none,none,none]=some ((ws.map d8).map ak):=by
    rw[cM (ds:=ws) (h:=λx=>ak (d8 x)) (by simp! [i2]) (by lia) λx hx=>?_,zM]
    ·rfl
    ·let⟨vs,c,rfl,v3,v0,v1,_⟩:=vq (hW x hx);simp! [y0 (show 0 < vs.length by lia),tN (show 1 < vs.length by lia),bx (show [vs.getD 0 PyData.none,vs.getD 1 .none].length<=4000 by simp),ak,d8,cB];rw[<- v0,<- v1]
   have c2:∀x y z,aw 2 [] (aM (ah 1 bp (aa (f2 aF (ae 0) (fC (.int 1))) af))) (mC 0 1) (λ_=>some true) (aP (aa (ae 1) (aa (ae 0) af))) [some (.tuple ds),x,y,z]=some (((jz 0 ts).map List.reverse).map ak):=λx y z =>
    BG (by simp! [i1,l2]) (by lia) iW
   have st1:bz 1 [0] (aw 1 [] (aM (f2 aF (ae 0) (fC (.int 2)))) (fG 0) (λ_=>some true) (aP (aa (f2 aF (ae 0) (fC (.int 0))) (aa (f2 aF (ae 0) (fC (.int 1))) af)))) [Slot.val (.tuple ds),.non,.non,.non]=some (.nx [.val (.tuple ds),.own ((ws.map d8).map ak),.non,.non]):=by
    have hh:hand [0] 0 [Slot.val (.tuple ds),.non,.non,.non]=[Slot.val (.tuple ds),.non,.non,.non]:=rfl;simp?[bz,hh,bW,zI,yR,Slot.frz,c1,zB,yT,yS]
   have st2:bz 2 [0] (eQ fA (aa (ah 1 bp (aa (f2 aF (ae 0) (fC (.int 0))) af)) af)) [Slot.val (.tuple ds),.own ((ws.map d8).map ak),.non,.non]=some (.nx [.val (.tuple ds),.own ((ws.map d8).map ak),.own ((oD (jz 0 gs)).map ak),.non]):=by
    have hh:hand [0] 0 [Slot.val (.tuple ds),.own ((ws.map d8).map ak),.non,.non]=[Slot.val (.tuple ds),.own ((ws.map d8).map ak),.non,.non]:=rfl;simp?[bz,hh,bW,zI,yR,Slot.frz];simp! [i0,l1,s1,yT,yS]
   have st3:bz 3 [0] (eQ fA (aa (bM (aw 2 [] (aM (ah 1 bp (aa (f2 aF (ae 0) (fC (.int 1))) af))) (mC 0 1) (λ_=>some true) (aP (aa (ae 1) (aa (ae 0) af))))) af)) [Slot.val (.tuple ds),.own ((ws.map d8).map ak),.own ((oD (jz 0 gs)).map ak),.non]
      =some (.nx [.val (.tuple ds),.own ((ws.map d8).map ak),.own ((oD (jz 0 gs)).map ak),.own ((oD ((jz 0 ts).map List.reverse)).map ak)]):=by
    have hh:hand [0] 0 [Slot.val (.tuple ds),.own ((ws.map d8).map ak),.own ((oD (jz 0 gs)).map ak),.non]=[Slot.val (.tuple ds),.own ((ws.map d8).map ak),.own ((oD (jz 0 gs)).map ak),.non]:=rfl;simp?[bz,hh,bW,zI,yR,Slot.frz];simp! [c2,s2,yT,yS]
   simp! [aN,gV,el,i0,i1,i2,mi f0 f1 f2' hb,e2,xV,yL,st1,st2,st3,Bh,uT,cB,jG];by_cases hq:List.map d8 ws=oD (jz 0 gs)<;>simp[hq]
def wY(xs:List D):PyData.eqvAll xs []=xs.isEmpty:=by cases xs<;>simp[PyData.eqvAll]
def wI:SeqAt.shaped (.list [])=true:=by simp[SeqAt.shaped,PyData.canLay0,PyData.canLayAll0,PyData.depth,PyData.depthAll]
def D3(h:∀x∈xs,gg b k x)(hk:k<=60):bj (.list xs) (.list [])=some (.bool xs.isEmpty):=by
 have hs:SeqAt.shaped (.list xs)=true:=(gg.lst (b:=max b xs.length) (k:=k) (Nat.le_max_right _ _) λx hx=>(h x hx).mono (Nat.le_max_left _ _) (yJ _)).shaped (by lia);simp?[bj,IY,hs,wI,jK,xE,PyData.eqv,wY,zB]
def p7:small []=some []:=rfl
def BR(xs:List α)(k:Nat):cut xs none (some (k:Int))=xs.take k:=by
 simp?[cut,HT.tK,HT.yz,List.drop_zero,Nat.sub_zero];rw[List.take_eq_take_iff];lia
def uu(xs:List α)(k:Nat):cut xs (some (k:Int)) none=xs.drop k:=by
 simp?[cut,HT.tK,HT.yz];rw[jZ (by rw[qE];lia)];by_cases h:k<=xs.length
 ·rw[Nat.min_eq_left h]
 ·rw[Nat.min_eq_right (by lia),List.drop_of_length_le (yJ _),List.drop_of_length_le (by lia)]
def Ij(b:Bool):gB (.bool b)=some b:=rfl
def m6:∀ {ps:List D}{k:Nat}{i j:Int},[i,j]∈jz k ps↔∃m p,ps[m]?=some p/\i=((k+m:Nat):Int)/\j∈iI p
 | [],k,i,j=>by simp[jz]
 | p::ps,k,i,j=>by
  rw[jz,List.mem_append,m6 (ps:=ps)];constructor
  ·rintro (h|⟨m,q,h1,h2,h3⟩)
   ·let⟨y,hy,e⟩:=List.mem_map.mp h;injection e with e1 e2
    injection e2 with e2 _
    exact⟨0,p,rfl,by simpa using e1.symm,e2 ▸ hy⟩
   ·exact⟨m+1,q,by simpa using h1,by rw[h2];congr 1;lia,h3⟩
  ·rintro⟨m,q,h1,h2,h3⟩;cases m with
   | zero =>
    simp at h1;subst h1;exact .inl (List.mem_map.mpr ⟨j,h3,by rw[h2];rfl⟩)
   | succ m=>exact .inr ⟨m,q,by simpa using h1,by rw[h2];congr 1;lia,h3⟩
def pC:∀ {ps:List D}{k:Nat},(∀p∈ps,(iI p).Nodup)->(jz k ps).Nodup
 | [],k,_=>List.nodup_nil
 | p::ps,k,h=>by
  rw[jz,List.nodup_append];refine⟨List.pairwise_map.mpr ((h p zE).imp λhne e=>hne ?_),pC λq hq=>h q (zC _ hq),?_⟩;rotate_left
  ·injection e with _ e2
   injection e2
  ·rintro a ha b hb rfl;let⟨y,hy,rfl⟩:=List.mem_map.mp ha;let⟨m,q,h1,h2,h3⟩:=m6.mp hb;lia
def MW(h:Dl.lexLt a b=true):lexLe a b=true:=by
 unfold lexLe;cases e:Dl.lexLt b a with
 | false=>rfl
 | true=>have:=dA h e;rw[eO] at this;cases this
def eV(h:oV i j):Dl.eL (.int i) (.int j)=some (.int (i * j)):=by
 simp?[Dl.eL,sO,yI h,Option.some_or]
def gn(h:0 < j):Dl.jr (.int i) (.int j)=some (.int (i % j)):=yI h
def iq(h:0 < j/\j < 1073741824):Dl.lx (.int i) (.int j)=some (.int (i / j)):=yI h
def m4(i j:Int):Dl.uL (.int i) (.int j)=some (.bool (decide (j < i))):=rfl
def lA(h:-(2 ^ 64) < i/\i < 2 ^ 64):oV i j:=.inl h
def KJ(h:-(2 ^ 64) < j/\j < 2 ^ 64):oV i j:=.inr h
def EZ(i:Int):Dl.kz (.int i)=true:=rfl
def eI(ns:List Int):D:=.list (ns.map PyData.int)
def LG(k:Int)(hl:ns.length<=63):∃c,dH [eI ns,.int k]=some (.int c):=by
 have heq:bj (.list (ns.map PyData.int)) (.list [])=some (.bool ns.isEmpty):=by
  have:=D3 (b:=0) (k:=0) (xs:=ns.map PyData.int) (λx hx=>by let⟨i,_,rfl⟩:=List.mem_map.mp hx;exact kc i) (by decide);rw[this];cases ns<;>rfl
 by_cases hn:ns=[]
 ·subst hn;refine⟨7 * k,?_⟩;rw[yR,List.isEmpty_nil] at heq;simp! [dH,ir,eI,p7,heq,List.isEmpty_nil,eV (lA (i:=7) (j:=k) (by decide))]
 ·have hpos:(0:Int) < (ns.length:Int):=by have:=List.length_pos_iff.mpr hn;lia
  have he:ns.isEmpty=false:=by cases ns<;>first|rfl|exact absurd rfl hn
  let⟨j,hj⟩:=kW (vF k (show (ns.length:Int)≠0 by lia));have hlt:=kM k hpos;have hx:mR (ns.map PyData.int) (k % (ns.length:Int))=some (.int (ns.getD j 0)):=by
   rw[hj];have:j < (ns.map PyData.int).length:=by rw[zD];lia
   rw[kb this,zG,zO,zG];rw[zK (by lia)];rfl
  refine⟨ns.getD j 0+6553 * (k / (ns.length:Int)),?_⟩;simp! [dH,ir,eI,p7,heq,he,yL,zD,gn hpos,hx,iq (i:=k) (j:=(ns.length:Int)) ⟨hpos,by lia⟩,eV (lA (i:=6553) (j:=k / (ns.length:Int)) (by decide))]
def F8(k many:Int)(hl:ns.length<=63)(hm:0 < many):∃r,aj [eI ns,.int k,.int many]=some (.int r)/\0<=r/\r < many:=by
 let⟨c,hc⟩:=LG k hl;have m1:∀i:Int,Dl.jr (.int i) (.int 2147483563)=some (.int (i % 2147483563)):=λi=>gn (by decide);have m2:∀i:Int,Dl.jr (.int i) (.int 2147483399)=some (.int (i % 2147483399)):=λi=>gn (by decide);have m3:∀i:Int,Dl.jr (.int i) (.int 2147483647)=some (.int (i % 2147483647)):=λi=>gn (by decide);have d1:∀i:Int,Dl.lx (.int i) (.int 3)=some (.int (i / 3)):=λi=>iq (by decide);have d2:∀i:Int,Dl.lx (.int i) (.int 7)=some (.int (i / 7)):=λi=>iq (by decide);have d3:∀i:Int,Dl.lx (.int i) (.int 11)=some (.int (i / 11)):=λi=>iq (by decide);have u1:∀i:Int,Dl.eL (.int i) (.int 69069)=some (.int (i * 69069)):=λi=>eV (KJ (by decide));have u2:∀i:Int,Dl.eL (.int 104723) (.int i)=some (.int (104723 * i)):=λi=>eV (lA (by decide));have b1:∀x:Int,Dl.eL (.int (x % 2147483563)) (.int (x % 2147483563))=some (.int (x % 2147483563 * (x % 2147483563))):=λx=>eV (lA (by
  have:=vF x (show (2147483563:Int)≠0 by decide);have:=kM x (show (0:Int) < 2147483563 by decide);lia))
 have b2:∀x:Int,Dl.eL (.int (x % 2147483399)) (.int (x % 2147483399))=some (.int (x % 2147483399 * (x % 2147483399))):=λx=>eV (lA (by
  have:=vF x (show (2147483399:Int)≠0 by decide);have:=kM x (show (0:Int) < 2147483399 by decide);lia))
 suffices h:∃x,aj [eI ns,.int k,.int many]=some (.int (x % many)) by
  let⟨x,hx⟩:=h;exact⟨_,hx,vF x (show many≠0 by lia),kM x hm⟩
 ·refine⟨(((((c % 2147483563 * 69069+104723 * (k+1)) % 2147483563) * ((c % 2147483563 * 69069+104723 * (k+1)) % 2147483563)+((c % 2147483563 * 69069+104723 * (k+1)) % 2147483563) / 3) % 2147483399) * ((((c % 2147483563 * 69069+104723 * (k+1)) % 2147483563) * ((c % 2147483563 * 69069+104723 * (k+1)) % 2147483563)+((c % 2147483563 * 69069+104723 * (k+1)) % 2147483563) / 3) % 2147483399)+((((c % 2147483563 * 69069+104723 * (k+1)) % 2147483563) * ((c % 2147483563 * 69069+104723 * (k+1)) % 2147483563)+((c % 2147483563 * 69069+104723 * (k+1)) % 2147483563) / 3) % 2147483399) / 7) % 2147483647 / 11,?_⟩;simp! [aj,j7,hc,m1,u1,u2,Dl.aS,EZ,yT,yS,b1,d1,m2,b2,d2,m3,d3,gn (j:=many) hm]
def dr(ns:List Int)(k many:Int):Int:=mr ((aj [eI ns,.int k,.int many]).getD .none)
def eR(k many:Int)(hl:ns.length<=63)(hm:0 < many):aj [eI ns,.int k,.int many]=some (.int (dr ns k many))/\0<=dr ns k many/\dr ns k many < many:=by
 let⟨r,h1,h2⟩:=F8 k many hl hm;have:dr ns k many=r:=by simp?[dr,h1,qD,mr]
 rw[this];exact⟨h1,h2⟩
def EM(k many:Int)(hl:ns.length<=63)(hm:0 < many):aj [eI ns,.int k,.int many]=some (.int (dr ns k many)):=(eR k many hl hm).1
def Jr(k many:Int)(hl:ns.length<=63)(hm:0 < many):0<=dr ns k many:=(eR k many hl hm).2.1
def Js(k many:Int)(hl:ns.length<=63)(hm:0 < many):dr ns k many < many:=(eR k many hl hm).2.2
abbrev Pl:=Int×List Int
abbrev Wy:=Int×Int×Int
def aI(p:Pl):D:=.tuple [.int p.1,ak p.2]
def av(w:Wy):D:=.tuple [.int w.1,.int w.2.1,.int w.2.2]
def bb(G T:List Pl)(W:List Wy):D:=.tuple [.tuple (G.map aI),.tuple (T.map aI),.tuple (W.map av)]
def mJ(W:List Wy)(i:Int):List Int:=(W.filter λw=>decide (w.1=i)).map λw=>w.2.1
def ofT(W:List Wy)(j:Int):List Int:=(W.filter λw=>decide (w.2.1=j)).map λw=>w.1
abbrev IE(W:List Wy):Prop:=W.Pairwise λa b=>a.1 < b.1\/(a.1=b.1/\a.2.1 < b.2.1)
structure Wd(G T:List Pl)(W:List Wy):Prop where
 g1:1<=G.length
 g4:G.length<=4
 t1:1<=T.length
 t4:T.length<=4
 ga:∀p∈G,0<=p.1/\p.1<=9
 ta:∀p∈T,0<=p.1/\p.1<=9
 gl:∀ (i:Nat) (p:Pl),G[i]?=some p->p.2.Perm (mJ W i)
 tl:∀ (j:Nat) (p:Pl),T[j]?=some p->p.2.Perm (ofT W j)
 wr:∀w∈W,(0<=w.1/\w.1 < G.length)/\(0<=w.2.1/\w.2.1 < T.length)/\1<=w.2.2/\w.2.2<=9
 wp:IE W
 wl:W.length<=16
def rP:j∈mJ W i↔[i,j]∈W.map λw=>[w.1,w.2.1]:=by
 simp?[mJ,List.mem_map,List.mem_filter,zJ,kH,and_true];constructor
 ·rintro⟨w,⟨h1,h2⟩,h3⟩;exact⟨w,h1,h2,h3⟩
 ·rintro⟨w,h1,h2,h3⟩;exact⟨w,⟨h1,h2⟩,h3⟩
def rY:i∈ofT W j↔[i,j]∈W.map λw=>[w.1,w.2.1]:=by
 simp?[ofT,List.mem_map,List.mem_filter,zJ,kH,and_true];constructor
 ·rintro⟨w,⟨h1,h2⟩,h3⟩;exact⟨w,h1,h3,h2⟩
 ·rintro⟨w,h1,h2,h3⟩;exact⟨w,⟨h1,h3⟩,h2⟩
def o4(h:IE W)(i:Int):(mJ W i).Nodup:=by
 unfold mJ List.Nodup;rw[qZ,List.pairwise_filter];refine h.imp λhab ha hb=>?_;rw[zJ] at ha hb;lia
def qg(h:IE W)(i:Int):(ofT W i).Nodup:=by
 unfold ofT List.Nodup;rw[qZ,List.pairwise_filter];refine h.imp λhab ha hb=>?_;rw[zJ] at ha hb;lia
def eD(p:Pl):iI (aI p)=p.2:=by
 show ((p.2.map PyData.int).map mr)=p.2;rw[zM];exact List.map_id _
def l7(ha:0<=p.1/\p.1<=9)(hn:p.2.Nodup)(hr:∀j∈p.2,0<=j/\j < n):placeOk n (aI p)=true:=by
 have e:(p.2.map PyData.int).map mr=p.2:=eD p;have e2:(p.2.map PyData.int).all (whole 0 (n - 1))=true:=by
  rw[xD];intro x hx;let⟨j,hj,rfl⟩:=List.mem_map.mp hx;have:=hr j hj;simp?[whole,zF,zJ];lia
 simp?[placeOk,aI,ak,zL,xH,vN,vO,gK,whole,e,e2,ha.1,ha.2,hn,jL,Bool.and_self]
def AE(h:(0<=w.1/\w.1 < g)/\(0<=w.2.1/\w.2.1 < t)/\1<=w.2.2/\w.2.2<=9):g8 g t (av w)=true:=by
 let⟨⟨a,b⟩,⟨c,d⟩,e,f⟩:=h;have b':w.1<=g - 1:=by lia
 have d':w.2.1<=t - 1:=by lia
 simp?[g8,av,zL,xH,vN,vO,whole,a,b',c,d',e,f,jL,Bool.and_self]
def O7(h:a < c\/(a=c/\b < d)):Dl.lexLt [a,b] [c,d]=true:=by
 show HT.lexLt [a,b] [c,d]=true;rw[HT.dq];by_cases e:a=c
 ·rw[yI e,HT.dq,yK (by lia)];simp?[zJ];lia
 ·rw[yK e];simp?[zJ];lia
def Wd.glike(h:Wd G T W)(hp:p∈G):∃i:Nat,i < G.length/\p.2.Perm (mJ W i):=by
 let⟨i,hi,e⟩:=qM hp;exact⟨i,hi,h.gl i p (by rw[zK hi,e])⟩
def Wd.tlike(h:Wd G T W)(hp:p∈T):∃i:Nat,i < T.length/\p.2.Perm (ofT W i):=by
 let⟨i,hi,e⟩:=qM hp;exact⟨i,hi,h.tl i p (by rw[zK hi,e])⟩
def Wd.gok(h:Wd G T W):(G.map aI).all (placeOk T.length)=true:=by
 rw[xD];intro x hx;let⟨p,hp,rfl⟩:=List.mem_map.mp hx;let⟨i,hi,q⟩:=h.glike hp;refine l7 (h.ga p hp) (q.nodup_iff.mpr (o4 h.wp _)) λj hj=>?_;let⟨w,hw,e⟩:=List.mem_map.mp (rP.mp (q.mem_iff.mp hj));injection e with e1 e2
 injection e2 with e2 _
 have:=(h.wr w hw).2.1;rw[e2] at this;exact this
def Wd.tok(h:Wd G T W):(T.map aI).all (placeOk G.length)=true:=by
 rw[xD];intro x hx;let⟨p,hp,rfl⟩:=List.mem_map.mp hx;let⟨i,hi,q⟩:=h.tlike hp;refine l7 (h.ta p hp) (q.nodup_iff.mpr (qg h.wp _)) λj hj=>?_;let⟨w,hw,e⟩:=List.mem_map.mp (rY.mp (q.mem_iff.mp hj));injection e with e1 e2
 have:=(h.wr w hw).1;rw[e1] at this;exact this
def ny{W:List Wy}{p:Wy->Bool}(h:W.length<=16):(W.filter p).length<=16:=yB (xM _ _) h
def xy(h:p.2.length<=16):gg 16 2 (aI p):=.tup (by simp?[zL,xH];lia) λx hx=>by
 rcases List.mem_cons.mp hx with rfl|hx
 ·exact kc _
 ·rw[yH] at hx;subst hx;exact yc h
def Hb(w:Wy):gg 16 1 (av w):=.tup (by simp?[zL,xH];lia) λx hx=>by
 simp?[zQ,yD,xQ] at hx;rcases hx with rfl|rfl|rfl<;>exact kc _
def Wd.fit(h:Wd G T W):gg 16 4 (bb G T W):=by
 refine .tup (by simp?[zL,xH];lia) λx hx=>?_;simp?[zQ,yD,xQ] at hx;have h4:=h.g4;have h5:=h.t4;have h6:=h.wl;rcases hx with rfl|rfl|rfl
 ·refine .tup (by rw[zD];lia) λx hx=>?_;let⟨p,hp,rfl⟩:=List.mem_map.mp hx;let⟨i,hi,q⟩:=h.glike hp;exact xy (by rw[q.length_eq,mJ,zD];exact ny h.wl)
 ·refine .tup (by rw[zD];lia) λx hx=>?_;let⟨p,hp,rfl⟩:=List.mem_map.mp hx;let⟨i,hi,q⟩:=h.tlike hp;exact xy (by rw[q.length_eq,ofT,zD];exact ny h.wl)
 ·refine .tup (by rw[zD];lia) λx hx=>?_;let⟨p,hp,rfl⟩:=List.mem_map.mp hx;exact (Hb p).mono (yJ _) (by decide)
def A3{i:Nat}{fz:List Nat}{f:Dl.Env->Option D}{ρ ρ':ar}{d:D}(hf:f (aL ρ)=some d)(hs:Dl.kz d=false)(hh:hand fz 0 ρ=ρ')(hv:bW ρ'=aL ρ)(hr:f7 d=false\/ρ'=ρ:=by first|exact .inr rfl|exact .inl rfl):Dl.aS i fz f ρ=some (.nx (ρ'.set i (.val d))):=by
 rcases hr with hr|hr
 ·simp?[Dl.aS,hf,zA,hs,yL,qL,hh,hv,zB,hr]
 ·subst hr;simp?[Dl.aS,hf,zA,hs,yL,qL,hh,hv,zB,ite_self]
def bC{i:Nat}{fz:List Nat}{f:Dl.Env->Option D}{ρ:ar}{d:D}(hf:f (aL ρ)=some d)(hs:Dl.kz d=true):Dl.aS i fz f ρ=some (.nx (ρ.set i (.val d))):=by
 simp?[Dl.aS,hf,zA,hs,xE]
def ub(w:Wy):aF (av w) (.int 0)=some (.int w.1):=rfl
def sX(w:Wy):aF (av w) (.int 1)=some (.int w.2.1):=rfl
abbrev st(ns:List Int)(a mo m s:Int)(x4 x7 x8 x9 x10 x11:Slot):ar:=[.val (eI ns),.val (.int a),.val (.int mo),.non,x4,.val (.int m),.val (.int s),x7,x8,x9,x10,x11]
structure Qn(mo s k:Int)(W:List Wy):Prop where
 mem:∀w∈W,∃j:Int,0<=j/\j < k/\w.1=j / s/\w.2.1=j % s/\1<=w.2.2/\w.2.2<=2
 ris:IE W
 len:(W.length:Int)<=k
 lem:(W.length:Int)<=mo
def N6(W:List Wy)(i:Int)(hw:W.length<=20):aw 1 [0] (aM (ae 1)) (fG 0) (fB (f2 bj (f2 aF (ae 0) (fC (.int 0))) (ae 1))) (f2 aF (ae 0) (fC (.int 1))) [some (.int i),some (.list (W.map av))]=some ((mJ W i).map PyData.int):=by
 rw[qp (ds:=W.map av) (p:=λd=>decide (mr ((cB d).getD 0 .none)=i)) (h:=λd=>(cB d).getD 1 .none) rfl (by rw[zD];lia) (λd hd=>?_) λd hd _=>?_]
 ·rw[List.filter_map,zM,mJ,zM];rfl
 ·let⟨w,_,rfl⟩:=List.mem_map.mp hd;simp! [ub,dP,Ij];rfl
 ·let⟨w,_,rfl⟩:=List.mem_map.mp hd;simp! [sX];rfl
def mV{m:Nat}(hm:m<=1000):oX ((m:Nat):Int)=true:=by
 unfold oX;rw[zF,zJ,zJ];have h1:(0:Int)<=(m:Int):=Int.natCast_nonneg m;have h2:(m:Int)<=1000:=by lia
 exact⟨jP (by decide) h1,Int.lt_of_le_of_lt h2 (by decide)⟩
def Ck{j:Int}(h:oX j=true):lu [.int j]=some ((List.range j.toNat).map λi=>PyData.int ((i:Nat):Int)):=by
 rw[lu,yI h]
def iR:∀ (ds:List D) (k:Nat),(cR k ds).length=ds.length
 | [],k=>rfl
 | d::ds,k=>by rw[cR,zL,zL,iR ds]
def ao{g1 g2:ar->Option Out}{ρ ρ':ar}(h:g1 ρ=some (.nx ρ')):ax g1 g2 ρ=g2 ρ':=by
 simp?[ax,h,zA]
def aJ{g:ar->Option Out}{n:Nat}{args:List D}{d:D}(h:g (args.map Slot.val++List.replicate (n - args.length) .non)=some (.rt d)):aY g n args=some d:=by
 simp?[aY,h,zB]
def Es{g:D->D->Option D}{fa fb:Dl.Env->Option D}{ρ:Dl.Env}{a b:D}(ha:fa ρ=some a)(hb:fb ρ=some b):f2 g fa fb ρ=g a b:=by
 simp?[f2,ha,hb,zA]
structure Qu(mo:Int)(G T:List Pl)(W:List Wy):Prop where
 g3:G.length<=3
 t3:T.length<=3
 w2:∀w∈W,w.2.2<=2
 ga:∀p∈G,p.1<=3
 ta:∀p∈T,p.1<=3
 wm:(W.length:Int)<=mo
def Jj(h:IE W):(W.map λw=>[w.1,w.2.1]).Pairwise λa b=>Dl.lexLt a b=true:=List.pairwise_map.mpr (h.imp λhab=>O7 hab)
def Ew(h:IE W):(W.map λw=>[w.1,w.2.1]).Nodup:=(Jj h).imp λ{a b} hab e=>by
 rw[e,eO] at hab;cases hab
def Ey(h:IE W)(hn:m.Nodup)(hm:∀r,r∈W.map (λw=>[w.1,w.2.1])↔r∈m):W.map (λw=>[w.1,w.2.1])=oD m :=
 D1 ((List.perm_ext_iff_of_nodup (Ew h) hn).mpr hm) ((Jj h).imp λhab=>MW hab)
def Wd.wok(h:Wd G T W):ND (bb G T W)=true:=by
 have hP:(W.map av).map d8=W.map λw=>[w.1,w.2.1]:=by rw[zM];rfl
 have hpg:∀i j:Int,[i,j]∈W.map (λw=>[w.1,w.2.1])↔[i,j]∈jz 0 (G.map aI):=λi j=>by
  rw[m6];constructor
  ·intro hm;let⟨w,hw,e⟩:=List.mem_map.mp hm;simp?[kH,and_true] at e;have hr:=(h.wr w hw).1;obtain⟨p,hp⟩:∃p,G[i.toNat]?=some p:=⟨G[i.toNat]'(by lia),zK (by lia)⟩
   refine⟨i.toNat,aI p,by rw[zO,hp];rfl,by lia,?_⟩;rw[eD,(h.gl _ p hp).mem_iff,rP,show ((i.toNat:Nat):Int)=i by lia];exact hm
  ·rintro⟨m,p,hp,rfl,hj⟩;rw[zO] at hp;let⟨p',hp',rfl⟩:=Option.map_eq_some_iff.mp hp;rw[eD,(h.gl m p' hp').mem_iff,rP] at hj
   rwa [qY]
 have hpt:∀i j:Int,[i,j]∈W.map (λw=>[w.1,w.2.1])↔[j,i]∈jz 0 (T.map aI):=λi j=>by
  rw[m6];constructor
  ·intro hm;let⟨w,hw,e⟩:=List.mem_map.mp hm;simp?[kH,and_true] at e;have hr:=(h.wr w hw).2.1;obtain⟨p,hp⟩:∃p,T[j.toNat]?=some p:=⟨T[j.toNat]'(by lia),zK (by lia)⟩
   refine⟨j.toNat,aI p,by rw[zO,hp];rfl,by lia,?_⟩;rw[eD,(h.tl _ p hp).mem_iff,rY,show ((j.toNat:Nat):Int)=j by lia];exact hm
  ·rintro⟨m,p,hp,rfl,hj⟩;rw[zO] at hp;let⟨p',hp',rfl⟩:=Option.map_eq_some_iff.mp hp;rw[eD,(h.tl m p' hp').mem_iff,rY] at hj
   rwa [qY]
 have two:∀ {r:List Int},r∈W.map (λw=>[w.1,w.2.1])->∃i j,r=[i,j]:=λhr=>by
  let⟨w,_,rfl⟩:=List.mem_map.mp hr;exact⟨_,_,rfl⟩
 have ng:∀ (L:List Pl),(∀p∈L,p.2.Nodup)->(jz 0 (L.map aI)).Nodup:=λL hL=>pC λp hp=>by
  let⟨p',hp',rfl⟩:=List.mem_map.mp hp;rw[eD];exact hL p' hp'
 have e1:W.map (λw=>[w.1,w.2.1])=oD (jz 0 (G.map aI)):=Ey h.wp (ng G λp hp=>by
   let⟨i,hi,e⟩:=qM hp;exact (h.gl i p (by rw[zK hi,e])).nodup_iff.mpr (o4 h.wp i)) λr=>⟨λhr=>by
   let⟨i,j,rfl⟩:=two hr;exact (hpg i j).mp hr,λhr=>by
   let⟨i,j,rfl⟩:=iW r hr;exact (hpg i j).mpr hr⟩
 have e2:W.map (λw=>[w.1,w.2.1])=oD ((jz 0 (T.map aI)).map List.reverse):=Ey h.wp (by
   exact List.pairwise_map.mpr (List.Pairwise.imp (λ{a b} hne e=>hne (List.reverse_inj.mp e)) (ng T λp hp=>by
    let⟨i,hi,e⟩:=qM hp;exact (h.tl i p (by rw[zK hi,e])).nodup_iff.mpr (qg h.wp i)))) λr=>⟨λhr=>by
   let⟨i,j,rfl⟩:=two hr;exact List.mem_map.mpr ⟨[j,i],(hpt i j).mp hr,rfl⟩,λhr=>by
   let⟨r',hr',rfl⟩:=List.mem_map.mp hr;let⟨i,j,rfl⟩:=iW r' hr';exact (hpt j i).mpr hr'⟩
 have hw:(W.map av).all (g8 G.length T.length)=true:=by
  rw[xD];intro x hx;let⟨w,hw,rfl⟩:=List.mem_map.mp hx;exact AE (h.wr w hw)
 have hs:∀ {L:List Pl},1<=L.length->L.length<=4->lC (.tuple (L.map aI))=true:=λ{L} a b=>by
  simp?[lC,long,zD,zF,zJ];lia
 have h3:long 3 3 (bb G T W)=true:=rfl;have hg:=h.gok;have ht:=h.tok;unfold ND uT;rw[h3,jG];simp?[bb,cB,vN,vO,hP,<- e1,<- e2,jL,Bool.and_true,gX,hs h.g1 h.g4,hs h.t1 h.t4,zD,hg,ht,hw,Jv]
def sI(b:Bool):Int:=if b then 1 else 0
def rq(b:Bool)(w:Wy):Int:=if b then w.2.1 else w.1
def O5(b:Bool)(w:Wy):Int:=rq (!b) w
def eu(b:Bool)(G T:List Pl):List Pl:=if b then T else G
def mS(b:Bool)(G T:List Pl)(W:List Wy):aF (bb G T W) (.int (sI b))=some (.tuple ((eu b G T).map aI)):=by cases b<;>rfl
def fu(G T:List Pl)(W:List Wy):aF (bb G T W) (.int 2)=some (.tuple (W.map av)):=rfl
def zd(b:Bool)(w:Wy):aF (av w) (.int (sI b))=some (.int (rq b w)):=by cases b<;>rfl
def Ai(w:Wy):aF (av w) (.int 2)=some (.int w.2.2):=rfl
def v5(h:ds[i]?=some d):aF (.tuple ds) (.int ((i:Nat):Int))=some d:=by
 show mR ds (i:Nat)=_;exact sj h
def CZ(h:ds[i]?=some d):aF (.list ds) (.int ((i:Nat):Int))=some d:=by
 show mR ds (i:Nat)=_;exact sj h
def FN{l:List α}(h:l[i]?=some x):aF (.list (l.map f)) (.int ((i:Nat):Int))=some (f x):=CZ (by rw[zO,h];rfl)
def bu(W:List Wy)(i:Nat):Wy:=W.getD i (0,0,0)
def iA(hk:k < W.length):W[k]=bu W k:=by simp[bu,hk]
def Hh(hk:k < W.length):W[k]?=some (bu W k):=by rw[zK hk,iA hk]
def own(b:Bool)(W:List Wy)(p:Int):List Nat:=(List.range W.length).filter λi=>decide (rq b (bu W i)=p)
def Qk(b:Bool)(W:List Wy)(p o:Int):Nat:=W.findIdx λw=>decide (rq b w=p)&&decide (O5 b w=o)
def Pk(b:Bool)(W:List Wy)(p:Int)(L:List Int):List Nat:=L.map (Qk b W p)
def Hs:i∈own b W p↔i < W.length/\rq b (bu W i)=p:=by simp[own]
abbrev nD(n:Nat):D:=.int ((n:Nat):Int)
def Gw(b:Bool)(W:List Wy)(p:Int):(own b W p).length<=W.length:=by
 unfold own;refine yB (xM _ _) ?_;rw[zR];exact yJ _
local macro_rules|`(tactic| dsimp! [$ts,*])=>`(tactic| simp only[ae,fC,f1,f2,aa,af,ah,aU,eQ,aM,gk,bM,fB,gB,bf,Ac,ib,dI,aL,bW,yh,Al,zu,xl,yo,zz,zI,yR,xN,yV,zA,zB,qD,zL,xH,Nat.reduceAdd,qY,reduceIte,yT,yS,$ts,*])
def ji(R:ar->Prop)(f:α->D)(q:α->Bool)(out:α->D):∀ {l:List α}{ρ:ar},
  (∀ρ x,x∈l->R ρ->∃ρ1,tgt ρ (f x)=some ρ1/\(q x=true->gb ρ1=some (.rt (out x)))/\(q x=false->∃ρ2,gb ρ1=some (.nx ρ2)/\R ρ2))->R ρ ->
  (∀x,l.find? q=some x->dm tgt gb (l.map f) ρ=some (.rt (out x)))/\(l.find? q=none->∃ρ',dm tgt gb (l.map f) ρ=some (.nx ρ')/\R ρ')
 | [],ρ,_,h=>⟨λx hx=>(by cases hx),λ_=>⟨ρ,rfl,h⟩⟩
 | x::l,ρ,hh,h=>by
  let⟨ρ1,e1,e2,e3⟩:=hh ρ x zE h;rw[zI,dm,e1,zA];cases hq:q x with
  | true =>
   rw[vB (by simpa using hq),e2 hq];exact⟨λy hy=>(by cases hy;rfl),λhn=>(by cases hn)⟩
  | false =>
   let⟨ρ2,e4,h2⟩:=e3 hq;rw[kA (by simp[hq]),e4];exact ji R f q out (λρ x hx=>hh ρ x (zC _ hx)) h2
def bL(h:dm tgt gb ds ρ1=o)(hi:fi (bW ρ1)=some ds)(hh:hand fz 0 ρ=ρ1):dh fz fi tgt gb ρ=o:=by
 simp?[dh,hh,hi,zA,h]
def Hl(hh:hand fz 0 ρ=ρ')(hf:f (bW ρ')=some ds):bz i fz f ρ=some (.nx (ρ'.set i (.own ds))):=by
 simp?[bz,hh,hf,zB]
def eB(hf:f (bW ρ)=some ds)(hh:hand fz 0 ρ=ρ):bz i fz f ρ=some (.nx (ρ.set i (.own ds))):=Hl hh hf
def vp(hh:hand fz 0 ρ=ρ')(hA:f (aL ρ)=some d)(hF:f (bW ρ')=some d)(hs:Dl.kz d=false)(hr:f7 d=false\/ρ'=ρ:=by first|exact .inr rfl|exact .inl rfl):Dl.aS i fz f ρ=some (.nx (ρ'.set i (.val d))):=by
 rcases hr with hr|hr
 ·simp?[Dl.aS,hA,zA,hs,yL,qL,hh,hF,zB,hr]
 ·subst hr;simp?[Dl.aS,hA,zA,hs,yL,qL,hh,hF,zB,ite_self]
def call_of(h:m ds=some d)(hf:fs ρ=some ds)(hn:ds.length=n):ah n m fs ρ=some d:=by
 unfold ah;rw[hf,zA,yI hn,h]
def cons_of(h:f ρ=some d)(hs:fs ρ=some ds):aa f fs ρ=some (d::ds):=by
 unfold aa;rw[h,hs];rfl
def aZ(hf:f (aL ρ)=some d):aO f ρ=some (.rt d):=by
 simp?[aO,hf,zB]
def jx(hf:f (aL ρ)=some d):gJ f ρ=some (.nx ρ):=by
 simp?[gJ,hf,zB]
def bo(h:t (aL ρ)=some false):gx t g fH ρ=some (.nx ρ):=by
 simp[gx,h,fH]
def fI(h:t (aL ρ)=some true):gx t g g2 ρ=g ρ:=by
 simp[gx,h]
def sf(h:g1 ρ=some (.rt d)):ax g1 g2 ρ=some (.rt d):=by
 simp?[ax,h,zA]
def A5(hf:f (aL ρ)=some d)(hs:Dl.kz d=true)(hk:fk (aL ρ)=some (nD k))(ho:ρ[i]?=some (.own ds))(hl:k < ds.length):Bg i fz fk f ρ=some (.nx (ρ.set i (.own (ds.set k d)))):=by
 have hx:Do ds.length ((k:Nat):Int)=some k:=by
  unfold Do;rw[yI (Int.natCast_nonneg k),yI (by lia)];simp
 simp?[Bg,nH,hf,zA,hs,xE,hk,oZ,ho,hx,zB]
def lp(cont:S->Bool)(st:S->S):Nat->S->S
 | 0,s=>s
 | n+1,s=>if cont s=true then lp cont st n (st s) else s
def gR(l:List D):cm [.list l]=some (.tuple l):=rfl
def Ii(l:List D):bE [.tuple l]=some (nD l.length):=rfl
def A2(h:n<=1000):lu [nD n]=some ((List.range n).map nD):=by
 rw[Ck (mV h),yE]
def nP(h:fs ρ=some [nD n])(hn:n<=1000):dc fs ρ=some ((List.range n).map nD):=by
 unfold dc;rw[h,zA,A2 hn]
def sub_int(i j:Int):Dl.jw (.int i) (.int j)=some (.int (i - j)):=sR i j
def zeros(hfi:fi ρ=some ds)(hl:ds.length<=1000):aw 1 [] fi (fG 0) (λ_=>some true) (fC (.int 0)) ρ=some ((List.replicate ds.length (0:Int)).map PyData.int):=by
 rw[cM (h:=λ_=>.int 0) hfi (by lia) λd hd=>rfl];simp[List.map_const']
def D2(h1:oX k=true)(h2:ds.length * k.toNat<=sizeLine):Aa ds (.int k)=some (List.replicate k.toNat ds).flatten:=by
 simp?[Aa];rw[yI (And.intro h1 h2)]
def IM:∀n,(List.replicate n [PyData.int 0]).flatten=(List.replicate n (0:Int)).map PyData.int
 | 0=>rfl
 | n+1=>by rw[xB,qJ,IM n,xB];rfl
def cV(W:List Wy)(off:List Int)(left:Int)(i:Nat):Int:=min (min (off.getD i 0) (bu W i).2.2) left
def P4(W:List Wy)(off:List Int)(s:Int×List Int)(i:Nat):Int×List Int:=(s.1 - cV W off s.1 i,s.2.set i (cV W off s.1 i))
def Qt(W:List Wy)(off:List Int)(amt:Int)(is:List Nat):List Int:=(is.foldl (P4 W off) (amt,List.replicate W.length 0)).2
def lM(b:Bool)(G T:List Pl)(i:Nat):Pl:=(eu b G T).getD i (0,[])
def P8(b:Bool)(G T:List Pl)(W:List Wy)(off s:List Int)(i:Nat):List Int:=List.zipWith (·+·) s (Qt W off (lM b G T i).1 (Pk b W i (lM b G T i).2))
def KZ(b:Bool)(G T:List Pl)(W:List Wy)(off:List Int):List Int:=(List.range (eu b G T).length).foldl (P8 b G T W off) (List.replicate W.length 0)
def Wd.pl(h:Wd G T W)(b:Bool):(eu b G T).length<=4:=by
 cases b
 ·exact h.g4
 ·exact h.t4
def ye(h:(xs++ys).length<=4000):Dl.aB (.tuple xs) (.tuple ys)=some (.tuple (xs++ys)):=by
 simp?[Dl.aB,sO,Ie,bx h,zB,Option.none_or,Option.some_or]
def Fk(h:f ρ=some d):aP (aa f af) ρ=some (.tuple [d]):=by
 simp?[aP,aa,af,h,zA,zB];rw[bx (by simp),zB]
def aq(h:g a b=some c)(ha:fa ρ=some a)(hb:fb ρ=some b):f2 g fa fb ρ=some c:=by rw[Es ha hb,h]
def Kx(h:f ρ=some (.tuple ds))(h2:g ρ=some (nD k)):cC bJ f cZ (lh g) ρ=some (.tuple (ds.take k)):=by
 simp?[cC,h,cZ,lh,h2,zA,gI,zB,bJ,BR]
def EL(h:f ρ=some (.tuple ds))(h2:g ρ=some (nD k)):cC bJ f (lh g) cZ ρ=some (.tuple (ds.drop k)):=by
 simp?[cC,h,cZ,lh,h2,zA,gI,zB,bJ,uu]
def P6(d:D)(ds:List D):aF (.list (d::ds)) (.int 0)=some d:=CZ (i:=0) rfl
def Pe(d:D)(ds:List D):aF (.tuple (d::ds)) (.int 0)=some d:=v5 (i:=0) rfl
def LB(W:List Wy):List Int:=W.map λw=>w.2.2
def Pu(G T:List Pl)(W:List Wy)(c:List Int):List Int:=KZ true G T W (KZ false G T W c)
def qR(G T:List Pl)(W:List Wy)(c:List Int)(k:Nat):Bool:=decide ((Pu G T W c).getD k 0 < (KZ false G T W c).getD k 0)
def Pr(G T:List Pl)(W:List Wy)(c:List Int):Option (Nat×Int):=((List.range W.length).find? (qR G T W c)).map λk=>(k,(Pu G T W c).getD k 0)
def enum_zip:∀ (ds:List D) (k:Nat),cR k ds=(ds.zipIdx k).map λq=>.tuple [nD q.2,q.1]
 | [],k=>rfl
 | d::ds,k=>by rw[cR,enum_zip ds (k+1),List.zipIdx_cons];rfl
def Off(off:List Int):Prop:=∀i,0<=off.getD i 0
def Pm(W:List Wy):Prop:=∀i,0<=(bu W i).2.2
def Wd.lim{G T:List Pl}{W:List Wy}(h:Wd G T W):Pm W:=λi=>by
 by_cases hi:i < W.length
 ·have:=h.wr (bu W i) (by rw[<- iA hi];exact xX hi);lia
 ·simp?[bu,zG];rw[jH (by lia)];simp
def Wd.amt{G T:List Pl}{W:List Wy}(h:Wd G T W)(b:Bool)(i:Nat):0<=(lM b G T i).1:=by
 unfold lM;rw[zG];cases e:(eu b G T)[i]? with
 | none=>simp
 | some p =>
  have hm:=xY e;cases b
  ·exact (h.ga p hm).1
  ·exact (h.ta p hm).1
def E5{l:List Int}{i:Nat}(h:l.length<=i):l.getD i 0=0:=by simp[zG,h]
def Pq(c:List Int):Nat:=(c.map Int.toNat).sum
def vo(a:List Int):SeqAt.shaped (ak a)=true :=
 (gg.tup (b:=a.length) (k:=0) (by simp) λx hx=>by let⟨i,_,rfl⟩:=List.mem_map.mp hx;exact kc _).shaped (by decide)
def uk(a b:List Int):PyData.eqv (ak a) (ak b)=decide (a=b):=by
 rw[ak,ak,PyData.eqv,om]
def aX(h:f ρ=some (.bool b)):fB f ρ=some b:=by
 simp?[fB,h,zA,gB]
def bZ(h:t ρ=some b):bf t ρ=some (!b):=by
 simp?[bf,h,zB]
def lW(h:t ρ=some false)(h2:u ρ=some false):ib t u ρ=some false:=by
 simp?[ib,h,zA,h2]
def CM(a b:List Int):dM (ak a) (ak b)=some (.bool (!decide (a=b))):=by
 simp?[dM,JU,vo,jK,xE,uk,zB]
def qm(a:List Int):dM (ak a) (ak a)=some (.bool false):=by rw[CM];simp
def bD(hA:f (aL ρ)=some d)(hF:f (bW ρ)=some d)(hh:hand fz 0 ρ=ρ):Dl.aS i fz f ρ=some (.nx (ρ.set i (.val d))):=by
 cases hs:Dl.kz d with
 | true=>exact bC hA hs
 | false=>exact vp hh hA hF hs (.inr rfl)
def vm(hA:f (aL ρ)=some d)(hF:f (bW ρ)=some d)(hh:hand fz 0 ρ=ρ)(ho:ρ[i]?=some (.own ds))(hl:ds.length < 4000):oG i fz f ρ=some (.nx (ρ.set i (.own (ds++[d])))):=by
 have hz:ds.length < sizeLine:=zP hl (by decide);have hi:nH fz f ρ=some (d,ρ):=by
  unfold nH;rw[hA,zA,hh,hF];cases Dl.kz d<;>rfl
 simp?[oG,hi,zA,oZ,ho,hz,xE,zB]
def dG(h:Wd G T W):aW [bb G T W]=some .none:=by
 have hw:aN [bb G T W]=some (.bool true):=by rw[jo h.fit (by decide),h.wok]
 have hc:(bf (fB (ah 1 aN (aa (ae 0) af)))) (aL [.val (bb G T W)])=some false:=bZ (aX (call_of hw rfl rfl));have:dC [.val (bb G T W)]=some (.nx [.val (bb G T W)]):=by
  unfold dC;rw[bo hc]
 show (dC [.val (bb G T W)]).map _=_;rw[this];rfl
def oJ(h1:a<=i)(h2:i<=b):fU [.int i,.int a,.int b]=some .none:=by
 have hw:ba [.int i,.int a,.int b]=some (.bool true):=by rw[dB rfl];simp[whole,h1,h2]
 have hc:(bf (fB (ah 3 ba (aa (ae 0) (aa (ae 1) (aa (ae 2) af)))))) (aL [.val (.int i),.val (.int a),.val (.int b)])=some false:=bZ (aX (call_of hw rfl rfl));have:ck [.val (.int i),.val (.int a),.val (.int b)]=some (.nx [.val (.int i),.val (.int a),.val (.int b)]):=by
  unfold ck;rw[bo hc]
 show (ck [.val (.int i),.val (.int a),.val (.int b)]).map _=_;rw[this];rfl
def nC(h1:0<=i)(h2:i<=n - 1):eJ [.int i,.int n]=some .none:=by
 have:bU [.val (.int i),.val (.int n)]=some (.nx [.val (.int i),.val (.int n)]):=by
  unfold bU;exact jx (call_of (oJ h1 h2) (cons_of rfl (cons_of rfl (cons_of (aq (sub_int n 1) rfl rfl) rfl))) rfl)
 show (bU [.val (.int i),.val (.int n)]).map _=_;rw[this];rfl
def rT(b:Bool):ko [.int (sI b)]=some .none:=by
 have:d9 [.val (.int (sI b))]=some (.nx [.val (.int (sI b))]):=by
  unfold d9;exact jx (call_of (nC (n:=2) (i:=sI b) (by cases b<;>decide) (by cases b<;>decide)) rfl rfl)
 show (d9 [.val (.int (sI b))]).map _=_;rw[this];rfl
abbrev Sp:=List (Nat×Int)×List Int
def Qi(G T:List Pl)(W:List Wy)(s:Sp):Bool:=(Pr G T W s.2).isSome
def spS(G T:List Pl)(W:List Wy)(s:Sp):Sp:=match Pr G T W s.2 with|some p=>(s.1++[p],s.2.set p.1 p.2)|none=>s
def low(c:List Int)(p:Nat×Int):List Int:=c.set p.1 p.2
structure Qv(W:List Wy)(s:Sp):Prop where
 len:s.2.length=W.length
 off:Off s.2
 eq:s.2=s.1.foldl low (LB W)
 bd:s.1.length+Pq s.2<=Pq (LB W)
 mem:∀p∈s.1,p.1 < W.length
def fin(G T:List Pl)(W:List Wy):Sp:=lp (Qi G T W) (spS G T W) Rf.turns ([],LB W)
structure Ord(W:List Wy)(π:List Nat):Prop where
 perm:π.Perm (List.range W.length)
 up:π.Pairwise λi j=>(bu W i).2.1 < (bu W j).2.1\/((bu W i).2.1=(bu W j).2.1/\(bu W i).1 < (bu W j).1)
def oF(b:Bool)(W:List Wy)(P:List Int)(p:Int):Int:=((own b W p).map λi=>P.getD i 0).sum
structure Pn(G T:List Pl)(W:List Wy)(P:List Int):Prop where
 len:P.length=W.length
 bd:∀k,k < W.length->0<=P.getD k 0/\P.getD k 0<=(bu W k).2.2
 am:∀ (b:Bool) (i:Nat),i < (eu b G T).length->oF b W P i<=(lM b G T i).1
section
variable {off:List Int}
def pq(h:∀k,k < W.length->P.getD k 0=Q.getD k 0):oF b W P p=oF b W Q p:=by
 unfold oF
 congr 1
 exact yG λk hk=>h k (Hs.mp hk).1
end
def oP(G T:List Pl)(W:List Wy)(P:List Int):Bool :=
 ((List.range G.length).all λi=>decide (oF false W P i<=(lM false G T i).1))&&((List.range T.length).all λi=>decide (oF true W P i<=(lM true G T i).1))
def zs(n:Nat):List Int:=List.replicate n 0
def jy(d:Nat->Int)(G T:List Pl)(W:List Wy):Nat->List Int
 | 0=>[]
 | k+1=>if oP G T W ((jy d G T W k++[d k])++zs (W.length - (jy d G T W k++[d k]).length))=true then jy d G T W k++[d k] else jy d G T W k++[0]
section
variable {W:List Wy}{G T:List Pl}{d:Nat->Int}
def gf:oP G T W P=true↔∀ (b:Bool) (i:Nat),i < (eu b G T).length->oF b W P i<=(lM b G T i).1:=by
 unfold oP;rw[zF,xD,xD];constructor
 ·rintro⟨h1,h2⟩ b i hi;cases b
  ·exact yN (h1 i (by simpa [eu] using hi))
  ·exact yN (h2 i (by simpa [eu] using hi))
 ·intro h;exact⟨λi hi=>zY (h false i (by simpa [eu] using hi)),λi hi=>zY (h true i (by simpa [eu] using hi))⟩
def j9:∀k,(jy d G T W k).length=k
 | 0=>rfl
 | k+1=>by
  unfold jy;split<;>simp[j9 k]
def Du(h:∀k,P.getD k 0=0):oF b W P p=0:=by
 unfold oF;have:((own b W p).map λi=>P.getD i 0)=(own b W p).map λ_=>(0:Int):=yG λk _=>h k;rw[this];generalize own b W p=l
 induction l with
 | nil=>rfl
 | cons a l ih=>simp[ih]
def IP(n k:Nat):(zs n).getD k 0=0:=by
 simp?[zs,zG,yU];split<;>rfl
def CP(l:List Int)(n k:Nat):(l++zs n).getD k 0=l.getD k 0:=by
 by_cases h:k < l.length
 ·simp[zG,yP h]
 ·have h':l.length<=k:=by lia
  have:=IP n (k - l.length);simp?[zG] at this ⊢;rw[yQ h',this];simp[h']
def O3(l:List Int)(k:Nat):(l++[0]).getD k 0=l.getD k 0:=CP l 1 k
def xq(h:Wd G T W):∀k,oP G T W (jy d G T W k)=true
 | 0=>gf.mpr λb i hi=>by
  rw[Du λk=>by simp[jy]];exact h.amt b i
 | k+1=>by
  unfold jy;split
  ·rename_i e;refine gf.mpr λb i hi=>?_;have:=gf.mp e b i hi;rw[pq (Q:=jy d G T W k++[d k]) λj _=>CP _ _ _] at this;exact this
  ·refine gf.mpr λb i hi=>?_;rw[pq (Q:=jy d G T W k) λj _=>O3 _ _];exact gf.mp (xq h k) b i hi
def wX(hd:∀k,k < W.length->0<=d k/\d k<=(bu W k).2.2)(hl:Pm W):∀k,k<=W.length->∀j,j < k->0<=(jy d G T W k).getD j 0/\(jy d G T W k).getD j 0<=(bu W j).2.2
 | 0,_,j,hj=>by lia
 | k+1,hk,j,hj=>by
  have ih:=wX hd hl k (by lia) j;have len:(jy d G T W k).length=k:=j9 k;have key:∀x,(0<=x/\x<=(bu W k).2.2)->0<=(jy d G T W k++[x]).getD j 0/\(jy d G T W k++[x]).getD j 0<=(bu W j).2.2:=λx hx=>by
   by_cases hjk:j < k
   ·rw[zG,yP (by lia),<- zG];exact ih hjk
   ·have:j=k:=by lia
    subst this;rw[zG,yQ (by lia),len];simpa using hx
  unfold jy;split
  ·exact key _ (hd k (by lia))
  ·exact key _ ⟨by lia,hl k⟩
def KL(h:Wd G T W)(hd:∀k,k < W.length->0<=d k/\d k<=(bu W k).2.2):Pn G T W (jy d G T W W.length) where
 len:=j9 _
 bd:=wX hd h.lim W.length (yJ _)
 am:=gf.mp (xq h _)
end
section
variable {P off:List Int}
end
def pF{tt:Dl.Env->Option Bool}{te:Dl.Env->Option D}{r:List (Option D)}{x y h:Nat->D}{p:Nat->Bool}:∀ (is:List Nat),
  (∀i∈is,tt (some (x i)::some (y i)::r)=some (p i)/\(p i=true->te (some (x i)::some (y i)::r)=some (h i))) ->
  cY (mC 0 1) tt te (none::none::r) (is.map λi=>.tuple [x i,y i])=some ((is.filter p).map h)
 | [],_=>rfl
 | i::is,hh=>by
  let⟨h1,h2⟩:=hh i zE;have ih:=pF is λj hj=>hh j (zC _ hj);have hg:mC 0 1 (none::none::r) (.tuple [x i,y i])=some (some (x i)::some (y i)::r):=by
   simp?[mC,isFree,xN,yV,qD,Option.isNone_none,jK,xE,yS,yT]
  rw[zI,cY,hg];simp?[zA,h1];cases hp:p i with
  | true=>simp[h2 hp,ih,hp]
  | false=>simp[ih,hp]
def iD{cs:List Nat}{fi:Dl.Env->Option (List D)}{tt:Dl.Env->Option Bool}{te:Dl.Env->Option D}{ρ:Dl.Env}{n:Nat}{x y h:Nat->D}{p:Nat->Bool}(hfi:fi ρ=some ((List.range n).map λi=>.tuple [x i,y i]))(hl:n<=1000)
  (hh:∀i,i < n->tt (some (x i)::some (y i)::cs.map λj=>(ρ[j]?).getD none)=some (p i)/\(p i=true->te (some (x i)::some (y i)::cs.map λj=>(ρ[j]?).getD none)=some (h i))) :
  aw 2 cs fi (mC 0 1) tt te ρ=some (((List.range n).filter p).map h):=by
 have:=pF (tt:=tt) (te:=te) (r:=cs.map λj=>(ρ[j]?).getD none) (p:=p) (h:=h) (List.range n) λi hi=>hh i (by simpa using hi);simp?[aw,hfi,zA,iM,List.replicate,xC,xK,this];refine bx ?_;rw[zD];refine yB (xM _ _) ?_;rw[zR];lia
def lN{W:List Wy}{P:List Int}(h:P.length=W.length):gq (W.map av) (P.map PyData.int)=(List.range W.length).map λi=>.tuple [av (bu W i),.int (P.getD i 0)]:=by
 apply List.ext_getElem?;intro i;by_cases hi:i < W.length
 ·have hz:i < (gq (W.map av) (P.map PyData.int)).length:=by rw[k8];simp[h];exact hi
  rw[zK hz];let⟨x,y,e1,e2,e3⟩:=nz (zK hz);rw[zO,Hh hi] at e1;rw[zO,zK (by lia)] at e2;cases e1;have e2:PyData.int P[i]=y:=by simpa using e2
  rw[e3,<- e2];have:i < P.length:=by lia
  simp[hi,this,zG]
 ·rw[jH (by rw[k8];simp;lia),jH (by simp;lia)]
def Sm(P:List Int):Prop:=∀k,-1000000<=P.getD k 0/\P.getD k 0<=1000000
def za(hs:Sm P)(hw:W.length<=16)(b:Bool)(p:Int):IX ((own b W p).map λi=>P.getD i 0)=true:=by
 unfold IX;rw[zF,zJ,xD];refine⟨?_,λx hx=>?_⟩
 ·have:=Gw b W p;rw[zD];lia
 ·let⟨i,_,rfl⟩:=List.mem_map.mp hx;rw[zF,zJ,zJ];exact hs i
def Bz(h:Wd G T W)(hp:P.length=W.length)(hs:Sm P)(b:Bool)(p:Int):gC [bb G T W,ak P,.int (sI b),.int p]=some (.int (oF b W P p)):=by
 have hw:=h.wl;refine aJ ?_;show p9 [.val (bb G T W),.val (ak P),.val (.int (sI b)),.val (.int p)]=_;have hz:cO (aa (f2 aF (ae 0) (fC (.int 2))) (aa (ae 1) af)) [some (bb G T W),some (ak P),some (.int (sI b)),some (.int p)]=some ((List.range W.length).map λi=>.tuple [av (bu W i),.int (P.getD i 0)]):=by
  rw[<- lN hp];rfl
 have c:aw 2 [2,3] (cO (aa (f2 aF (ae 0) (fC (.int 2))) (aa (ae 1) af))) (mC 0 1) (fB (f2 bj (f2 aF (ae 0) (ae 2)) (ae 3))) (ae 1) [some (bb G T W),some (ak P),some (.int (sI b)),some (.int p)]=some ((own b W p).map λi=>.int (P.getD i 0)):=by
  rw[iD (p:=λi=>decide (rq b (bu W i)=p)) (h:=λi=>.int (P.getD i 0)) hz (by lia) λi hi=>⟨?_,λ_=>rfl⟩]
  ·rfl
  ·show fB (f2 bj (f2 aF (ae 0) (ae 2)) (ae 3)) [some (av (bu W i)),some (.int (P.getD i 0)),some (.int (sI b)),some (.int p)]=_;exact aX (by rw[Es (a:=.int (rq b (bu W i))) (b:=.int p) (aq (zd b _) rfl rfl) rfl,dP])
 refine aZ ?_;have e:((own b W p).map λi=>PyData.int (P.getD i 0))=((own b W p).map λi=>P.getD i 0).map PyData.int:=by rw[zM];rfl
 show aU nr (aa (bM (aw 2 [2,3] (cO (aa (f2 aF (ae 0) (fC (.int 2))) (aa (ae 1) af))) (mC 0 1) (fB (f2 bj (f2 aF (ae 0) (ae 2)) (ae 3))) (ae 1))) af) [some (bb G T W),some (ak P),some (.int (sI b)),some (.int p)]=_;rw[e] at c;simp?[aU,aa,af,bM,c,zB,zA];show nr [.list (((own b W p).map λi=>P.getD i 0).map PyData.int)]=_;simp?[nr,br,oneOf,gk,zA,eS,za hs hw b p,xE];rfl
def nU(L:List Pl):cR 0 (L.map aI)=(List.range L.length).map λi=>.tuple [nD i,aI (L.getD i (0,[]))]:=by
 rw[enum_zip];apply jC
 ·simp
 ·intro i h1 h2;have:i < L.length:=by simpa using h2
  simp[this,zG]
def pS(is:List Nat):kf [.list (is.map λi=>.bool (p i))]=some (.bool (is.all p)):=by
 have:∀is:List Nat,boolsOf (is.map λi=>PyData.bool (p i))=some (is.map p):=λis=>by
  induction is with
  | nil=>rfl
  | cons i is ih=>simp[boolsOf,ih]
 simp?[kf,oneOf,zA,this,zB,List.all_map];rfl
def zh(h:Wd G T W)(hp:P.length=W.length)(hs:Sm P)(b:Bool):cH [bb G T W,ak P,.int (sI b)]=some (.bool ((List.range (eu b G T).length).all λi=>decide (oF b W P i<=(lM b G T i).1))):=by
 have hl:=h.pl b;refine aJ ?_;show ia [.val (bb G T W),.val (ak P),.val (.int (sI b))]=_;have he:dI (aa (f2 aF (ae 0) (ae 2)) af) [some (bb G T W),some (ak P),some (.int (sI b))]=some ((List.range (eu b G T).length).map λi=>.tuple [nD i,aI (lM b G T i)]):=by
  have:=nU (eu b G T);unfold lM;rw[<- this];cases b<;>rfl
 have c:=iD (cs:=[0,1,2]) (tt:=λ_=>some true) (te:=f2 Ag (ah 4 gC (aa (ae 2) (aa (ae 3) (aa (ae 4) (aa (ae 0) af))))) (f2 aF (ae 1) (fC (.int 0)))) (p:=λ_=>true) (h:=λi=>.bool (decide (oF b W P i<=(lM b G T i).1))) he (by lia) λi hi=>⟨rfl,λ_=>aq (a:=.int (oF b W P i)) (b:=.int (lM b G T i).1) rfl (call_of (Bz h hp hs b i) rfl rfl) rfl⟩
 refine aZ ?_;show aU kf (aa (bM (aw 2 [0,1,2] (dI (aa (f2 aF (ae 0) (ae 2)) af)) (mC 0 1) (λ_=>some true) (f2 Ag (ah 4 gC (aa (ae 2) (aa (ae 3) (aa (ae 4) (aa (ae 0) af))))) (f2 aF (ae 1) (fC (.int 0)))))) af) [some (bb G T W),some (ak P),some (.int (sI b))]=_;simp?[aU,aa,af,bM,c,zB,zA];rw[show (List.range (eu b G T).length).filter (λ_=>true)=List.range (eu b G T).length by simp,pS]
def Ff(ha:fa ρ=some (.bool true))(hb:fb ρ=some d):i9 fa fb ρ=some d:=by
 simp?[i9,ha,zA,hb]
def Hv(ha:fa ρ=some (.bool false)):i9 fa fb ρ=some (.bool false):=by
 simp?[i9,ha,zA]
def GK(ha:fa ρ=some (.bool a))(hb:fb ρ=some (.bool b)):i9 fa fb ρ=some (.bool (a&&b)):=by
 cases a
 ·exact Hv ha
 ·exact Ff ha hb
def bT(h:f ρ=some d):aU g (aa f af) ρ=g [d]:=by
 simp?[aU,aa,af,h,zB,zA]
def il{l:List α}(h:f ρ=some (.tuple (l.map k))):aU bE (aa f af) ρ=some (nD l.length):=by
 rw[bT h,Ii,zD]
def NO(W:List Wy)(P:List Int):Bool:=(List.range W.length).all λk=>decide (0<=P.getD k 0)&&decide (P.getD k 0<=(bu W k).2.2)
def xv(b:Bool)(G T:List Pl)(W:List Wy)(P:List Int):Bool:=(List.range (eu b G T).length).all λi=>decide (oF b W P i<=(lM b G T i).1)
def Nh(G T:List Pl)(W:List Wy)(P:List Int):Bool:=NO W P&&(xv false G T W P&&xv true G T W P)
def Gh(hp:P.length=W.length):Nh G T W P=true↔Pn G T W P:=by
 simp?[Nh,NO,xv,zF,xD,List.mem_range,zJ];constructor
 ·rintro⟨h1,h2,h3⟩;exact⟨hp,h1,λb=>by cases b<;>assumption⟩
 ·intro p;exact⟨p.bd,p.am false,p.am true⟩
def KS(P:List Int):iE (ak P)=true:=rfl
def BL(h:Wd G T W)(hp:P.length=W.length)(hs:Sm P):bN [bb G T W,ak P]=some (.bool (Nh G T W P)):=by
 have hw:=h.wl;have hlen:(P.map PyData.int).length=W.length:=by rw[zD,hp]
 refine aJ ?_;show gE [.val (bb G T W),.val (ak P),.non]=_;unfold gE;have t1:Dl.aS 2 [0] (f2 aF (ae 0) (fC (.int 2))) [.val (bb G T W),.val (ak P),.non]=some (.nx [.val (bb G T W),.val (ak P),.val (.tuple (W.map av))]):=A3 (d:=.tuple (W.map av)) rfl rfl rfl rfl;rw[ao t1];have el:bA [ak P,nD W.length,nD W.length]=some (.bool true):=by
  rw[show nD W.length=.int ((W.length:Nat):Int) from rfl,cN (KS P)];simp[long,ak,hp]
 have hl:∀ρ:Dl.Env,ae 2 ρ=some (.tuple (W.map av))->aU bE (aa (ae 2) af) ρ=some (nD W.length):=λρ hr=>il hr;have c1:(bf (fB (ah 3 bA (aa (ae 1) (aa (aU bE (aa (ae 2) af)) (aa (aU bE (aa (ae 2) af)) af)))))) (aL [.val (bb G T W),.val (ak P),.val (.tuple (W.map av))])=some false :=
  bZ (aX (call_of el (cons_of rfl (cons_of (hl _ rfl) (cons_of (hl _ rfl) rfl))) rfl))
 rw[ao (bo c1)];have hz:cO (aa (ae 2) (aa (ae 1) af)) [some (bb G T W),some (ak P),some (.tuple (W.map av))]=some ((List.range W.length).map λi=>.tuple [av (bu W i),.int (P.getD i 0)]):=by
  rw[<- lN hp];rfl
 have c2:=iD (cs:=[]) (tt:=λ_=>some true) (te:=ah 3 ba (aa (ae 1) (aa (fC (.int 0)) (aa (f2 aF (ae 0) (fC (.int 2))) af)))) (p:=λ_=>true) (h:=λk=>.bool (decide (0<=P.getD k 0)&&decide (P.getD k 0<=(bu W k).2.2))) hz (by lia)
  λi hi=>⟨rfl,λ_=>call_of (dB (d:=.int (P.getD i 0)) rfl 0 (bu W i).2.2) rfl rfl⟩
 have hall:(fB (aU kf (aa (bM (aw 2 [] (cO (aa (ae 2) (aa (ae 1) af))) (mC 0 1) (λ_=>some true) (ah 3 ba (aa (ae 1) (aa (fC (.int 0)) (aa (f2 aF (ae 0) (fC (.int 2))) af)))))) af))) [some (bb G T W),some (ak P),some (.tuple (W.map av))]=some (NO W P):=by
  refine aX ?_;simp?[aU,aa,af,bM,c2,zB,zA];rw[show (List.range W.length).filter (λ_=>true)=List.range W.length by simp,pS];rfl
 have k0:=zh h hp hs false;have k1:=zh h hp hs true;cases hb:NO W P with
 | false =>
  rw[hb] at hall;refine sf ((fI (bZ hall)).trans ?_);rw[Nh,hb];exact aZ rfl
 | true =>
  rw[hb] at hall;rw[ao (bo (bZ hall)),Nh,hb,jG];exact aZ (GK (call_of k0 rfl rfl) (call_of k1 rfl rfl))
def gY(hk:k < W.length):bu W k∈W:=iA hk ▸ xX hk
def Pn.smP(h:Wd G T W)(p:Pn G T W P):Sm P:=λk=>by
 by_cases hk:k < W.length
 ·have:=p.bd k hk;have:=(h.wr _ (gY hk)).2.2.2;lia
 ·rw[zG,jH (by rw[p.len];lia)];simp
def fQ(h:Wd G T W)(p:Pn G T W P):bN [bb G T W,ak P]=some (.bool true):=by
 rw[BL h p.len (p.smP h),(Gh p.len).mpr p]
def qt(h:Wd G T W)(p:Pn G T W P):cy [bb G T W,ak P]=some .none:=by
 have:ej [.val (bb G T W),.val (ak P)]=some (.nx [.val (bb G T W),.val (ak P)]):=by
  unfold ej;refine (ao (jx (call_of (dG h) rfl rfl))).trans ?_;exact bo (bZ (aX (call_of (fQ h p) rfl rfl)))
 show (ej [.val (bb G T W),.val (ak P)]).map _=_;rw[this];rfl
def tup_is(h:fs ρ=some ds)(hl:ds.length<=1000):aP fs ρ=some (.tuple ds):=by
 simp?[aP,h,zA,bx (show ds.length<=4000 by lia),zB]
def BD{cs:List Nat}{fi:Dl.Env->Option (List D)}{te:Dl.Env->Option D}{ρ:Dl.Env}{is:List Nat}{f:Nat->D}(hfi:fi ρ=some (is.map nD))(hl:is.length<=1000)(hh:∀i∈is,te (some (nD i)::cs.map λj=>(ρ[j]?).getD none)=some (f i)):aw 1 cs fi (fG 0) (λ_=>some true) te ρ=some (is.map f):=by
 rw[cM (h:=λd=>f (mr d).toNat) hfi (by rw[zD];lia) λd hd=>?_]
 ·rw[zM];refine qX some (yG λi _=>?_);simp[mr]
 ·let⟨i,hi,rfl⟩:=List.mem_map.mp hd;rw[hh i hi];simp[mr]
def GD(h:f ρ=some (.list ds))(h2:g ρ=some (nD k)):cC bJ f (lh g) cZ ρ=some (.list (ds.drop k)):=by
 have:=uu ds k;simp?[cC,h,lh,h2,cZ,gI,bJ,zA,zB,this]
def gL(f:Nat->D)(R:Nat->ar->Prop):∀ (n k:Nat) (ρ:ar),
  (∀j ρ,k<=j->j < k+n->R j ρ->∃ρ1 ρ2,tgt ρ (f j)=some ρ1/\gb ρ1=some (.nx ρ2)/\R (j+1) ρ2)->R k ρ->∃ρ',dm tgt gb ((List.range' k n).map f) ρ=some (.nx ρ')/\R (k+n) ρ'
 | 0,k,ρ,_,h=>⟨ρ,rfl,h⟩
 | n+1,k,ρ,hh,h=>by
  let⟨ρ1,ρ2,e1,e2,h2⟩:=hh k ρ (yJ _) (by lia) h;let⟨ρ',e3,h3⟩:=gL f R n (k+1) ρ2 (λj ρ a b=>hh j ρ (by lia) (by lia)) h2;refine⟨ρ',?_,by rw[show k+(n+1)=k+1+n by lia];exact h3⟩;rw[List.range'_succ,zI,dm,e1,zA,e2];exact e3
def Jg(hl:n<=1000):Dl.eL (.tuple [.int 0]) (nD n)=some (ak (zs n)):=by
 have e:uj (.tuple [.int 0]) (nD n)=some (ak (zs n)):=by
  show (if oX ((n:Nat):Int)=true/\[PyData.int 0].length * ((n:Nat):Int).toNat<=sizeLine then some (PyData.tuple (List.replicate ((n:Nat):Int).toNat [PyData.int 0]).flatten) else none)=_;have hz:[PyData.int 0].length * n<=sizeLine:=by
   rw[yZ,Nat.one_mul];exact yB hl (by decide)
  rw[yE,yI ⟨mV hl,hz⟩,IM];rfl
 show ((sO oV λi j=>PyData.int (i * j)) (.tuple [.int 0]) (nD n)).or (uj (.tuple [.int 0]) (nD n))=_;rw[e];rfl
def uV{W:List Wy}{P:List Int}(h:P.length=W.length):gq (P.map PyData.int) (W.map av)=(List.range W.length).map λi=>.tuple [.int (P.getD i 0),av (bu W i)]:=by
 have:∀ (a:List Int) (l:List Wy),a.length=l.length->gq (a.map PyData.int) (l.map av)=(List.range l.length).map λi=>.tuple [.int (a.getD i 0),av (bu l i)]:=by
  intro a
  induction a with
  | nil=>intro l e;cases l with|nil=>rfl|cons _ _=>simp at e
  | cons x a ih =>
   intro l e;cases l with
   | nil=>simp at e
   | cons w l =>
    rw[zI,zI,gq,ih l (by simpa using e),zL,vA,zI,zM];rfl
 exact this P W h
def uQ(h:Wd G T W)(hp:P.length=W.length)(hs:Sm P)(b:Bool)(p:Int):dN [bb G T W,ak P,.int (sI b),.int p]=some (.int (oF b W P p)):=by
 have hw:=h.wl;refine aJ ?_;show mq [.val (bb G T W),.val (ak P),.val (.int (sI b)),.val (.int p)]=_;have hz:cO (aa (ae 1) (aa (f2 aF (ae 0) (fC (.int 2))) af)) [some (bb G T W),some (ak P),some (.int (sI b)),some (.int p)]=some ((List.range W.length).map λi=>.tuple [.int (P.getD i 0),av (bu W i)]):=by
  rw[<- uV hp];rfl
 have c:aw 2 [2,3] (cO (aa (ae 1) (aa (f2 aF (ae 0) (fC (.int 2))) af))) (mC 0 1) (fB (f2 bj (f2 aF (ae 1) (ae 2)) (ae 3))) (ae 0) [some (bb G T W),some (ak P),some (.int (sI b)),some (.int p)]=some ((own b W p).map λi=>.int (P.getD i 0)):=by
  rw[iD (p:=λi=>decide (rq b (bu W i)=p)) (h:=λi=>.int (P.getD i 0)) hz (by lia) λi hi=>⟨?_,λ_=>rfl⟩]
  ·rfl
  ·show fB (f2 bj (f2 aF (ae 1) (ae 2)) (ae 3)) [some (.int (P.getD i 0)),some (av (bu W i)),some (.int (sI b)),some (.int p)]=_;exact aX (by rw[Es (a:=.int (rq b (bu W i))) (b:=.int p) (aq (zd b _) rfl rfl) rfl,dP])
 refine aZ ?_;have e:((own b W p).map λi=>PyData.int (P.getD i 0))=((own b W p).map λi=>P.getD i 0).map PyData.int:=by rw[zM];rfl
 show aU nr (aa (bM (aw 2 [2,3] (cO (aa (ae 1) (aa (f2 aF (ae 0) (fC (.int 2))) af))) (mC 0 1) (fB (f2 bj (f2 aF (ae 1) (ae 2)) (ae 3))) (ae 0))) af) [some (bb G T W),some (ak P),some (.int (sI b)),some (.int p)]=_;rw[e] at c;simp?[aU,aa,af,bM,c,zB,zA];show nr [.list (((own b W p).map λi=>P.getD i 0).map PyData.int)]=_;simp?[nr,br,oneOf,gk,zA,eS,za hs hw b p,xE];rfl
def OV:ar->Option Out:=(dh [0,2] (dI (aa (f2 aF (ae 0) (ae 2)) af)) (dk 3 4) (gx (fB (f2 uL (ah 4 dN (aa (ae 0) (aa (ae 1) (aa (ae 2) (aa (ae 3) af))))) (f2 aF (ae 4) (fC (.int 0))))) (aO (fC (.bool false))) fH))
def HC(h:Wd G T W)(hp:P.length=W.length)(hs:Sm P)(b:Bool)(x y:Slot):(xv b G T W P=false->OV [.val (bb G T W),.val (ak P),.val (.int (sI b)),x,y]=some (.rt (.bool false)))/\(xv b G T W P=true->∃x' y',OV [.val (bb G T W),.val (ak P),.val (.int (sI b)),x,y]=some (.nx [.val (bb G T W),.val (ak P),.val (.int (sI b)),x',y'])):=by
 have hl:=h.pl b;let⟨f1,f2'⟩:=ji (tgt:=dk 3 4) (gb:=gx (fB (f2 uL (ah 4 dN (aa (ae 0) (aa (ae 1) (aa (ae 2) (aa (ae 3) af))))) (f2 aF (ae 4) (fC (.int 0))))) (aO (fC (.bool false))) fH)
  (λρ=>∃x y,ρ=[.val (bb G T W),.val (ak P),.val (.int (sI b)),x,y]) (λi:Nat=>.tuple [nD i,aI (lM b G T i)]) (λi=>decide ((lM b G T i).1 < oF b W P i)) (λ_=>.bool false)
  (l:=List.range (eu b G T).length) (ρ:=[.val (bb G T W),.val (ak P),.val (.int (sI b)),x,y])
  (λρ i hi hρ=>by
   let⟨x,y,rfl⟩:=hρ;have c:(fB (f2 uL (ah 4 dN (aa (ae 0) (aa (ae 1) (aa (ae 2) (aa (ae 3) af))))) (f2 aF (ae 4) (fC (.int 0))))) (aL [.val (bb G T W),.val (ak P),.val (.int (sI b)),.val (nD i),.val (aI (lM b G T i))])=some (decide ((lM b G T i).1 < oF b W P i)) :=
    aX (aq (m4 _ _) (call_of (uQ h hp hs b i) rfl rfl) (aq (a:=aI (lM b G T i)) (b:=.int 0) rfl rfl rfl))
   refine⟨_,rfl,λhq=>?_,λhq=>?_⟩
   ·rw[hq] at c;exact (fI c).trans (aZ rfl)
   ·rw[hq] at c;exact⟨_,bo c,_,_,rfl⟩) ⟨_,_,rfl⟩
 have he:dI (aa (f2 aF (ae 0) (ae 2)) af) (bW [.val (bb G T W),.val (ak P),.val (.int (sI b)),x,y])=some ((List.range (eu b G T).length).map λi=>.tuple [nD i,aI (lM b G T i)]):=by
  have:=nU (eu b G T);unfold lM;rw[<- this];cases b<;>rfl
 have hh:hand [0,2] 0 [Slot.val (bb G T W),.val (ak P),.val (.int (sI b)),x,y]=[Slot.val (bb G T W),.val (ak P),.val (.int (sI b)),x,y]:=rfl;unfold xv;constructor
 ·intro hk;cases e:(List.range (eu b G T).length).find? λi=>decide ((lM b G T i).1 < oF b W P i) with
  | some i=>exact bL (f1 i e) he hh
  | none =>
   rw[List.find?_eq_none] at e;rw[List.all_eq_false] at hk;let⟨i,hi,hn⟩:=hk;have:=e i hi;simp?[zJ] at this hn;lia
 ·intro hk;have e:(List.range (eu b G T).length).find? (λi=>decide ((lM b G T i).1 < oF b W P i))=none:=by
   rw[List.find?_eq_none];intro i hi;have:=List.all_eq_true.mp hk i hi;simp?[zJ] at this ⊢;lia
  let⟨ρ',e',x',y',rfl⟩:=f2' e;exact⟨x',y',bL e' he hh⟩
def K8:oP G T W P=(xv false G T W P&&xv true G T W P):=rfl
def uW(h:Wd G T W)(hp:P.length=W.length)(hs:Sm P):dO [bb G T W,ak P]=some (.bool (oP G T W P)):=by
 let⟨f1,f2'⟩:=ji (tgt:=p8 2) (gb:=OV)
  (λρ=>∃x y z,ρ=[.val (bb G T W),.val (ak P),x,y,z]) (λb:Bool=>.int (sI b)) (λb=>!(xv b G T W P)) (λ_=>.bool false)
  (l:=[false,true]) (ρ:=[.val (bb G T W),.val (ak P),.non,.non,.non])
  (λρ b _ hρ=>by
   let⟨x,y,z,rfl⟩:=hρ;let⟨r1,r2⟩:=HC h hp hs b y z;refine⟨_,rfl,λhq=>?_,λhq=>?_⟩
   ·exact r1 (by simpa using hq)
   ·let⟨x',y',e⟩:=r2 (by simpa using hq);exact⟨_,e,_,_,_,rfl⟩) ⟨_,_,_,rfl⟩
 have hr:dc (aa (fC (.int 2)) af) (bW [.val (bb G T W),.val (ak P),.non,.non,.non])=some ([false,true].map λb=>.int (sI b)):=nP (n:=2) rfl (by lia);refine aJ ?_;show iO [.val (bb G T W),.val (ak P),.non,.non,.non]=_;unfold iO;rw[K8];cases e0:xv false G T W P with
 | false =>
  have e:[false,true].find? (λb=>!(xv b G T W P))=some false:=by rw[vB (by simp[e0])]
  exact sf (bL (f1 _ e) hr rfl)
 | true =>
  cases e1:xv true G T W P with
  | false =>
   have e:[false,true].find? (λb=>!(xv b G T W P))=some true:=by rw[kA (by simp[e0]),vB (by simp[e1])]
   exact sf (bL (f1 _ e) hr rfl)
  | true =>
   have e:[false,true].find? (λb=>!(xv b G T W P))=none:=by rw[kA (by simp[e0]),kA (by simp[e1])];rfl
   let⟨ρ',e',x,y,z,rfl⟩:=f2' e;exact (ao (bL e' hr rfl)).trans (aZ rfl)
def Sm.app(ha:Sm a)(hb:Sm b):Sm (a++b):=λk=>by
 by_cases hk:k < a.length
 ·have:=ha k
  rwa [show (a++b).getD k 0=a.getD k 0 by simp[yP hk]]
 ·have:=hb (k - a.length)
  rwa [show (a++b).getD k 0=b.getD (k - a.length) 0 by simp[yQ (by lia:a.length<=k)]]
def LD(h1:-1000000<=x)(h2:x<=1000000):Sm [x]:=λk=>by
 cases k with
 | zero=>exact⟨h1,h2⟩
 | succ k=>simp
def MK(n:Nat):Sm (zs n):=λk=>by rw[IP];lia
def oS(ns:List Int)(at':Int)(W:List Wy)(k:Nat):Int:=dr ns (at'+(k:Nat)) ((bu W k).2.2+1)
def wW(hl:ns.length<=63)(h:Wd G T W)(hk:k < W.length):0<=oS ns at' W k/\oS ns at' W k<=(bu W k).2.2:=by
 have:=(h.wr _ (gY hk)).2.2;have h1:=Jr (ns:=ns) (at'+(k:Nat)) ((bu W k).2.2+1) hl (by lia);have h2:=Js (ns:=ns) (at'+(k:Nat)) ((bu W k).2.2+1) hl (by lia);unfold oS;lia
def O9:ar->Option Out:=(ax (aS 6 [0,1,3,4,5] (f2 aB (ae 3) (aP (aa (ah 3 aj (aa (ae 0) (aa (f2 aB (ae 1) (ae 4)) (aa (f2 aB (f2 aF (ae 5) (fC (.int 2))) (fC (.int 1))) af)))) af)))) (ax (aS 7 [2,6] (ah 2 dO (aa (ae 2) (aa (f2 aB (ae 6) (f2 eL (aP (aa (fC (.int 0)) af)) (f2 Dl.jw (aU bE (aa (f2 aF (ae 2) (fC (.int 2))) af)) (aU bE (aa (ae 6) af))))) af)))) (aS 3 [3,6,7] (BN (fB (ae 7)) (ae 6) (f2 aB (ae 3) (aP (aa (fC (.int 0)) af)))))))
def mU(h:a.length+b.length<=1000):Dl.aB (ak a) (ak b)=some (ak (a++b)):=by
 unfold ak;rw[ye (by simp;lia),qU]
def rX(h:tc ρ=some true)(ha:fa ρ=some d):BN tc fa fb ρ=some d:=by
 simp?[BN,h,zA,ha]
def wV(h:tc ρ=some false)(ha:fb ρ=some d):BN tc fa fb ρ=some d:=by
 simp?[BN,h,zA,ha]
def K1(hl:ns.length<=63)(h:Wd G T W)(hk:k<=W.length):Sm (jy (oS ns at' W) G T W k):=λj=>by
 by_cases hj:j < k
 ·have:=wX (d:=oS ns at' W) (G:=G) (T:=T) (W:=W) (λk hk=>wW hl h hk) h.lim k hk j hj;have:=(h.wr _ (gY (show j < W.length by lia))).2.2;lia
 ·rw[zG,jH (by rw[j9];lia)];simp
def Gb(hl:ns.length<=63)(h:Wd G T W)(hk:k < W.length)(x y:Slot):∃x' y',O9 [.val (eI ns),.val (.int at'),.val (bb G T W),.val (ak (jy (oS ns at' W) G T W k)),.val (nD k),.val (av (bu W k)),x,y]=some (.nx [.val (eI ns),.val (.int at'),.val (bb G T W),.val (ak (jy (oS ns at' W) G T W (k+1))),.val (nD k),.val (av (bu W k)),x',y']):=by
 have hw:=h.wl;have hr:=(h.wr _ (gY hk)).2.2;have hsm:=K1 (at':=at') hl h (jO hk);have hfl:=j9 (d:=oS ns at' W) (G:=G) (T:=T) (W:=W) k;have hdb:=wW (at':=at') hl h hk;have e2:jy (oS ns at' W) G T W (k+1)=if oP G T W ((jy (oS ns at' W) G T W k++[oS ns at' W k])++zs (W.length - (jy (oS ns at' W) G T W k++[oS ns at' W k]).length))=true then jy (oS ns at' W) G T W k++[oS ns at' W k] else jy (oS ns at' W) G T W k++[0]:=rfl
 rw[e2];clear e2;generalize hf:jy (oS ns at' W) G T W k=f at hsm hfl ⊢;generalize hd:oS ns at' W k=d at hdb ⊢;have ed:∀ρ:Dl.Env,ae 0 ρ=some (eI ns)->ae 1 ρ=some (.int at')->ae 4 ρ=some (nD k)->ae 5 ρ=some (av (bu W k))->(ah 3 aj (aa (ae 0) (aa (f2 aB (ae 1) (ae 4)) (aa (f2 aB (f2 aF (ae 5) (fC (.int 2))) (fC (.int 1))) af)))) ρ=some (.int d):=λρ a b c e=>by
  rw[<- hd];exact call_of (EM (at'+((k:Nat):Int)) ((bu W k).2.2+1) hl (by lia)) (cons_of a (cons_of (aq (aQ at' k) b c) (cons_of (aq (aQ (bu W k).2.2 1) (aq (Ai _) e rfl) rfl) rfl))) rfl
 have em:∀ρ:Dl.Env,ae 0 ρ=some (eI ns)->ae 1 ρ=some (.int at')->ae 3 ρ=some (ak f)->ae 4 ρ=some (nD k)->ae 5 ρ=some (av (bu W k))->(f2 aB (ae 3) (aP (aa (ah 3 aj (aa (ae 0) (aa (f2 aB (ae 1) (ae 4)) (aa (f2 aB (f2 aF (ae 5) (fC (.int 2))) (fC (.int 1))) af)))) af))) ρ=some (ak (f++[d])):=λρ a b z c e =>
  aq (mU (a:=f) (b:=[d]) (by simp;lia)) z (Fk (ed ρ a b c e))
 have t6:Dl.aS 6 [0,1,3,4,5] (f2 aB (ae 3) (aP (aa (ah 3 aj (aa (ae 0) (aa (f2 aB (ae 1) (ae 4)) (aa (f2 aB (f2 aF (ae 5) (fC (.int 2))) (fC (.int 1))) af)))) af))) [.val (eI ns),.val (.int at'),.val (bb G T W),.val (ak f),.val (nD k),.val (av (bu W k)),x,y]=some (.nx [.val (eI ns),.val (.int at'),.val (bb G T W),.val (ak f),.val (nD k),.val (av (bu W k)),.val (ak (f++[d])),y]) :=
  bD (em _ rfl rfl rfl rfl rfl) (em _ rfl rfl rfl rfl rfl) rfl
 have hlen:(f++[d]).length=k+1:=by simp[hfl]
 have hsub:((W.length:Nat):Int) - (((f++[d]).length:Nat):Int)=((W.length - (f++[d]).length:Nat):Int):=by lia
 have hwl:((f++[d])++zs (W.length - (f++[d]).length)).length=W.length:=by simp[zs,hfl];lia
 have hsl:Sm ((f++[d])++zs (W.length - (f++[d]).length)):=(hsm.app (LD (by lia) (by lia))).app (MK _);have ef:∀ρ:Dl.Env,ae 2 ρ=some (bb G T W)->ae 6 ρ=some (ak (f++[d]))->(ah 2 dO (aa (ae 2) (aa (f2 aB (ae 6) (f2 eL (aP (aa (fC (.int 0)) af)) (f2 Dl.jw (aU bE (aa (f2 aF (ae 2) (fC (.int 2))) af)) (aU bE (aa (ae 6) af))))) af))) ρ=some (.bool (oP G T W ((f++[d])++zs (W.length - (f++[d]).length)))):=λρ a b=>by
  refine call_of (uW h hwl hsl) (cons_of a (cons_of (aq (mU ?_) b (aq (Jg (n:=W.length - (f++[d]).length) (by lia)) (Fk rfl) ?_)) rfl)) rfl
  ·rw[<- zN,hwl];lia
  ·rw[show nD (W.length - (f++[d]).length)=.int (((W.length:Nat):Int) - (((f++[d]).length:Nat):Int)) by rw[hsub]];exact aq (sub_int _ _) (il (l:=W) (k:=av) (aq (fu G T W) a rfl)) (il (l:=f++[d]) (k:=PyData.int) b)
 have t7:Dl.aS 7 [2,6] (ah 2 dO (aa (ae 2) (aa (f2 aB (ae 6) (f2 eL (aP (aa (fC (.int 0)) af)) (f2 Dl.jw (aU bE (aa (f2 aF (ae 2) (fC (.int 2))) af)) (aU bE (aa (ae 6) af))))) af))) [.val (eI ns),.val (.int at'),.val (bb G T W),.val (ak f),.val (nD k),.val (av (bu W k)),.val (ak (f++[d])),y]=some (.nx [.val (eI ns),.val (.int at'),.val (bb G T W),.val (ak f),.val (nD k),.val (av (bu W k)),.val (ak (f++[d])),.val (.bool (oP G T W ((f++[d])++zs (W.length - (f++[d]).length))))]) :=
  bD (ef _ rfl rfl) (ef _ rfl rfl) rfl
 unfold O9;rw[ao t6,ao t7];have h0:∀ρ:Dl.Env,ae 3 ρ=some (ak f)->(f2 aB (ae 3) (aP (aa (fC (.int 0)) af))) ρ=some (ak (f++[0])):=λρ z=>aq (mU (a:=f) (b:=[0]) (by simp;lia)) z (Fk rfl);generalize oP G T W ((f++[d])++zs (W.length - (f++[d]).length))=fb;cases fb with
 | true =>
  rw[yI rfl];exact⟨_,_,bD (rX (aX rfl) rfl) (rX (aX rfl) rfl) rfl⟩
 | false =>
  rw[yK (by simp)];exact⟨_,_,bD (wV (aX rfl) (h0 _ rfl)) (wV (aX rfl) (h0 _ rfl)) rfl⟩
def qd(W:List Wy):cR 0 (W.map av)=(List.range' 0 W.length).map λi=>.tuple [nD i,av (bu W i)]:=by
 rw[<- yF,enum_zip];apply jC
 ·simp
 ·intro i h1 h2;have:i < W.length:=by simpa using h2
  simp[iA this]
def uS(hl:ns.length<=63)(h:Wd G T W):mh [eI ns,.int at',bb G T W]=some (ak (jy (oS ns at' W) G T W W.length)):=by
 have hw:=h.wl;let⟨ρ',e,x4,x5,x6,x7,rfl⟩:=gL (tgt:=dk 4 5) (gb:=O9) (λi=>.tuple [nD i,av (bu W i)]) (λk ρ=>∃x4 x5 x6 x7,ρ=[.val (eI ns),.val (.int at'),.val (bb G T W),.val (ak (jy (oS ns at' W) G T W k)),x4,x5,x6,x7]) W.length 0 [.val (eI ns),.val (.int at'),.val (bb G T W),.val (ak []),.non,.non,.non,.non]
  (λj ρ _ hj hρ=>by
   let⟨x4,x5,x6,x7,rfl⟩:=hρ;let⟨x',y',e⟩:=Gb (at':=at') hl h (show j < W.length by lia) x6 x7;exact⟨_,_,rfl,e,_,_,_,_,rfl⟩) ⟨_,_,_,_,rfl⟩
 refine aJ ?_;show ik [.val (eI ns),.val (.int at'),.val (bb G T W),.non,.non,.non,.non,.non]=_;unfold ik;have t3:Dl.aS 3 [] (aP af) [.val (eI ns),.val (.int at'),.val (bb G T W),.non,.non,.non,.non,.non]=some (.nx [.val (eI ns),.val (.int at'),.val (bb G T W),.val (ak []),.non,.non,.non,.non]) :=
  bD (tup_is (ds:=[]) rfl (by simp)) (tup_is (ds:=[]) rfl (by simp)) rfl
 rw[ao t3];have he:dI (aa (f2 aF (ae 2) (fC (.int 2))) af) (bW [.val (eI ns),.val (.int at'),.val (bb G T W),.val (ak []),.non,.non,.non,.non])=some ((List.range' 0 W.length).map λi=>.tuple [nD i,av (bu W i)]):=by
  rw[<- qd];rfl
 rw[qY] at e;exact (ao (bL e he rfl)).trans (aZ rfl)
def FO(hl:ns.length<=63)(h:Wd G T W):Pn G T W (jy (oS ns at' W) G T W W.length):=KL h λk hk=>wW hl h hk
def iw:∀ {l:List D},(∀d∈l,PyData.eqv d d=true)->PyData.eqvAll l l=true
 | [],_=>by simp[PyData.eqvAll]
 | d::l,h=>by
  rw[PyData.eqvAll,h d zE,iw λx hx=>h x (zC _ hx)];rfl
def iQ(h:∀d∈l,PyData.eqv d d=true):PyData.eqv (.tuple l) (.tuple l)=true:=by
 rw[PyData.eqv,iw h]
def wH(a:List Int):PyData.eqv (ak a) (ak a)=true:=by rw[uk];simp
def Ct(a:Int):PyData.eqv (.int a) (.int a)=true:=by
 have:=wH [a];rw[ak,PyData.eqv,zI,yR,PyData.eqvAll] at this;simp?[zF] at this;exact this.1
def zi(p:Pl):PyData.eqv (aI p) (aI p)=true:=iQ λd hd=>by
 rcases List.mem_cons.mp hd with rfl|hd
 ·exact Ct _
 ·rw[yH] at hd;subst hd;exact wH _
def GI(w:Wy):PyData.eqv (av w) (av w)=true:=wH [w.1,w.2.1,w.2.2]
def Kl(G T:List Pl)(W:List Wy):PyData.eqv (bb G T W) (bb G T W)=true:=iQ λd hd=>by
 rcases List.mem_cons.mp hd with rfl|hd
 ·exact iQ λd hd=>by let⟨p,_,rfl⟩:=List.mem_map.mp hd;exact zi p
 rcases List.mem_cons.mp hd with rfl|hd
 ·exact iQ λd hd=>by let⟨p,_,rfl⟩:=List.mem_map.mp hd;exact zi p
 ·rw[yH] at hd;subst hd;exact iQ λd hd=>by let⟨p,_,rfl⟩:=List.mem_map.mp hd;exact GI p
def HI(h:Wd G T W):dM (bb G T W) (bb G T W)=some (.bool false):=by
 have hs:SeqAt.shaped (bb G T W)=true:=h.fit.shaped (by decide);simp?[dM,JU,hs,jK,xE,Kl,zB,xV]
def eX(h:Wd G T W):aN [bb G T W]=some (.bool true):=by rw[jo h.fit (by decide),h.wok]
def sm(l:List Nat)(f:Nat->Int):Int:=(l.map f).sum
def ch(m:Nat->Int):Int->List Nat->Nat->Int
 | _,[],_=>0
 | a,q::r,k=>if k=q then min (m q) a else ch m (a - min (m q) a) r k
def up:List Nat->Nat->List Nat
 | [],_=>[]
 | q::r,k=>if k=q then [q] else q::up r k
def lst(b:Bool)(G T:List Pl)(W:List Wy)(i:Nat):List Nat:=Pk b W i (lM b G T i).2
def amt(b:Bool)(G T:List Pl)(i:Nat):Int:=(lM b G T i).1
def vl(P:List Int)(q:Nat):Int:=P.getD q 0
section
variable {G T:List Pl}{W:List Wy}{P X c off:List Int}{b:Bool}{i k q:Nat}
end
section
variable {P X c off:List Int}
end
section
variable {P X c off:List Int}
end
section
variable {P X c off:List Int}
end
def cc(h:f ρ=some ds):bM f ρ=some (.list ds):=by
 simp?[bM,h,zB]
def fy(h:f ρ=some (.tuple ds)):aM f ρ=some ds:=by
 simp?[aM,h,zA,gk]
def fv(h:f ρ=some (.list ds)):aM f ρ=some ds:=by
 simp?[aM,h,zA,gk]
def iC(h:fs ρ=some ds)(hl:ds.length<=1000):du fs ρ=some ds:=by
 simp?[du,h,zA,bx (show ds.length<=4000 by lia)]
structure Wk(G T G' T':List Pl):Prop where
 len:∀b,(eu b G' T').length=(eu b G T).length
 lik:∀b i,(lM b G' T' i).2=(lM b G T i).2
 gv:∀i,amt false G' T' i<=amt false G T i
 tk:∀i,amt true G T i<=amt true G' T' i
section
variable {P X off:List Int}
end
def ext(l:Int)(r:List Int):List (List Int):=(List.range (l+1).toNat).map λm=>r++[((m:Nat):Int)]
def nO:∀ (l:List α),(∀x∈l,tt (some (g x)::r)=some (q x)/\(q x=true->te (some (g x)::r)=some (f x)))->cY (fG 0) tt te (none::r) (l.map g)=some ((l.filter q).map f)
 | [],_=>rfl
 | x::l,h=>by
  have ih:=nO (tt:=tt) (te:=te) (r:=r) (g:=g) (f:=f) (q:=q) l λy hy=>h y (zC _ hy);let⟨h1,h2⟩:=h x zE;have hg:fG 0 (none::r) (g x)=some (some (g x)::r):=rfl;rw[zI,cY,hg,zA,h1,zA,jS];cases e:q x with
  | true =>
   rw[yI rfl,yI rfl,h2 e,zA,ih];rfl
  | false =>
   rw[yK (by simp),yK (by simp),ih]
def Ap{α:Type}{cs:List Nat}{fi:Dl.Env->Option (List D)}{tt:Dl.Env->Option Bool}{te:Dl.Env->Option D}{ρ:Dl.Env}{l:List α}{g f:α->D}{q:α->Bool}(hfi:fi ρ=some (l.map g))(hl:l.length<=3000)(hh:∀x∈l,tt (some (g x)::cs.map λj=>(ρ[j]?).getD none)=some (q x)/\(q x=true->te (some (g x)::cs.map λj=>(ρ[j]?).getD none)=some (f x))):aw 1 cs fi (fG 0) tt te ρ=some ((l.filter q).map f):=by
 have:=nO l hh;simp?[aw,hfi,zA,iM,List.replicate,xC,xK,this];refine bx ?_;rw[zD];refine yB (xM _ _) ?_;lia
def bQ{α:Type}{cs:List Nat}{fi:Dl.Env->Option (List D)}{tt:Dl.Env->Option Bool}{te:Dl.Env->Option D}{ρ:Dl.Env}{l:List α}{g f:α->D}{q:α->Bool}(hfi:fi ρ=some (l.map g))(hl:l.length<=1000)(hh:∀x∈l,tt (some (g x)::cs.map λj=>(ρ[j]?).getD none)=some (q x)/\(q x=true->te (some (g x)::cs.map λj=>(ρ[j]?).getD none)=some (f x))):aw 1 cs fi (fG 0) tt te ρ=some ((l.filter q).map f):=Ap hfi (by lia) hh
def sh(k q:Nat):Nat:=if q < k then q else q+1
section
variable {G T:List Pl}{W:List Wy}{P X:List Int}{b:Bool}{i k q:Nat}
end
def gc{a c:List Int}(h:lexLt a c=false)(h2:lexLt c a=false):a=c:=nX (by unfold lexLe;rw[h2];rfl) (by unfold lexLe;rw[h];rfl)
section
open Ex
abbrev NI:Str:="NoWorld"
abbrev NJ:Str:="NoPlan"
structure uM(m:List D->Option D)(x:List D->Option Str)(ds:List D)(c:Str):Prop where
 n:m ds=none
 x:x ds=some c
structure Jx(m:List D->Option D)(x:List D->Option Str)(ds:List D):Prop where
 n:m ds=some .none
 x:x ds=none
section
variable {m:List D->Option D}{x:List D->Option Str}{ds:List D}{c:Str}{n:Nat}{fs:Dl.Env->Option (List D)}{ρ:ar}
def zj(h:m ds=none){ρ:Dl.Env}(hf:fs ρ=some ds):ah n m fs ρ=none:=by
 unfold ah;rw[hf,zA,h];simp
def NP(h:x ds=some c){ρ:Dl.Env}(hf:fs ρ=some ds)(hn:ds.length=n):pY n x fs ρ=some c:=by
 unfold pY;rw[hf,zA,yI hn,h]
def Qe(h:x ds=none){ρ:Dl.Env}(hf:fs ρ=some ds):pY n x fs ρ=none:=by
 unfold pY;rw[hf,zA,h];simp
def OS(h:f (aL ρ)=none):gJ f ρ=none:=by
 unfold gJ;rw[h];rfl
def uM.one(B:uM m x ds c)(hf:fs (aL ρ)=some ds)(hn:ds.length=n):gJ (ah n m fs) ρ=none/\ja (pY n x fs) ρ=some c:=⟨OS (zj B.n hf),NP B.x hf hn⟩
def Jx.one(B:Jx m x ds)(hf:fs (aL ρ)=some ds)(hn:ds.length=n):gJ (ah n m fs) ρ=some (.nx ρ)/\ja (pY n x fs) ρ=none:=⟨jx (call_of B.n hf hn),Qe B.x hf⟩
def uM.head(B:uM m x ds c)(hf:fs (aL ρ)=some ds)(hn:ds.length=n):ax (gJ (ah n m fs)) g ρ=none/\hU (ja (pY n x fs)) (gJ (ah n m fs)) xr ρ=some c:=by
 let⟨a,b⟩:=B.one hf hn;constructor
 ·unfold ax;rw[a];rfl
 ·unfold hU;rw[b]
def Jx.tail(B:Jx m x ds)(hf:fs (aL ρ)=some ds)(hn:ds.length=n):ax (gJ (ah n m fs)) g ρ=g ρ/\hU (ja (pY n x fs)) (gJ (ah n m fs)) xr ρ=xr ρ:=by
 let⟨a,b⟩:=B.one hf hn;constructor
 ·exact ao a
 ·unfold hU AW;rw[b,a];rfl
def runN(h:g (ds.map Slot.val++List.replicate (n - ds.length) .non)=none):aY g n ds=none:=by
 unfold aY;rw[h];rfl
def NZ(h:t (aL ρ)=some true):FK t xa xb ρ=xa ρ:=by
 unfold FK;rw[h,zA,yI rfl]
def GH(h:t (aL ρ)=some false):FK t xa xb ρ=xb ρ:=by
 unfold FK;rw[h,zA,yK (by simp)]
end
section
variable {G T:List Pl}{W:List Wy}{P X:List Int}{b:Bool}{i:Nat}
def J1(h:aN [d]=some (.bool false)):uM aW bq [d] NI:=by
 have c:(bf (fB (ah 1 aN (aa (ae 0) af)))) (aL [.val d])=some true:=bZ (b:=false) (aX (call_of h rfl rfl));exact⟨runN (fI c),NZ c⟩
def Pw(h:Wd G T W):Jx aW bq [bb G T W]:=⟨dG h,GH (bZ (b:=true) (aX (call_of (eX h) rfl rfl)))⟩
def JI(h:aN [d]=some (.bool false)):uM cy cW [d,p] NI :=
 let z:=(J1 h).head (ρ:=[.val d,.val p]) (fs:=aa (ae 0) af) rfl rfl
 ⟨runN z.1,z.2⟩
def Oy(h:Wd G T W)(hp:bN [bb G T W,p]=some (.bool false)):uM cy cW [bb G T W,p] NJ:=by
 have c:(bf (fB (ah 2 bN (aa (ae 0) (aa (ae 1) af))))) (aL [.val (bb G T W),.val p])=some true:=bZ (b:=false) (aX (call_of hp rfl rfl));exact⟨runN (((Pw h).tail (ρ:=[.val (bb G T W),.val p]) (fs:=aa (ae 0) af) rfl rfl (xr:=jt)).1.trans (fI c)),((Pw h).tail (ρ:=[.val (bb G T W),.val p]) (fs:=aa (ae 0) af) rfl rfl (g:=fH)).2.trans (NZ c)⟩
def Qr(hd:iE d=true)(h:whole a e d=true):Jx fU je [d,.int a,.int e]:=by
 have c:(bf (fB (ah 3 ba (aa (ae 0) (aa (ae 1) (aa (ae 2) af)))))) (aL [.val d,.val (.int a),.val (.int e)])=some false:=bZ (b:=true) (aX (call_of ((dB hd a e).trans (by rw[h])) rfl rfl));refine⟨?_,GH c⟩;show (ck [.val d,.val (.int a),.val (.int e)]).map _=_;rw[show ck [.val d,.val (.int a),.val (.int e)]=some (.nx [.val d,.val (.int a),.val (.int e)]) from bo c];rfl
def okN(hd:iE d=true)(h:whole 0 (n - 1) d=true):Jx eJ iF [d,.int n]:=by
 have z:=(Qr hd h).one (ρ:=[.val d,.val (.int n)]) (fs:=aa (ae 0) (aa (fC (.int 0)) (aa (f2 Dl.jw (ae 1) (fC (.int 1))) af))) (n:=3) rfl rfl;refine⟨?_,z.2⟩;show (bU [.val d,.val (.int n)]).map _=_;rw[show bU [.val d,.val (.int n)]=_ from z.1];rfl
def IX(b:Bool):Jx ko qq [.int (sI b)]:=by
 have hb:whole 0 (2 - 1) (.int (sI b))=true:=by cases b<;>rfl
 exact⟨rT b,((okN (n:=2) rfl hb).one (ρ:=[.val (.int (sI b))]) (fs:=aa (ae 0) (aa (fC (.int 2)) af)) (n:=2) rfl rfl).2⟩
def rE(h:Wd G T W)(hd:iE d=true)(hl:long W.length W.length d=false):bN [bb G T W,d]=some (.bool false):=by
 refine aJ ?_;show gE [.val (bb G T W),.val d,.non]=_;unfold gE;have ew:∀ρ:Dl.Env,ae 0 ρ=some (bb G T W)->f2 aF (ae 0) (fC (.int 2)) ρ=some (.tuple (W.map av)):=λρ a=>aq (fu G T W) a rfl;refine (ao (bD (ew _ rfl) (ew _ rfl) rfl)).trans ?_;have el:∀ρ:Dl.Env,ae 2 ρ=some (.tuple (W.map av))->aU bE (aa (ae 2) af) ρ=some (nD W.length):=λρ a=>il a;refine sf ((fI (bZ (b:=false) (aX (call_of ((cN hd W.length W.length).trans (by rw[hl])) (cons_of rfl (cons_of (el _ rfl) (cons_of (el _ rfl) rfl))) rfl)))).trans (aZ rfl))
def Dh{ds:List D}(h:ds.length≠n):long (n:Int) n (.tuple ds)=false:=by
 rw[nq];exact zX h
def Ju{fin:Str->Option D}(h:gb ρ=some (.rt d)):sS gb xg fin ρ=some (.rt d):=by
 unfold sS;rw[h]
def wo{fin:Str->Option D}(h:gb ρ=none)(h2:xg ρ=some c)(h3:fin c=some d):sS gb xg fin ρ=some (.rt d):=by
 unfold sS;rw[h,h2];simp?[zA,h3,zB]
def cS(j:Int):D:=.tuple [.str "refused",.int j]
abbrev FF:List Str:=["NoWorld","NoPlan","NoPlace","TooMany","Nothing"]
def Ep(h:FF.contains c=true)(hj:rf (.bool true) (FF.map λn=>.bool (c == n))=some j):ku FF c=some (cS j):=by
 unfold ku;rw[yI h,hj];rfl
def MP(b:Bool):PyData.eqv (.bool b) (.bool true)=b:=by cases b<;>simp[PyData.eqv]
def J5:ku FF NI=some (cS 0):=Ep (by decide +kernel) (by simp?[FF,zI,rf,MP,show (NI == ("NoWorld":Str))=true by decide +kernel,xE])
def O4:ku FF NJ=some (cS 1):=Ep (by decide +kernel) (by simp?[FF,zI,rf,MP,show (NJ == ("NoWorld":Str))=false by decide +kernel,show (NJ == ("NoPlan":Str))=true by decide +kernel,xE,yL,qL,zB])
def zx(j:Int):PyData.eqv (cS j) (cS j)=true:=iQ λd hd=>by
 simp?[zQ,yD,xQ] at hd;rcases hd with rfl|rfl
 ·simp[PyData.eqv]
 ·exact Ct j
def mf(j:Int):∀n:Nat,SeqAt.shaped (.list (List.replicate n (cS j)))=true:=λn=>by
 have h:∀n:Nat,PyData.canLayAll0 (List.replicate n (cS j))=true/\PyData.depthAll (List.replicate n (cS j))<=2:=λn=>by
  have hs:PyData.canLay0 (cS j)=true:=by simp[cS,PyData.canLay0,PyData.canLayAll0];decide +kernel
  have hd:PyData.depth (cS j)<=2:=by simp[cS,PyData.depth,PyData.depthAll]
  induction n with
  | zero=>exact⟨by simp[PyData.canLayAll0],by simp[PyData.depthAll]⟩
  | succ n ih=>exact⟨by simp[xB,PyData.canLayAll0,hs,ih.1],by simp?[xB,PyData.depthAll];lia⟩
 have:=h n;unfold SeqAt.shaped;rw[zF];exact⟨by simp[PyData.canLay0,this.1],by simp[PyData.depth];lia⟩
def El(j:Int)(n:Nat):PyData.eqv (.list (List.replicate n (cS j))) (.list (List.replicate n (cS j)))=true:=by
 rw[PyData.eqv];exact iw λd hd=>by rw[List.eq_of_mem_replicate hd];exact zx j
def BA(j:Int)(n:Nat):bj (.list (List.replicate n (cS j))) (.list (List.replicate n (cS j)))=some (.bool true):=by simp?[bj,IY,mf,jK,xE,El,zB]
def o5(a:α):∀n:Nat,(List.replicate n [a]).flatten=List.replicate n a
 | 0=>rfl
 | n+1=>by rw[xB,qJ,o5 a n,xB];rfl
def Ei(j:Int){n:Nat}(hn:n<=10)(ρ:Dl.Env):bM (tM (du (aa (aP (aa (fC (.str "refused")) (aa (fC (.int j)) af))) af)) (fC (.int n))) ρ=some (.list (List.replicate n (cS j))):=by
 refine cc ?_;have hr:du (aa (aP (aa (fC (.str "refused")) (aa (fC (.int j)) af))) af) ρ=some [cS j]:=iC (cons_of (tup_is rfl (by simp)) rfl) (by simp);have hg:Aa [cS j] (.int ((n:Nat):Int))=some (List.replicate n [cS j]).flatten:=by
  have:=D2 (ds:=[cS j]) (k:=((n:Nat):Int)) (mV (by lia)) (by rw[yZ,Nat.one_mul,yE];exact yB hn (by decide));rw[yE] at this;exact this
 have hc:(fC (.int ((n:Nat):Int)):Dl.Env->Option D) ρ=some (.int ((n:Nat):Int)):=rfl;unfold tM;rw[hr,zA,hc,zA,hg,o5]
def Bt{cs:List Nat}{ρ:Dl.Env}{is:List Nat}(hfi:fi ρ=some (is.map nD))(hl:is.length<=1000)(hh:∀i∈is,te (some (nD i)::cs.map λj=>(ρ[j]?).getD none)=some (cS j)):bM (aw 1 cs fi (fG 0) (λ_=>some true) te) ρ=some (.list (List.replicate is.length (cS j))):=by
 rw[cc (BD (f:=λ_=>cS j) hfi hl hh),List.map_const']
end
end
def Mf:∀ (l:List Int),jl (l.map PyData.int)=true
 | []=>by simp[jl]
 | x::l=>by rw[zI,jl,Mf l];simp[f7]
def Ox(l:List Int):f7 (ak l)=true:=by rw[ak,f7,Mf]
def B6{i:Nat}{fz:List Nat}{f:Dl.Env->Option D}{ρ:ar}{l:List Int}(hA:f (aL ρ)=some (ak l))(hF:f (bW (hand fz 0 ρ))=some (ak l)):Dl.aS i fz f ρ=some (.nx (ρ.set i (.val (ak l)))):=by
 have hs:Dl.kz (ak l)=false:=rfl;simp?[Dl.aS,hA,hF,zA,hs,yL,qL,zB,Ox,xE]
structure WI(s k:Int)(W:List Wy):Prop where
 mem:∀w∈W,∃j:Int,0<=j/\j < k/\w.1=j / s/\w.2.1=j % s/\1<=w.2.2/\w.2.2<=9
 ris:IE W
 len:(W.length:Int)<=k
def Qd{a b s:Int}(hs:1<=s/\s<=4)(h:a < b):a / s < b / s\/(a / s=b / s/\a % s < b % s):=by
 have:s=1\/s=2\/s=3\/s=4:=by lia
 rcases this with rfl|rfl|rfl|rfl<;>lia
def OZ{k m s:Int}(hs:1<=s/\s<=4)(hm:1<=m/\m<=4)(h0:0<=k)(h:k < m * s):(0<=k / s/\k / s < m)/\0<=k % s/\k % s < s:=by
 have a:s=1\/s=2\/s=3\/s=4:=by lia
 have b:m=1\/m=2\/m=3\/m=4:=by lia
 rcases a with rfl|rfl|rfl|rfl<;>rcases b with rfl|rfl|rfl|rfl<;>lia
def WI.next{ns:List Int}{a s k:Int}{W:List Wy}(hl:ns.length<=63)(hs:1<=s/\s<=4)(hk:0<=k)(h:WI s k W):WI s (k+1) (W++[(k / s,k % s,1+dr ns a 9)]):=by
 have g1:=Jr (ns:=ns) a 9 hl (by decide);have g2:=Js (ns:=ns) a 9 hl (by decide);refine⟨λw hw=>?_,?_,?_⟩
 ·rcases List.mem_append.mp hw with hw|hw
  ·let⟨j,a,b,c⟩:=h.mem w hw;exact⟨j,a,by lia,c⟩
  ·rw[yH] at hw;subst hw;exact⟨k,hk,by lia,rfl,rfl,by simp only;lia,by simp only;lia⟩
 ·refine List.pairwise_append.mpr ⟨h.ris,List.pairwise_singleton _ _,λa ha b hb=>?_⟩;rw[yH] at hb;subst hb;let⟨j,_,b,c1,c2,_⟩:=h.mem a ha;rw[c1,c2];exact Qd hs b
 ·have:=h.len;rw[zN,yZ];lia
def WI.skip{s k:Int}{W:List Wy}(h:WI s k W):WI s (k+1) W:=⟨λw hw=>by
 let⟨j,a,b,c⟩:=h.mem w hw;exact⟨j,a,by lia,c⟩,h.ris,by have:=h.len;lia⟩
def N5:ar->Option Out:=(gx (fB (f2 bj (ah 3 aj (aa (ae 0) (aa (f2 aB (f2 aB (ae 1) (fC (.int 2))) (ae 5)) (aa (fC (.int 2)) af)))) (fC (.int 0)))) (oG 4 [0,1,3,5] (aP (aa (f2 lx (ae 5) (ae 3)) (aa (f2 jr (ae 5) (ae 3)) (aa (f2 aB (fC (.int 1)) (ah 3 aj (aa (ae 0) (aa (f2 aB (f2 aB (ae 1) (fC (.int 20))) (ae 5)) (aa (fC (.int 9)) af))))) af))))) fH)
abbrev sw(ns:List Int)(a:Int)(m s:Nat)(x4 x5 x6 x7 x8 x9 x10 x11:Slot):ar:=[.val (eI ns),.val (.int a),.val (nD m),.val (nD s),x4,x5,x6,x7,x8,x9,x10,x11]
def N1:ar->Option Out:=(ax (aS 8 [4,7] (aU cm (aa (bM (aw 1 [7] (aM (ae 4)) (fG 0) (fB (f2 bj (f2 aF (ae 0) (fC (.int 0))) (ae 1))) (f2 aF (ae 0) (fC (.int 1))))) af))) (ax (aS 9 [0,1,7,8] (ah 3 aj (aa (ae 0) (aa (f2 aB (f2 aB (ae 1) (fC (.int 40))) (ae 7)) (aa (f2 aB (aU bE (aa (ae 8) af)) (fC (.int 1))) af))))) (oG 6 [0,1,7,8,9] (aP (aa (ah 3 aj (aa (ae 0) (aa (f2 aB (f2 aB (ae 1) (fC (.int 44))) (ae 7)) (aa (fC (.int 10)) af)))) (aa (f2 aB (cC bJ (ae 8) (lh (ae 9)) cZ) (f1 ou (cC bJ (ae 8) cZ (lh (ae 9))))) af))))))
def Pd:ar->Option Out:=(ax (aS 8 [4,11] (aU cm (aa (bM (aw 1 [11] (aM (ae 4)) (fG 0) (fB (f2 bj (f2 aF (ae 0) (fC (.int 1))) (ae 1))) (f2 aF (ae 0) (fC (.int 0))))) af))) (ax (aS 9 [0,1,8,11] (ah 3 aj (aa (ae 0) (aa (f2 aB (f2 aB (ae 1) (fC (.int 50))) (ae 11)) (aa (f2 aB (aU bE (aa (ae 8) af)) (fC (.int 1))) af))))) (oG 10 [0,1,8,9,11] (aP (aa (ah 3 aj (aa (ae 0) (aa (f2 aB (f2 aB (ae 1) (fC (.int 54))) (ae 11)) (aa (fC (.int 10)) af)))) (aa (f2 aB (cC bJ (ae 8) (lh (ae 9)) cZ) (f1 ou (cC bJ (ae 8) cZ (lh (ae 9))))) af))))))
section
variable {ns:List Int}{a:Int}{m s:Nat}
def Ga(hl:ns.length<=63)(hs:1<=s/\s<=4){k:Nat}{W:List Wy}(hk:k < 16)(h:WI s k W):∃W',N5 (sw ns a m s (.own (W.map av)) (.val (nD k)) .non .non .non .non .non .non)=some (.nx (sw ns a m s (.own (W'.map av)) (.val (nD k)) .non .non .non .non .non .non))/\WI s ((k+1:Nat):Int) W':=by
 have e2:=EM (ns:=ns) (a+2+((k:Nat):Int)) 2 hl (by decide);have e9:=EM (ns:=ns) (a+20+((k:Nat):Int)) 9 hl (by decide);have c:∀ρ:Dl.Env,ae 0 ρ=some (eI ns)->ae 1 ρ=some (.int a)->ae 5 ρ=some (nD k)->(fB (f2 bj (ah 3 aj (aa (ae 0) (aa (f2 aB (f2 aB (ae 1) (fC (.int 2))) (ae 5)) (aa (fC (.int 2)) af)))) (fC (.int 0)))) ρ=some (decide (dr ns (a+2+((k:Nat):Int)) 2=0)):=λρ h0 h1 h5=>aX (aq (dP _ _) (call_of e2 (cons_of h0 (cons_of (aq (aQ _ _) (aq (aQ _ _) h1 rfl) h5) (cons_of rfl rfl))) rfl) rfl);unfold N5;cases hc:decide (dr ns (a+2+((k:Nat):Int)) 2=0) with
 | false=>exact⟨W,bo ((c _ rfl rfl rfl).trans (by rw[hc])),by have:=h.skip;rwa [show ((k:Int)+1)=((k+1:Nat):Int) by lia] at this⟩
 | true =>
  refine⟨W++[(((k:Nat):Int) / s,((k:Nat):Int) % s,1+dr ns (a+20+((k:Nat):Int)) 9)],?_,by have:=h.next (a:=a+20+((k:Nat):Int)) hl (by lia) (by lia);rwa [show ((k:Int)+1)=((k+1:Nat):Int) by lia] at this⟩;refine (fI ((c _ rfl rfl rfl).trans (by rw[hc]))).trans ?_;have hw:W.length<=16:=by have:=h.len;lia
  have ev:∀ρ:Dl.Env,ae 0 ρ=some (eI ns)->ae 1 ρ=some (.int a)->ae 3 ρ=some (nD s)->ae 5 ρ=some (nD k)->(aP (aa (f2 lx (ae 5) (ae 3)) (aa (f2 jr (ae 5) (ae 3)) (aa (f2 aB (fC (.int 1)) (ah 3 aj (aa (ae 0) (aa (f2 aB (f2 aB (ae 1) (fC (.int 20))) (ae 5)) (aa (fC (.int 9)) af))))) af)))) ρ=some (av (((k:Nat):Int) / s,((k:Nat):Int) % s,1+dr ns (a+20+((k:Nat):Int)) 9)):=λρ h0 h1 h3 h5=>tup_is (ds:=[.int (((k:Nat):Int) / s),.int (((k:Nat):Int) % s),.int (1+dr ns (a+20+((k:Nat):Int)) 9)]) (cons_of (aq (iq ⟨by lia,by lia⟩) h5 h3) (cons_of (aq (gn (by lia)) h5 h3) (cons_of (aq (aQ _ _) rfl (call_of e9 (cons_of h0 (cons_of (aq (aQ _ _) (aq (aQ _ _) h1 rfl) h5) (cons_of rfl rfl))) rfl)) rfl))) (by simp);refine (vm (ds:=W.map av) (ev _ rfl rfl rfl rfl) (ev _ rfl rfl rfl rfl) rfl rfl (by rw[zD];lia)).trans ?_;rw[qU];rfl
structure PI(F:Nat->List Int)(k:Nat)(G:List Pl):Prop where
 len:G.length=k
 am:∀p∈G,0<=p.1/\p.1<=9
 lk:∀ (i:Nat) (p:Pl),G[i]?=some p->p.2.Perm (F i)
def BE(r:List Int)(t:Nat):(r.drop t++(r.take t).reverse).Perm r:=by
 refine (List.perm_append_comm).trans ?_;refine ((List.reverse_perm _).append_right _).trans ?_;rw[List.take_append_drop]
def PI.next{F:Nat->List Int}{k:Nat}{G:List Pl}(h:PI F k G){c:Int}(hc:0<=c/\c<=9)(t:Nat):PI F (k+1) (G++[(c,(F k).drop t++((F k).take t).reverse)]):=by
 refine⟨by rw[zN,h.len];rfl,λp hp=>?_,λi p hp=>?_⟩
 ·rcases List.mem_append.mp hp with hp|hp
  ·exact h.am p hp
  ·rw[List.mem_singleton.mp hp];exact hc
 ·rw[List.getElem?_append] at hp;split at hp
  ·exact h.lk i p hp
  ·rename_i hi;have hi:i=G.length:=by
    have:=(List.getElem?_eq_some_iff.mp hp).1;simp at this;lia
   subst hi;rw[Nat.sub_self] at hp;cases hp;rw[h.len];exact BE _ _
def IS{r:List Int}{t:Nat}{c:Int}{fa f8 f9:Dl.Env->Option D}{ρ:Dl.Env}(hr:r.length<=100)(ha:fa ρ=some (.int c))(h8:f8 ρ=some (ak r))(h9:f9 ρ=some (nD t)):(aP (aa fa (aa (f2 aB (cC bJ f8 (lh f9) cZ) (f1 ou (cC bJ f8 cZ (lh f9)))) af))) ρ=some (aI (c,r.drop t++(r.take t).reverse)):=by
 refine tup_is (ds:=[.int c,ak (r.drop t++(r.take t).reverse)]) (cons_of ha (cons_of ?_ rfl)) (by simp);have e1:=EL (k:=t) h8 h9;have e2:f1 ou (cC bJ f8 cZ (lh f9)) ρ=some (.tuple ((r.map PyData.int).take t).reverse):=by
  unfold f1;rw[Kx (k:=t) h8 h9];rfl
 refine aq ((ye ?_).trans ?_) e1 e2
 ·rw[zN,qE,List.length_reverse,jR,zD];lia
 ·unfold ak;rw[qU,List.map_drop,List.map_reverse,List.map_take]
def zw(W:List Wy)(i:Int):(mJ W i).length<=W.length:=by
 rw[mJ,zD];exact xM _ _
def Ah(W:List Wy)(i:Int):(ofT W i).length<=W.length:=by
 rw[ofT,zD];exact xM _ _
def Gx(hl:ns.length<=63){W:List Wy}(hw:W.length<=16){k:Nat}{G:List Pl}(hk:k < 4)(h:PI (λi=>mJ W i) k G){x8 x9:Slot}{x5:Slot}:∃G' y8 y9,N1 (sw ns a m s (.own (W.map av)) x5 (.own (G.map aI)) (.val (nD k)) x8 x9 .non .non)=some (.nx (sw ns a m s (.own (W.map av)) x5 (.own (G'.map aI)) (.val (nD k)) y8 y9 .non .non))/\PI (λi=>mJ W i) (k+1) G':=by
 have hr:=zw W k;let⟨d1,p1,q1⟩:=eR (ns:=ns) (a+40+((k:Nat):Int)) (((mJ W k).length:Int)+1) hl (by lia);let⟨d2,p2,q2⟩:=eR (ns:=ns) (a+44+((k:Nat):Int)) 10 hl (by decide);obtain⟨t,ht⟩:∃t:Nat,dr ns (a+40+((k:Nat):Int)) (((mJ W k).length:Int)+1)=((t:Nat):Int):=⟨_,(Int.toNat_of_nonneg p1).symm⟩
 rw[ht] at d1;refine⟨G++[(dr ns (a+44+((k:Nat):Int)) 10,(mJ W k).drop t++((mJ W k).take t).reverse)],.val (ak (mJ W k)),.val (nD t),?_,h.next (by lia) t⟩;have er:∀ρ:Dl.Env,ae 4 ρ=some (.list (W.map av))->(ρ[7]?).getD none=some (nD k)->(aU cm (aa (bM (aw 1 [7] (aM (ae 4)) (fG 0) (fB (f2 bj (f2 aF (ae 0) (fC (.int 0))) (ae 1))) (f2 aF (ae 0) (fC (.int 1))))) af)) ρ=some (ak (mJ W k)):=λρ h4 h7=>by
  have c:=bQ (cs:=[7]) (tt:=fB (f2 bj (f2 aF (ae 0) (fC (.int 0))) (ae 1))) (te:=f2 aF (ae 0) (fC (.int 1))) (g:=av) (f:=λw=>.int w.2.1) (q:=λw=>decide (w.1=((k:Nat):Int))) (l:=W) (fv h4) (by lia) λw _=>⟨by
   simp?[zI,yR,h7];exact aX (aq (dP w.1 k) (aq (ub w) rfl rfl) rfl),λ_=>aq (sX w) rfl rfl⟩
  rw[bT (cc c),gR];unfold ak mJ;rw[zM];rfl
 unfold N1;refine (ao (B6 (er _ rfl rfl) (er _ rfl rfl))).trans ?_;refine (ao (bC (d:=nD t) (call_of d1 (cons_of rfl (cons_of (aq (aQ _ _) (aq (aQ _ _) rfl rfl) rfl) (cons_of (aq (aQ _ _) (il (l:=mJ W k) (k:=PyData.int) rfl) rfl) rfl))) rfl) rfl)).trans ?_;have ep:∀ρ:Dl.Env,ae 0 ρ=some (eI ns)->ae 1 ρ=some (.int a)->ae 7 ρ=some (nD k)->ae 8 ρ=some (ak (mJ W k))->ae 9 ρ=some (nD t)->_:=λρ h0 h1 h7 h8 h9=>IS (r:=mJ W k) (t:=t) (c:=dr ns (a+44+((k:Nat):Int)) 10) (fa:=ah 3 aj (aa (ae 0) (aa (f2 aB (f2 aB (ae 1) (fC (.int 44))) (ae 7)) (aa (fC (.int 10)) af)))) (f8:=ae 8) (f9:=ae 9) (ρ:=ρ) (by lia) (call_of d2 (cons_of h0 (cons_of (aq (aQ _ _) (aq (aQ _ _) h1 rfl) h7) (cons_of rfl rfl))) rfl) h8 h9;refine (vm (ds:=G.map aI) (ep _ rfl rfl rfl rfl rfl) (ep _ rfl rfl rfl rfl rfl) rfl rfl (by rw[zD,h.len];lia)).trans ?_;rw[qU];rfl
def HY(hl:ns.length<=63){W:List Wy}(hw:W.length<=16){k:Nat}{G:List Pl}(hk:k < 4)(h:PI (λi=>ofT W i) k G){x6 x7 x8 x9:Slot}{x5:Slot}:∃G' y8 y9,Pd (sw ns a m s (.own (W.map av)) x5 x6 x7 x8 x9 (.own (G.map aI)) (.val (nD k)))=some (.nx (sw ns a m s (.own (W.map av)) x5 x6 x7 y8 y9 (.own (G'.map aI)) (.val (nD k))))/\PI (λi=>ofT W i) (k+1) G':=by
 have hr:=Ah W k;let⟨d1,p1,q1⟩:=eR (ns:=ns) (a+50+((k:Nat):Int)) (((ofT W k).length:Int)+1) hl (by lia);let⟨d2,p2,q2⟩:=eR (ns:=ns) (a+54+((k:Nat):Int)) 10 hl (by decide);obtain⟨t,ht⟩:∃t:Nat,dr ns (a+50+((k:Nat):Int)) (((ofT W k).length:Int)+1)=((t:Nat):Int):=⟨_,(Int.toNat_of_nonneg p1).symm⟩
 rw[ht] at d1;refine⟨G++[(dr ns (a+54+((k:Nat):Int)) 10,(ofT W k).drop t++((ofT W k).take t).reverse)],.val (ak (ofT W k)),.val (nD t),?_,h.next (by lia) t⟩;have er:∀ρ:Dl.Env,ae 4 ρ=some (.list (W.map av))->(ρ[11]?).getD none=some (nD k)->(aU cm (aa (bM (aw 1 [11] (aM (ae 4)) (fG 0) (fB (f2 bj (f2 aF (ae 0) (fC (.int 1))) (ae 1))) (f2 aF (ae 0) (fC (.int 0))))) af)) ρ=some (ak (ofT W k)):=λρ h4 h7=>by
  have c:=bQ (cs:=[11]) (tt:=fB (f2 bj (f2 aF (ae 0) (fC (.int 1))) (ae 1))) (te:=f2 aF (ae 0) (fC (.int 0))) (g:=av) (f:=λw=>.int w.1) (q:=λw=>decide (w.2.1=((k:Nat):Int))) (l:=W) (fv h4) (by lia) λw _=>⟨by
   simp?[zI,yR,h7];exact aX (aq (dP w.2.1 k) (aq (sX w) rfl rfl) rfl),λ_=>aq (ub w) rfl rfl⟩
  rw[bT (cc c),gR];unfold ak ofT;rw[zM];rfl
 unfold Pd;refine (ao (B6 (er _ rfl rfl) (er _ rfl rfl))).trans ?_;refine (ao (bC (d:=nD t) (call_of d1 (cons_of rfl (cons_of (aq (aQ _ _) (aq (aQ _ _) rfl rfl) rfl) (cons_of (aq (aQ _ _) (il (l:=ofT W k) (k:=PyData.int) rfl) rfl) rfl))) rfl) rfl)).trans ?_;have ep:∀ρ:Dl.Env,ae 0 ρ=some (eI ns)->ae 1 ρ=some (.int a)->ae 11 ρ=some (nD k)->ae 8 ρ=some (ak (ofT W k))->ae 9 ρ=some (nD t)->_:=λρ h0 h1 h7 h8 h9=>IS (r:=ofT W k) (t:=t) (c:=dr ns (a+54+((k:Nat):Int)) 10) (fa:=ah 3 aj (aa (ae 0) (aa (f2 aB (f2 aB (ae 1) (fC (.int 54))) (ae 11)) (aa (fC (.int 10)) af)))) (f8:=ae 8) (f9:=ae 9) (ρ:=ρ) (by lia) (call_of d2 (cons_of h0 (cons_of (aq (aQ _ _) (aq (aQ _ _) h1 rfl) h7) (cons_of rfl rfl))) rfl) h8 h9;refine (vm (ds:=G.map aI) (ep _ rfl rfl rfl rfl rfl) (ep _ rfl rfl rfl rfl rfl) rfl rfl (by rw[zD,h.len];lia)).trans ?_;rw[qU];rfl
def JW(hl:ns.length<=63)(a:Int):∃G T W,ft [eI ns,.int a]=some (bb G T W)/\Wd G T W:=by
 have em:=eR (ns:=ns) a 4 hl (by decide);have es:=eR (ns:=ns) (a+1) 4 hl (by decide);let⟨m,hm⟩:=kW (show 0<=1+dr ns a 4 by lia);let⟨s,hs⟩:=kW (show 0<=1+dr ns (a+1) 4 by lia);have m1:1<=m/\m<=4:=by lia
 have s1:1<=s/\s<=4:=by lia
 have hms:m * s<=16:=vJ m1.2 s1.2;let⟨ρ',f1,W,x5,rfl,I⟩:=gL (tgt:=p8 5) (gb:=N5) nD (λk ρ=>∃W x5,ρ=sw ns a m s (.own (W.map av)) x5 .non .non .non .non .non .non/\WI s ((k:Nat):Int) W) (m * s) 0 (sw ns a m s (.own []) .non .non .non .non .non .non .non)
  (λk ρ _ hk hρ=>by
   let⟨W,x5,rfl,h⟩:=hρ;let⟨W',e,h'⟩:=Ga (a:=a) (m:=m) hl s1 (by lia) h;exact⟨_,_,rfl,e,W',_,rfl,h'⟩) ⟨[],_,rfl,λw hw=>(by cases hw),List.Pairwise.nil,by decide⟩
 rw[qY] at I;rw[<- yF] at f1;have hw:W.length<=16:=by have:=I.len;lia
 let⟨ρ',f2',G,x7,x8,x9,rfl,IG⟩:=gL (tgt:=p8 7) (gb:=N1) nD (λk ρ=>∃G x7 x8 x9,ρ=sw ns a m s (.own (W.map av)) x5 (.own (G.map aI)) x7 x8 x9 .non .non/\PI (λi=>mJ W i) k G) m 0 (sw ns a m s (.own (W.map av)) x5 (.own []) .non .non .non .non .non)
  (λk ρ _ hk hρ=>by
   let⟨G,x7,x8,x9,rfl,h⟩:=hρ;let⟨G',y8,y9,e,h'⟩:=Gx (a:=a) (m:=m) (s:=s) hl hw (by lia) h (x8:=x8) (x9:=x9) (x5:=x5);exact⟨_,_,rfl,e,G',_,_,_,rfl,h'⟩) ⟨[],_,_,_,rfl,rfl,λp hp=>(by cases hp),λi p hp=>(by cases hp)⟩
 rw[qY] at IG;rw[<- yF] at f2';let⟨ρ',f3,T,x11,y8,y9,rfl,IT⟩:=gL (tgt:=p8 11) (gb:=Pd) nD (λk ρ=>∃T x11 x8 x9,ρ=sw ns a m s (.own (W.map av)) x5 (.own (G.map aI)) x7 x8 x9 (.own (T.map aI)) x11/\PI (λi=>ofT W i) k T) s 0 (sw ns a m s (.own (W.map av)) x5 (.own (G.map aI)) x7 x8 x9 (.own []) .non)
  (λk ρ _ hk hρ=>by
   let⟨T,x11,x8,x9,rfl,h⟩:=hρ;let⟨T',y8,y9,e,h'⟩:=HY (a:=a) (m:=m) (s:=s) hl hw (by lia) h (x6:=.own (G.map aI)) (x7:=x7) (x8:=x8) (x9:=x9) (x5:=x5);exact⟨_,_,rfl,e,T',_,_,_,rfl,h'⟩) ⟨[],_,_,_,rfl,rfl,λp hp=>(by cases hp),λi p hp=>(by cases hp)⟩
 rw[qY] at IT;rw[<- yF] at f3;refine⟨G,T,W,?_,?_⟩
 ·unfold ft;refine aJ ?_;show iB [.val (eI ns),.val (.int a),.non,.non,.non,.non,.non,.non,.non,.non,.non,.non]=_;unfold iB;have h2:∀ρ:Dl.Env,ae 0 ρ=some (eI ns)->ae 1 ρ=some (.int a)->f2 aB (fC (.int 1)) (ah 3 aj (aa (ae 0) (aa (ae 1) (aa (fC (.int 4)) af)))) ρ=some (nD m):=λρ h0 h1=>aq ((aQ _ _).trans (by rw[hm])) rfl (call_of em.1 (cons_of h0 (cons_of h1 (cons_of rfl rfl))) rfl);have h3:∀ρ:Dl.Env,ae 0 ρ=some (eI ns)->ae 1 ρ=some (.int a)->f2 aB (fC (.int 1)) (ah 3 aj (aa (ae 0) (aa (f2 aB (ae 1) (fC (.int 1))) (aa (fC (.int 4)) af)))) ρ=some (nD s):=λρ h0 h1=>aq ((aQ _ _).trans (by rw[hs])) rfl (call_of es.1 (cons_of h0 (cons_of (aq (aQ _ _) h1 rfl) (cons_of rfl rfl))) rfl);refine (ao (bC (d:=nD m) (h2 _ rfl rfl) rfl)).trans ?_;refine (ao (bC (d:=nD s) (h3 _ rfl rfl) rfl)).trans ?_;refine (ao (eB (ds:=[]) (iC rfl (by simp)) rfl)).trans ?_;have hr:∀ρ:Dl.Env,ae 2 ρ=some (nD m)->ae 3 ρ=some (nD s)->dc (aa (f2 eL (ae 2) (ae 3)) af) ρ=some ((List.range (m * s)).map nD):=λρ h2 h3=>nP (cons_of (aq ((eV (lA (by lia))).trans (by rw[<- Int.natCast_mul])) h2 h3) rfl) (by lia);refine (ao (bL f1 (hr _ rfl rfl) rfl)).trans ?_;refine (ao (eB (ds:=[]) (iC rfl (by simp)) rfl)).trans ?_;refine (ao (bL f2' (nP (cons_of rfl rfl) (by lia)) rfl)).trans ?_;refine (ao (eB (ds:=[]) (iC rfl (by simp)) rfl)).trans ?_;refine (ao (bL f3 (nP (cons_of rfl rfl) (by lia)) rfl)).trans ?_;exact aZ (tup_is (ds:=[.tuple (G.map aI),.tuple (T.map aI),.tuple (W.map av)]) (cons_of ((bT rfl).trans (gR _)) (cons_of ((bT rfl).trans (gR _)) (cons_of ((bT rfl).trans (gR _)) rfl))) (by simp))
 ·refine⟨by rw[IG.len];exact m1.1,by rw[IG.len];exact m1.2,by rw[IT.len];exact s1.1,by rw[IT.len];exact s1.2,IG.am,IT.am,IG.lk,IT.lk,λw hw=>?_,I.ris,hw⟩;let⟨j,j0,jk,ea,b,c1,c2⟩:=I.mem w hw;have:=OZ (s:=s) (m:=m) (by lia) (by lia) j0 (by rw[<- Int.natCast_mul];exact jk);rw[ea,b,IG.len,IT.len];exact⟨this.1,this.2,c1,c2⟩
end
abbrev tl(x:Str):List Nat:=x.cps.toList
def tS(l:List Nat):Str:=⟨l.toArray⟩
def cq(l:List Nat):tl (tS l)=l:=by simp[tl,tS]
def yd(x:Str):tS (tl x)=x:=by cases x;simp[tl,tS]
def vc{x y:Str}(h:tl x=tl y):x=y:=by rw[<- yd x,<- yd y,h]
def fO(x:Str):(tl x).length=x.length:=by simp[tl,Str.length]
def qu(x y:Str):tl (x++y)=tl x++tl y:=by
 show (Str.append x y).cps.toList=_;simp[Str.append,tl]
def oA(c:Nat):List Nat->List (List Nat)
 | []=>[[]]
 | x::r=>if x=c then []::oA c r else match oA c r with
  | p::ps=>(x::p)::ps
  | []=>[[x]]
def jn(c:List Nat):List (List Nat)->List Nat
 | []=>[]
 | [p]=>p
 | p::q::r=>p++(c++jn c (q::r))
def ud:∀ {l:List Nat},c∉l->oA c l=[l]
 | [],_=>rfl
 | x::r,h=>by
  have h1:x≠c:=λz=>h (by rw[z];exact zE);rw[oA,yK h1,ud λz=>h (zC _ z)]
def mQ:∀ {p r:List Nat},c∉p->oA c (p++c::r)=p::oA c r
 | [],r,_=>by rw[xK,oA,yI rfl]
 | x::p,r,h=>by
  have h1:x≠c:=λz=>h (by rw[z];exact zE);rw[xC,oA,yK h1,mQ λz=>h (zC _ z)]
def wu:∀ {ps:List (List Nat)},ps≠[]->(∀p∈ps,c∉p)->oA c (jn [c] ps)=ps
 | [],h,_=>absurd rfl h
 | [p],_,h=>by rw[jn];exact ud (h p zE)
 | p::q::r,_,h=>by
  rw[jn];show oA c (p++c::jn [c] (q::r))=_;rw[mQ (h p zE),wu (by simp) λz hz=>h z (zC _ hz)]
def rZ(sep:Str):∀ps:List Str,tl (sep.join ps)=jn (tl sep) (ps.map tl)
 | []=>rfl
 | [p]=>rfl
 | p::q::r=>by
  have e:sep.join (p::q::r)=p++sep++sep.join (q::r):=rfl;rw[e,qu,qu,rZ sep (q::r),List.append_assoc];rfl
def Cy(sep:Str)(ps:List Str):tl (Txt.join sep ps)=jn (tl sep) (ps.map tl):=by
 unfold Txt.join;rw[StrLaws.glued_eq_join,rZ]
def Cd(x y:Str):Txt.split x y≠[]:=by
 unfold Txt.split;split
 ·simp
 ·split
  ·simp
  ·rw[StrLaws.partsBetween_eq];let⟨p,r,e⟩:=StrLaws.partsFrom_ne x y.length 0 (Builtin.Str.occurrences x y 0 x.length (x.length+1));rw[e];simp
def Fg(x:Str)(c:Nat):(Txt.split x ⟨#[c]⟩).map tl=oA c (tl x):=by
 have h:=rZ ⟨#[c]⟩ (Txt.split x ⟨#[c]⟩);rw[StrLaws.join_split] at h;rw[h];refine (wu ?_ λp hp=>?_).symm
 ·intro z;exact Cd x ⟨#[c]⟩ (List.map_eq_nil_iff.mp z)
 ·let⟨q,hq,rfl⟩:=List.mem_map.mp hp;exact StrLaws.split_free x c q hq
def nR(x:Str)(c:Nat):Txt.split x ⟨#[c]⟩=(oA c (tl x)).map tS:=by
 rw[<- Fg,zM]
 conv=>lhs;rw[<- List.map_id (Txt.split x ⟨#[c]⟩)]
 exact yG λy _=>(yd y).symm
def Ho(sep:Str)(ps:List (List Nat)):Txt.join sep (ps.map tS)=tS (jn (tl sep) ps):=by
 refine vc ?_;rw[Cy,cq,zM]
 congr 1
 conv=>rhs;rw[<- List.map_id ps]
 exact yG λy _=>cq y
def Cf:("\n":Str)=⟨#[10]⟩:=by decide +kernel
def yr:(" ":Str)=⟨#[32]⟩:=by decide +kernel
def MM:("0123456789":Str)=⟨#[48,49,50,51,52,53,54,55,56,57]⟩:=by decide +kernel
def uh:("":Str)=⟨#[]⟩:=by decide +kernel
def Ig{n:Nat}(h:n < 10):((toString (n:Int):String):Str)=⟨#[48+n]⟩:=by
 match n,h with
 | 0,_|1,_|2,_|3,_|4,_|5,_|6,_|7,_|8,_|9,_=>decide +kernel
def ya:∀l:List Nat,(oA c l).length<=l.length+1
 | []=>by simp[oA]
 | x::r=>by
  have ih:=ya (c:=c) r;unfold oA;split
  ·simp;lia
  ·split
   ·rename_i p ps e;rw[e] at ih;simp at ih ⊢;lia
   ·simp
def Nl:List Nat->Option Nat
 | [c]=>if 48<=c/\c < 58 then some (c - 48) else none
 | _=>none
def EW{x:Str}(hz:x.length<=sizeLine):(ib (fB (f2 dM (aU l8 (aa (ae 0) af)) (fC (.int 1)))) (fB (f2 (λx y=>(Ds x y).map PyData.bool) (ae 0) (fC (.str "0123456789"))))) [some (.str x)]=some (Nl (tl x)).isNone:=by
 have e1:(fB (f2 dM (aU l8 (aa (ae 0) af)) (fC (.int 1)))) [some (.str x)]=some (!decide (((x.length:Nat):Int)=1)):=by
  have:aU l8 (aa (ae 0) af) [some (.str x)]=some (.int ((x.length:Nat):Int)):=by
   show l8 [.str x]=_;show (if x.length<=sizeLine then some (PyData.int ((x.length:Nat):Int)) else none)=_;rw[yI hz]
  unfold fB f2;rw[this];rfl
 have e2:(fB (f2 (λx y=>(Ds x y).map PyData.bool) (ae 0) (fC (.str "0123456789")))) [some (.str x)]=some (!(!(Builtin.Str.occurrences ("0123456789":Str) x 0 ("0123456789":Str).length 1).isEmpty)):=rfl;unfold ib;rw[e1,zA,e2];by_cases h1:x.length=1
 ·obtain⟨c,rfl⟩:∃c,x=⟨#[c]⟩:=by
   have:(tl x).length=1:=by rw[fO];exact h1
   let⟨c,hc⟩:=List.length_eq_one_iff.mp this;exact⟨c,by rw[<- yd x,hc];rfl⟩
  rw[StrLaws.found_one];have:tl ⟨#[c]⟩=[c]:=rfl;rw[this];have hd:("0123456789":Str).cps.toList=[48,49,50,51,52,53,54,55,56,57]:=by rw[MM]
  rw[hd];unfold Nl;by_cases hc:48<=c/\c < 58
  ·have:c∈[48,49,50,51,52,53,54,55,56,57]:=by
    let⟨a,b⟩:=hc;simp?[zQ,yD,xQ];lia
   simp[hc,this];simp[Str.length]
  ·have:c∉[48,49,50,51,52,53,54,55,56,57]:=by
    simp?[zQ,yD,xQ];lia
   simp[hc,this]
   try simp[Str.length]
 ·have:Nl (tl x)=none:=by
   unfold Nl;split
   ·rename_i c hc;exact absurd (by rw[<- fO,hc];rfl) h1
   ·rfl
  rw[this];have h2:¬ (((x.length:Nat):Int)=1):=by lia
  simp[h2]
def GW{n:Nat}(h:n < 10):Builtin.Str.occurrences ("0123456789":Str) (tS [48+n]) 0 ("0123456789":Str).length 1=[n]:=by
 match n,h with
 | 0,_|1,_|2,_|3,_|4,_|5,_|6,_|7,_|8,_|9,_=>decide +kernel
def gG{a:Str}(h:PyData.strOk a=true):SeqAt.shaped (.str a)=true:=by simp[SeqAt.shaped,PyData.canLay0,PyData.depth,h]
def zg(a b:Str):PyData.eqv (.str a) (.str b)=(a == b):=by simp[PyData.eqv]
def eq_str{a b:Str}(ha:PyData.strOk a=true)(hb:PyData.strOk b=true):bj (.str a) (.str b)=some (.bool (a == b)):=by
 unfold bj IY;rw[yI ⟨gG ha,gG hb⟩,zg];rfl
def ne_str{a b:Str}(ha:PyData.strOk a=true)(hb:PyData.strOk b=true):dM (.str a) (.str b)=some (.bool (!(a == b))):=by
 unfold dM JU;rw[yI ⟨gG ha,gG hb⟩,zg];rfl
def uz{x:Str}{c:Nat}(hz:x.length+1<=sizeLine):dZ (.str x) (.str ⟨#[c]⟩)=some ((Txt.split x ⟨#[c]⟩).map PyData.str):=by
 show (if ((⟨#[c]⟩:Str).length == 0)=false/\x.length<=sizeLine/\(Txt.split x ⟨#[c]⟩).length<=sizeLine then some ((Txt.split x ⟨#[c]⟩).map PyData.str) else none)=_;refine yI ⟨rfl,by lia,?_⟩;rw[nR,zD];have:=ya (c:=c) (tl x);rw[fO] at this;lia
def D5{α:Type}(xs:List α):cut xs none (some (-1))=xs.dropLast:=by
 unfold cut;have e1:HT.bg xs.length 0 none=0:=rfl;have e2:HT.bg xs.length xs.length (some (-1))=xs.length - 1:=by
  show (if (-1:Int) < 0 then ((-1:Int)+(xs.length:Int)).toNat else min (-1:Int).toNat xs.length)=_;rw[yI (by decide)];lia
 rw[e1,e2,List.drop_zero,Nat.sub_zero,List.dropLast_eq_take]
def HB{α:Type}{xs:List α}{a:α}:mR (xs++[a]) (-1)=some a:=by
 unfold mR Do;rw[yK (by decide),yI (by rw[zN];simp;lia)];show (xs++[a])[_]?=_;rw[show ((-1:Int)+((xs++[a]).length:Int)).toNat=xs.length by rw[zN];simp;lia];simp
abbrev sD(l:List Nat):D:=.str (tS l)
abbrev lv(x:Str)(ps:List D):ar:=[Slot.val (.str x),Slot.val (.list ps)]
def Bb{x:Str}(hz:x.length+1<=sizeLine):aS 1 [0] (bM (pU dZ (ae 0) (fC (.str "\n")))) [Slot.val (.str x),.non]=some (.nx (lv x ((oA 10 (tl x)).map sD))):=by
 have e:∀r,bM (pU dZ (ae 0) (fC (.str "\n"))) (some (.str x)::r)=some (.list ((oA 10 (tl x)).map sD)):=λr=>by
  have:pU dZ (ae 0) (fC (.str "\n")) (some (.str x)::r)=some ((oA 10 (tl x)).map sD):=by
   show dZ (.str x) (.str "\n")=_;rw[Cf,uz hz,nR,zM];rfl
  unfold bM;rw[this];rfl
 unfold aS;rw[show aL [Slot.val (.str x),.non]=[some (.str x),none] from rfl,e,zA,yK (by simp[Dl.kz])];rw[show bW (hand [0] 0 [Slot.val (.str x),.non])=[some (.str x),none] from rfl,e];rfl
def t8{te:Dl.Env->Option D}{r:Dl.Env}{f:D->D}:∀ {ds:List D},(∀d∈ds,te (some d::r)=some (f d))->cY (fG 0) (λ_=>some true) te (none::r) ds=some (ds.map f)
 | [],_=>rfl
 | d::ds,h=>by
  unfold cY;rw[show fG 0 (none::r) d=some (some d::r) from rfl,zA,zA,yI rfl,h d zE,zA,t8 λe he=>h e (zC _ he)];rfl
def rO{sep:Str}{ps:List (List Nat)}(h:ps.length * 100+ps.length * sep.length<=16777216)(hp:∀p∈ps,p.length<=100):j5 (.str sep) (.list (ps.map sD))=some (sD (jn (tl sep) ps)):=by
 have e:strsOf (ps.map sD)=some (ps.map tS):=by
  have:=oz (ps.map tS);rw[zM] at this;exact this
 show ((strsOf (ps.map sD)).bind λxs=>if JoinOk sep xs=true then some (PyData.str (Txt.join sep xs)) else none)=_;rw[e,zA,yI ?_,Ho];unfold JoinOk;rw[StrLaws.joinFits (B:=100) (λy hy=>?_) (by rw[zD];exact h)]
 ·rfl
 ·let⟨p,hp',rfl⟩:=List.mem_map.mp hy;rw[<- fO,cq];exact hp p hp'
def ij(ls:List (List Nat)):List Nat:=jn [] (ls.map λl=>l++[10])
def rV:∀ {ls:List (List Nat)},(∀l∈ls,10∉l)->oA 10 (ij ls)=ls++[[]]
 | [],_=>rfl
 | [l],h=>by
  show oA 10 (l++10::[])=_;rw[mQ (h l zE)];rfl
 | l::q::r,h=>by
  have e:ij (l::q::r)=l++10::ij (q::r):=by
   show (l++[10])++([]++jn [] ((q::r).map λl=>l++[10]))=_;rw[xK,List.append_assoc];rfl
  rw[e,mQ (h l zE),rV λz hz=>h z (zC _ hz)];rfl
structure Gd(l:List Nat):Prop where
 s:∀c∈l,c < 1114112
 n:l.length<=10000
def Gd.sk{l:List Nat}(g:Gd l):PyData.strOk (tS l)=true:=by
 show Array.all (List.toArray l) _=true;rw[List.all_toArray,xD];intro c hc;exact zY (g.s c hc)
def Ml:20000<=sizeLine:=by decide
def Gd.z{l:List Nat}(g:Gd l):l.length+1<=sizeLine:=by
 have:=g.n;have:=Ml;lia
def Gd.zt{l:List Nat}(g:Gd l):(tS l).length+1<=sizeLine:=by
 rw[<- fO,cq];exact g.z
def v8:∀ls:List (List Nat),jn [] ls=ls.flatten
 | []=>rfl
 | [l]=>by simp[jn]
 | l::q::r=>by
  show l++([]++jn [] (q::r))=_;rw[xK,v8 (q::r)];rfl
def eW(ls:List (List Nat)):ij ls=(ls.map λl=>l++[10]).flatten:=v8 _
def mP{ls:List (List Nat)}(h:∀l∈ls,l.length<=99):(ij ls).length<=100 * ls.length:=by
 rw[eW]
 induction ls with
 | nil=>exact yJ _
 | cons l r ih =>
  rw[zI,qJ,zN,zN,yZ,zL];have:=h l zE;have:=ih λq hq=>h q (zC _ hq);lia
def zy{ls:List (List Nat)}{c:Nat}(h:c∈ij ls):c=10\/∃l∈ls,c∈l:=by
 rw[eW,List.mem_flatten] at h;let⟨q,hq,hc⟩:=h;let⟨l,hl,rfl⟩:=List.mem_map.mp hq;rcases List.mem_append.mp hc with hc|hc
 ·exact .inr ⟨l,hl,hc⟩
 ·exact .inl (List.mem_singleton.mp hc)
def bS{a b:List Nat}(h:a.length+b.length<=20000):az (sD a) (sD b)=some (sD (a++b)):=by
 show (if (tS a).length+(tS b).length<=sizeLine then some (PyData.str (tS a++tS b)) else none)=_;rw[yI (by rw[<- fO,<- fO,cq,cq];exact yB h Ml)];have:tS a++tS b=tS (a++b):=vc (by rw[qu,cq,cq,cq]);rw[this]
abbrev sP(ns:List Nat):D:=.tuple (ns.map λn=>.int ((n:Nat):Int))
def rS(ns:List Nat):sP ns=ak (ns.map λn=>((n:Nat):Int)):=by
 show PyData.tuple _=PyData.tuple _;rw[zM];rfl
def Ov{n:Nat}(hn:n < 10):Nl [48+n]=some n:=by
 show (if 48<=48+n/\48+n < 58 then some (48+n - 48) else none)=some n;rw[yI ⟨by lia,by lia⟩]
 congr 1
 lia
def Nu{n:Nat}(h:n < 10):dJ [sD [48+n]]=some (.int ((n:Nat):Int)):=by
 have t:=EW (x:=tS [48+n]) (by rw[<- fO,cq];exact (by decide:1<=sizeLine));rw[cq,Ov h] at t;unfold dJ l5;refine aJ ?_;refine (ao (bo (ρ:=[Slot.val (sD [48+n])]) t)).trans (aZ ?_);show nI (.str "0123456789") (.str (tS [48+n]))=_;unfold nI;dsimp only;rw[GW h]
def Lu{ns:List Nat}(h:∀n∈ns,n < 10)(hl:ns.length<=1000):cU [.list (ns.map λn=>sD [48+n])]=some (sP ns):=by
 have c:=bQ (cs:=[]) (tt:=λ_=>some true) (te:=ah 1 dJ (aa (ae 0) af)) (g:=λn=>sD [48+n]) (f:=λn=>.int ((n:Nat):Int)) (q:=λ_=>true) (l:=ns) (fi:=aM (ae 0)) (ρ:=[some (.list (ns.map λn=>sD [48+n]))]) (fv rfl) hl λn hn=>⟨rfl,λ_=>call_of (Nu (h n hn)) rfl rfl⟩
 rw[show ns.filter (λ_=>true)=ns by simp] at c;unfold cU ky;exact aJ (aZ ((bT (cc c)).trans (gR _)))
def xo{x:Str}{ls:List (List Nat)}(hz:x.length+1<=sizeLine)(h:oA 10 (tl x)=ls++[[]]):eH [.str x]=some (.list (ls.map sD)):=by
 have s:=Bb hz;rw[h,qU] at s;have t:fB (f2 dM (f2 aF (ae 1) (f1 B7 (fC (.int 1)))) (fC (.str ""))) [some (.str x),some (.list (ls.map sD++[[]].map sD))]=some false:=by
  refine aX (aq (a:=sD []) (b:=.str "") ?_ ?_ rfl)
  ·rw[ne_str (by decide +kernel) (by decide +kernel)];rfl
  ·show mR (ls.map sD++[sD []]) (-1)=_;exact HB
 unfold eH nW;refine aJ ?_;refine (ao s).trans ?_;refine (ao (bo (ρ:=lv x (ls.map sD++[[]].map sD)) t)).trans (aZ ?_);show some (PyData.list (cut (ls.map sD++[[]].map sD) none (some (-1))))=_;rw[D5];simp
def LC(l:List Nat):cn [sD l]=some (sD l):=rfl
def fV{n:Nat}(h:n < 10):cn [.int ((n:Nat):Int)]=some (sD [48+n]):=by
 show (if ((n:Nat):Int).natAbs.log2 < 1920 then some (PyData.str (toString ((n:Nat):Int))) else none)=_;rw[yI (by
  have:((n:Nat):Int).natAbs=n:=by simp
  rw[this]
  match n,h with
  | 0,_|1,_|2,_|3,_|4,_|5,_|6,_|7,_|8,_|9,_=>decide),Ig h]
 rfl
def fg(w:List Nat)(ns:List Nat):List Nat:=jn [32] (w::ns.map λn=>[48+n])
def k4(ns:List Nat):List Nat:=(ns.map λn=>[32,48+n]).flatten
def jv(w:List Nat):∀ns:List Nat,fg w ns=w++k4 ns
 | []=>by show w=w++[];rw[qC]
 | n::r=>by
  have ih:=jv [48+n] r;show w++([32]++jn [32] ((n::r).map λn=>[48+n]))=_;have e:jn [32] ((n::r).map λn=>[48+n])=fg [48+n] r:=rfl;rw[e,ih];rfl
def ka(ns:List Nat):(k4 ns).length=2 * ns.length:=by
 induction ns with
 | nil=>rfl
 | cons n r ih =>
  show ([32,48+n]++k4 r).length=_;rw[zN,ih,zL];simp;lia
def Ft{ns:List Nat}(h:∀n∈ns,n < 10){c:Nat}(hc:c∈k4 ns):c=32\/(48<=c/\c < 58):=by
 unfold k4 at hc;rw[List.mem_flatten] at hc;let⟨q,hq,hc⟩:=hc;let⟨n,hn,rfl⟩:=List.mem_map.mp hq;have:=h n hn;simp at hc;lia
def HQ{w ns:List Nat}(hw:32∉w)(h:∀n∈ns,n < 10):oA 32 (fg w ns)=w::ns.map λn=>[48+n]:=wu (by simp) λp hp=>by
 rcases List.mem_cons.mp hp with rfl|hp
 ·exact hw
 ·let⟨n,hn,rfl⟩:=List.mem_map.mp hp;simp;lia
def EE{w ns:List Nat}(hw:w.length<=100)(h:∀n∈ns,n < 10)(hl:ns.length<=50):cQ [.list (sD w::ns.map λn=>.int ((n:Nat):Int))]=some (sD (fg w ns)):=by
 have c:cY (fG 0) (λ_=>some true) (aU cn (aa (ae 0) af)) [none] (sD w::ns.map λn=>.int ((n:Nat):Int))=some ((w::ns.map λn=>[48+n]).map sD):=by
  have:=t8 (te:=aU cn (aa (ae 0) af)) (r:=[]) (ds:=sD w::ns.map λn=>.int ((n:Nat):Int)) (f:=λd=>match d with|.int i=>sD [48+i.toNat]|d=>d) λd hd=>by
   rcases List.mem_cons.mp hd with rfl|hd
   ·exact (bT rfl).trans (LC w)
   ·let⟨n,hn,rfl⟩:=List.mem_map.mp hd;exact (bT rfl).trans (fV (h n hn))
  rw[this,zI,zI,zM,zM];rfl
 unfold cQ pM;refine aJ (aZ (aq (a:=.str " ") (b:=.list ((w::ns.map λn=>[48+n]).map sD)) ?_ rfl (cc ?_)))
 ·rw[rO,yr]
  ·rfl
  ·rw[zL,zD,yr];show (ns.length+1) * 100+(ns.length+1) * 1<=_;lia
  ·intro p hp;rcases List.mem_cons.mp hp with rfl|hp
   ·exact hw
   ·let⟨n,_,rfl⟩:=List.mem_map.mp hp;exact (by decide:1<=100)
 ·show (cY (fG 0) (λ_=>some true) (aU cn (aa (ae 0) af)) [none] (sD w::ns.map λn=>.int ((n:Nat):Int))).bind small=_;rw[c];exact bx (by simp;lia)
def Di{ls:List (List Nat)}(h:∀l∈ls,l.length<=99)(hl:ls.length<=100):cf [.list (ls.map sD)]=some (sD (ij ls)):=by
 have c:=bQ (cs:=[]) (tt:=λ_=>some true) (te:=f2 az (ae 0) (fC (.str "\n"))) (g:=sD) (f:=λl=>sD (l++[10])) (q:=λ_=>true) (l:=ls) (fi:=aM (ae 0)) (ρ:=[some (.list (ls.map sD))]) (fv rfl) (by lia) λl hm=>⟨rfl,λ_=>aq (a:=sD l) (b:=sD [10]) (bS (by have:=h l hm;rw[yZ];lia)) rfl (by rw[Cf];rfl)⟩
 rw[show ls.filter (λ_=>true)=ls by simp] at c;unfold cf hZ;refine aJ (aZ (aq (a:=.str "") (b:=.list ((ls.map λl=>l++[10]).map sD)) ?_ rfl ((cc c).trans (by rw[zM];rfl))));rw[rO,uh]
 ·rfl
 ·rw[zD,uh];show ls.length * 100+ls.length * 0<=_;lia
 ·intro p hp;let⟨l,hm,rfl⟩:=List.mem_map.mp hp;rw[zN];exact Nat.succ_le_succ (h l hm)
def pN(p:Pl):List Nat:=p.1.toNat::p.2.map Int.toNat
def wN(w:Wy):List Nat:=[w.1.toNat,w.2.1.toNat,w.2.2.toNat]
abbrev iZ:List Nat:=[103,105,118,101]
abbrev i8:List Nat:=[116,97,107,101]
abbrev ll:List Nat:=[119,97,121]
def Cs:(PyData.str "give":D)=sD iZ:=by rw[show ("give":Str)=tS iZ by decide +kernel]
def Dw:(PyData.str "take":D)=sD i8:=by rw[show ("take":Str)=tS i8 by decide +kernel]
def Jb:(PyData.str "way":D)=sD ll:=by rw[show ("way":Str)=tS ll by decide +kernel]
structure Dg(ns:List Nat):Prop where
 d:∀n∈ns,n < 10
 l:ns.length<=17
section
variable {G T:List Pl}{W:List Wy}
def toN{x:Int}(h:0<=x):((x.toNat:Nat):Int)=x:=Int.toNat_of_nonneg h
def Jh{p:Pl}(ha:0<=p.1/\p.1<=9)(hl:p.2.length<=16)(hm:∀x∈p.2,0<=x/\x < 4):Dg (pN p)/\(pN p).map (λn=>((n:Nat):Int))=p.1::p.2:=by
 refine⟨⟨λn hn=>?_,?_⟩,?_⟩
 ·rcases List.mem_cons.mp hn with rfl|hn
  ·lia
  ·let⟨x,hx,rfl⟩:=List.mem_map.mp hn;have:=hm x hx;lia
 ·show (p.2.map Int.toNat).length+1<=17;rw[zD];lia
 ·show ((p.1.toNat:Nat):Int)::(p.2.map Int.toNat).map (λn=>((n:Nat):Int))=_;rw[toN ha.1,zM]
  congr 1
  conv=>rhs;rw[<- List.map_id p.2]
  exact yG λx hx=>toN (hm x hx).1
def L6(h:Wd G T W){p:Pl}(hp:p∈G):Dg (pN p)/\(pN p).map (λn=>((n:Nat):Int))=p.1::p.2:=by
 let⟨i,hi⟩:=List.getElem?_of_mem hp;have pr:=h.gl i p hi;refine Jh (h.ga p hp) ?_ λx hx=>?_
 ·rw[pr.length_eq];exact yB (zw W i) h.wl
 ·have:=pr.mem_iff.mp hx;unfold mJ at this;let⟨w,hw,rfl⟩:=List.mem_map.mp this;have:=(h.wr w (List.mem_filter.mp hw).1).2.1;have:=h.t4;lia
def Ma(h:Wd G T W){p:Pl}(hp:p∈T):Dg (pN p)/\(pN p).map (λn=>((n:Nat):Int))=p.1::p.2:=by
 let⟨i,hi⟩:=List.getElem?_of_mem hp;have pr:=h.tl i p hi;refine Jh (h.ta p hp) ?_ λx hx=>?_
 ·rw[pr.length_eq];exact yB (Ah W i) h.wl
 ·have:=pr.mem_iff.mp hx;unfold ofT at this;let⟨w,hw,rfl⟩:=List.mem_map.mp this;have:=(h.wr w (List.mem_filter.mp hw).1).1;have:=h.g4;lia
def MH(h:Wd G T W){w:Wy}(hw:w∈W):Dg (wN w)/\(wN w).map (λn=>((n:Nat):Int))=[w.1,w.2.1,w.2.2]:=by
 have a:=h.wr w hw;have:=h.g4;have:=h.t4;refine⟨⟨λn hn=>?_,by show 3<=17;decide⟩,?_⟩
 ·simp?[wN,zQ,yD,xQ] at hn;lia
 ·show [((w.1.toNat:Nat):Int),((w.2.1.toNat:Nat):Int),((w.2.2.toNat:Nat):Int)]=_;rw[toN a.1.1,toN a.2.1.1,toN (by lia)]
def rC(G T:List Pl)(W:List Wy):List (List Nat×List Nat):=G.map (λp=>(iZ,pN p))++(T.map (λp=>(i8,pN p))++W.map λw=>(ll,wN w))
abbrev nZ(q:List Nat×List Nat):List Nat:=fg q.1 q.2
def sy(h:Wd G T W):∀q∈rC G T W,(q.1=iZ\/q.1=i8\/q.1=ll)/\Dg q.2:=λq hq=>by
 rcases List.mem_append.mp hq with hq|hq
 ·let⟨p,hp,rfl⟩:=List.mem_map.mp hq;exact⟨.inl rfl,(L6 h hp).1⟩
 ·rcases List.mem_append.mp hq with hq|hq
  ·let⟨p,hp,rfl⟩:=List.mem_map.mp hq;exact⟨.inr (.inl rfl),(Ma h hp).1⟩
  ·let⟨w,hw,rfl⟩:=List.mem_map.mp hq;exact⟨.inr (.inr rfl),(MH h hw).1⟩
def rJ(h:Wd G T W):(rC G T W).length<=24:=by
 unfold rC;rw[zN,zN,zD,zD,zD];have:=h.g4;have:=h.t4;have:=h.wl;lia
def Ak{w:List Nat}(hw:w=iZ\/w=i8\/w=ll):w.length<=4/\32∉w/\(∀c∈w,90 < c/\c < 200):=by
 rcases hw with rfl|rfl|rfl<;>exact⟨by decide,by decide,by decide⟩
def nB{q:List Nat×List Nat}(hw:q.1=iZ\/q.1=i8\/q.1=ll)(d:Dg q.2):(nZ q).length<=99/\10∉nZ q/\(∀c∈nZ q,c < 200):=by
 let⟨a,b,c⟩:=Ak hw;have hm:∀x∈nZ q,(90 < x/\x < 200)\/x=32\/(48<=x/\x < 58):=λx hx=>by
  rw[show nZ q=q.1++k4 q.2 from jv _ _] at hx;rcases List.mem_append.mp hx with hx|hx
  ·exact .inl (c x hx)
  ·exact .inr (Ft d.d hx)
 refine⟨?_,λz=>?_,λx hx=>?_⟩
 ·rw[show nZ q=q.1++k4 q.2 from jv _ _,zN,ka];have:=d.l;lia
 ·have:=hm 10 z;lia
 ·have:=hm x hx;lia
abbrev FH(G T:List Pl)(W:List Wy):List Nat:=ij ((rC G T W).map nZ)
def Dr(h:Wd G T W):Gd (FH G T W):=by
 refine⟨λc hc=>?_,?_⟩
 ·rcases zy hc with rfl|⟨l,hl,hc⟩
  ·decide
  ·let⟨q,hq,rfl⟩:=List.mem_map.mp hl;let⟨a,b⟩:=sy h q hq;have:=(nB a b).2.2 c hc;lia
 ·have:=mP (ls:=(rC G T W).map nZ) λl hl=>by
   let⟨q,hq,rfl⟩:=List.mem_map.mp hl;let⟨a,b⟩:=sy h q hq;exact (nB a b).1
  rw[zD] at this;have:=rJ h;show (ij ((rC G T W).map nZ)).length<=10000;lia
def Em{p:List Nat}{l:List Int}(h:p.map (λn=>((n:Nat):Int))=l):(p.map λn=>PyData.int ((n:Nat):Int))=l.map PyData.int:=by
 rw[<- h,zM];rfl
def Ja{w:List Nat}{p:Pl}(hw:w.length<=4)(d:Dg (pN p))(e:(pN p).map (λn=>((n:Nat):Int))=p.1::p.2):b8 [sD w,aI p]=some (sD (fg w (pN p))):=by
 unfold b8 nJ;have hl:p.2.length<=16:=by have:=d.l;unfold pN at this;rw[zL,zD] at this;lia
 refine aJ (aZ (call_of (EE (w:=w) (ns:=pN p) (by lia) d.d (by have:=d.l;lia)) (cons_of (cc ?_) rfl) rfl));have e1:bM (du (aa (ae 0) (aa (f2 aF (ae 1) (fC (.int 0))) af))) (aL [Slot.val (sD w),Slot.val (aI p)])=some (.list [sD w,.int p.1]):=cc (iC (cons_of rfl (cons_of rfl rfl)) (by simp));have e2:bM (eQ br (aa (f2 aF (ae 1) (fC (.int 1))) af)) (aL [Slot.val (sD w),Slot.val (aI p)])=some (.list (p.2.map PyData.int)):=rfl;show pU gF _ _ (aL [Slot.val (sD w),Slot.val (aI p)])=_;unfold pU;rw[e1,zA,e2,zA];show small _=_;rw[bx (by simp;lia),Em e];rfl
def Nq{w:Wy}(d:Dg (wN w))(e:(wN w).map (λn=>((n:Nat):Int))=[w.1,w.2.1,w.2.2]):ah 1 cQ (aa (bM (pU gF (bM (du (aa (fC (.str "way")) af))) (bM (eQ br (aa (ae 0) af))))) af) [some (av w)]=some (sD (fg ll (wN w))):=by
 refine call_of (EE (w:=ll) (ns:=wN w) (by decide) d.d (by have:=d.l;lia)) (cons_of (cc ?_) rfl) rfl;have e1:bM (du (aa (fC (.str "way")) af)) [some (av w)]=some (.list [sD ll]):=by rw[<- Jb];exact cc (iC (cons_of rfl rfl) (by simp))
 have e2:bM (eQ br (aa (ae 0) af)) [some (av w)]=some (.list ([w.1,w.2.1,w.2.2].map PyData.int)):=rfl;unfold pU;rw[e1,zA,e2,zA];show small _=_;rw[bx (by simp),Em e];rfl
def uw{i:Nat}{fz:List Nat}{f:Dl.Env->Option (List D)}{ρ:ar}{ds us:List D}(hf:f (bW ρ)=some us)(hh:hand fz 0 ρ=ρ)(ho:ρ[i]?=some (.own ds))(hl:ds.length+us.length<=1000):oK i fz f ρ=some (.nx (ρ.set i (.own (ds++us)))):=by
 have hz:ds.length+us.length<=sizeLine:=yB hl (by decide);simp?[oK,hh,hf,zA,oZ,ho,hz,xE,zB]
def pK(h:Wd G T W):cg [bb G T W]=some (sD (FH G T W)):=by
 have c1:∀ρ:Dl.Env,ae 0 ρ=some (bb G T W)->aw 1 [] (aM (f2 aF (ae 0) (fC (.int 0)))) (fG 0) (λ_=>some true) (ah 2 b8 (aa (fC (.str "give")) (aa (ae 0) af))) ρ=some (G.map λp=>sD (fg iZ (pN p))):=λρ h0=>by
  have c:=bQ (cs:=[]) (tt:=λ_=>some true) (te:=ah 2 b8 (aa (fC (.str "give")) (aa (ae 0) af))) (g:=aI) (f:=λp=>sD (fg iZ (pN p))) (q:=λ_=>true) (l:=G) (fi:=aM (f2 aF (ae 0) (fC (.int 0)))) (ρ:=ρ) (fy (aq (mS false G T W) h0 rfl)) (by have:=h.g4;lia) λp hp=>⟨rfl,λ_=>call_of (Ja (w:=iZ) (by decide) (L6 h hp).1 (L6 h hp).2) (cons_of (by rw[Cs];rfl) (cons_of rfl rfl)) rfl⟩
  rw[show G.filter (λ_=>true)=G by simp] at c;exact c
 have c2:∀ρ:Dl.Env,ae 0 ρ=some (bb G T W)->aw 1 [] (aM (f2 aF (ae 0) (fC (.int 1)))) (fG 0) (λ_=>some true) (ah 2 b8 (aa (fC (.str "take")) (aa (ae 0) af))) ρ=some (T.map λp=>sD (fg i8 (pN p))):=λρ h0=>by
  have c:=bQ (cs:=[]) (tt:=λ_=>some true) (te:=ah 2 b8 (aa (fC (.str "take")) (aa (ae 0) af))) (g:=aI) (f:=λp=>sD (fg i8 (pN p))) (q:=λ_=>true) (l:=T) (fi:=aM (f2 aF (ae 0) (fC (.int 1)))) (ρ:=ρ) (fy (aq (mS true G T W) h0 rfl)) (by have:=h.t4;lia) λp hp=>⟨rfl,λ_=>call_of (Ja (w:=i8) (by decide) (Ma h hp).1 (Ma h hp).2) (cons_of (by rw[Dw];rfl) (cons_of rfl rfl)) rfl⟩
  rw[show T.filter (λ_=>true)=T by simp] at c;exact c
 have c3:∀ρ:Dl.Env,ae 0 ρ=some (bb G T W)->aw 1 [] (aM (f2 aF (ae 0) (fC (.int 2)))) (fG 0) (λ_=>some true) (ah 1 cQ (aa (bM (pU gF (bM (du (aa (fC (.str "way")) af))) (bM (eQ br (aa (ae 0) af))))) af)) ρ=some (W.map λw=>sD (fg ll (wN w))):=λρ h0=>by
  have c:=bQ (cs:=[]) (tt:=λ_=>some true) (te:=ah 1 cQ (aa (bM (pU gF (bM (du (aa (fC (.str "way")) af))) (bM (eQ br (aa (ae 0) af))))) af)) (g:=av) (f:=λw=>sD (fg ll (wN w))) (q:=λ_=>true) (l:=W) (fi:=aM (f2 aF (ae 0) (fC (.int 2)))) (ρ:=ρ) (fy (aq (fu G T W) h0 rfl)) (by have:=h.wl;lia) λw hw=>⟨rfl,λ_=>Nq (MH h hw).1 (MH h hw).2⟩
  rw[show W.filter (λ_=>true)=W by simp] at c;exact c
 have hg:=h.g4;have ht:=h.t4;have hw:=h.wl;unfold cg;refine aJ ?_;show dU [.val (bb G T W),.non]=_;unfold dU;refine (ao (eB (c1 _ rfl) rfl)).trans ?_;refine (ao (uw (ds:=G.map λp=>sD (fg iZ (pN p))) (c2 _ rfl) rfl rfl (by rw[zD,zD];lia))).trans ?_;refine (ao (uw (ds:=(G.map λp=>sD (fg iZ (pN p)))++T.map λp=>sD (fg i8 (pN p))) (c3 _ rfl) rfl rfl (by rw[zN,zD,zD,zD];lia))).trans ?_;have e:((G.map λp=>sD (fg iZ (pN p)))++T.map λp=>sD (fg i8 (pN p)))++(W.map λw=>sD (fg ll (wN w)))=((rC G T W).map nZ).map sD:=by
  unfold rC;rw[List.append_assoc,qU,qU,qU,qU];simp?[zM];rfl
 rw[e];refine aZ (call_of (Di (ls:=(rC G T W).map nZ) (λl hl=>?_) (by rw[zD];have:=rJ h;lia)) rfl rfl);let⟨q,hq,rfl⟩:=List.mem_map.mp hl;let⟨a,b⟩:=sy h q hq;exact (nB a b).1
end
def KP(a b:List Nat):(tS a == tS b)=decide (a=b):=by
 by_cases h:a=b
 ·subst h;simp
 ·rw[zX h];cases e:tS a == tS b with
  | false=>rfl
  | true =>
   have:=qX tl (eq_of_beq e);rw[cq,cq] at this;exact absurd this h
def IB{w:List Nat}(hw:w=iZ\/w=i8\/w=ll):PyData.strOk (tS w)=true:=(show Gd w from ⟨λc hc=>by have:=(Ak hw).2.2 c hc;lia,by have:=(Ak hw).1;lia⟩).sk
abbrev LsOk(qs:List (List Nat×List Nat)):Prop:=∀q∈qs,(q.1=iZ\/q.1=i8\/q.1=ll)/\Dg q.2
def ET(hq:LsOk qs)(hl:qs.length<=100){w:List Nat}(hw:w=iZ\/w=i8\/w=ll):dg [.list ((qs.map nZ).map sD),sD w]=some (.list ((qs.filter λq=>decide (q.1=w)).map λq=>sP q.2)):=by
 have c1:∀ρ:Dl.Env,ae 0 ρ=some (.list ((qs.map nZ).map sD))->aw 1 [] (aM (ae 0)) (fG 0) (λ_=>some true) (bM (pU dZ (ae 0) (fC (.str " ")))) ρ=some (qs.map λq=>.list ((q.1::q.2.map λn=>[48+n]).map sD)):=λρ h0=>by
  rw[zM] at h0;have c:=bQ (cs:=[]) (tt:=λ_=>some true) (te:=bM (pU dZ (ae 0) (fC (.str " ")))) (g:=λq=>sD (nZ q)) (f:=λq=>.list ((q.1::q.2.map λn=>[48+n]).map sD)) (q:=λ_=>true) (l:=qs) (fi:=aM (ae 0)) (ρ:=ρ) (fv h0) (by lia) λq hm=>⟨rfl,λ_=>cc (by
   let⟨a,b⟩:=hq q hm;show dZ (sD (nZ q)) (.str " ")=_;rw[yr,uz (by rw[<- fO,cq];have:=(nB a b).1;have:=Ml;lia),nR,cq,HQ (Ak a).2.1 b.d,zM];rfl)⟩
  rw[show qs.filter (λ_=>true)=qs by simp] at c;exact c
 unfold dg;refine aJ ?_;show lX [.val (.list ((qs.map nZ).map sD)),.val (sD w),.non]=_;unfold lX;refine (ao (eB (c1 _ rfl) rfl)).trans (aZ (cc ?_));refine bQ (cs:=[1]) (tt:=fB (f2 bj (f2 aF (ae 0) (fC (.int 0))) (ae 1))) (te:=ah 1 cU (aa (cC bJ (ae 0) (lh (fC (.int 1))) cZ) af)) (g:=λq=>.list ((q.1::q.2.map λn=>[48+n]).map sD)) (f:=λq=>sP q.2) (q:=λq=>decide (q.1=w)) (l:=qs) (fi:=aM (ae 2)) (fv rfl) (by lia) λq hm=>?_;let⟨a,b⟩:=hq q hm;refine⟨aX (aq (a:=sD q.1) (b:=sD w) ((eq_str (IB a) (IB hw)).trans (by rw[KP])) (aq (P6 _ _) rfl rfl) rfl),λ_=>?_⟩;refine call_of (Lu b.d (by have:=b.l;lia)) (cons_of ((GD (k:=1) rfl rfl).trans ?_) rfl) rfl;rw[zI,zM];rfl
section
variable {G T:List Pl}{W:List Wy}
def MN:(rC G T W).filter (λq=>decide (q.1=iZ))=G.map λp=>(iZ,pN p):=by
 unfold rC;rw[List.filter_append,List.filter_append,List.filter_eq_self.mpr,List.filter_eq_nil_iff.mpr,List.filter_eq_nil_iff.mpr]
 ·simp
 ·intro q hq;let⟨_,_,rfl⟩:=List.mem_map.mp hq;simp
 ·intro q hq;let⟨_,_,rfl⟩:=List.mem_map.mp hq;simp
 ·intro q hq;let⟨_,_,rfl⟩:=List.mem_map.mp hq;exact zY rfl
def Nw:(rC G T W).filter (λq=>decide (q.1=i8))=T.map λp=>(i8,pN p):=by
 unfold rC;rw[List.filter_append,List.filter_append,List.filter_eq_nil_iff.mpr,List.filter_eq_self.mpr,List.filter_eq_nil_iff.mpr]
 ·simp
 ·intro q hq;let⟨_,_,rfl⟩:=List.mem_map.mp hq;simp
 ·intro q hq;let⟨_,_,rfl⟩:=List.mem_map.mp hq;exact zY rfl
 ·intro q hq;let⟨_,_,rfl⟩:=List.mem_map.mp hq;simp
def MY:(rC G T W).filter (λq=>decide (q.1=ll))=W.map λw=>(ll,wN w):=by
 unfold rC;rw[List.filter_append,List.filter_append,List.filter_eq_nil_iff.mpr,List.filter_eq_nil_iff.mpr,List.filter_eq_self.mpr]
 ·simp
 ·intro q hq;let⟨_,_,rfl⟩:=List.mem_map.mp hq;exact zY rfl
 ·intro q hq;let⟨_,_,rfl⟩:=List.mem_map.mp hq;simp
 ·intro q hq;let⟨_,_,rfl⟩:=List.mem_map.mp hq;simp
def C3(hq:LsOk qs)(hl:qs.length<=100){w:List Nat}(hw:w=iZ\/w=i8\/w=ll){P:List Pl}(hf:(qs.filter λq=>decide (q.1=w))=P.map λp=>(w,pN p))(hp:∀p∈P,(pN p).map (λn=>((n:Nat):Int))=p.1::p.2)(hP:P.length<=100):dv [.list ((qs.map nZ).map sD),sD w]=some (.tuple (P.map aI)):=by
 have r:=ET hq hl hw;rw[hf,show (P.map λp=>(w,pN p)).map (λq=>sP q.2)=P.map λp=>sP (pN p) by rw[zM];rfl] at r;have ei:∀ρ:Dl.Env,ae 0 ρ=some (.list ((qs.map nZ).map sD))->ae 1 ρ=some (sD w)->aM (ah 2 dg (aa (ae 0) (aa (ae 1) af))) ρ=some (P.map λp=>sP (pN p)):=λρ h0 h1=>fv (call_of r (cons_of h0 (cons_of h1 rfl)) rfl);unfold dv;refine aJ ?_;show lO [.val (.list ((qs.map nZ).map sD)),.val (sD w)]=_;unfold lO;have c:=bQ (cs:=[]) (tt:=fB (f2 uL (aU bE (aa (ae 0) af)) (fC (.int 0)))) (te:=aP (aa (f2 aF (ae 0) (fC (.int 0))) (aa (cC bJ (ae 0) (lh (fC (.int 1))) cZ) af))) (g:=λp=>sP (pN p)) (f:=aI) (q:=λ_=>true) (l:=P) (ei (aL [.val (.list ((qs.map nZ).map sD)),.val (sD w)]) rfl rfl) (by lia) λp hm=>by
  have e:sP (pN p)=ak (p.1::p.2):=by rw[rS,hp p hm]
  rw[e];refine⟨aX (aq ((m4 _ _).trans ?_) (il (l:=p.1::p.2) (k:=PyData.int) rfl) rfl),λ_=>tup_is (ds:=[.int p.1,ak p.2]) (cons_of (aq (Pe _ _) rfl rfl) (cons_of ((EL (ds:=(p.1::p.2).map PyData.int) (k:=1) rfl rfl).trans rfl) rfl)) (by simp)⟩;rw[zY (by rw[zL];lia)]
 rw[show P.filter (λ_=>true)=P by simp] at c;exact aZ ((bT (cc c)).trans (gR _))
def r9(h:Wd G T W):ee [sD (FH G T W)]=some (bb G T W):=by
 have hq:=sy h;have hl:=rJ h;have g:=Dr h;have e0:=xo (x:=tS (FH G T W)) (ls:=(rC G T W).map nZ) g.zt (by
  rw[cq];refine rV λl hl=>?_;let⟨q,hm,rfl⟩:=List.mem_map.mp hl;let⟨a,b⟩:=hq q hm;exact (nB a b).2.1)
 have e1:=C3 hq (by lia) (w:=iZ) (.inl rfl) MN (λp hp=>(L6 h hp).2) (by have:=h.g4;lia);have e2:=C3 hq (by lia) (w:=i8) (.inr (.inl rfl)) Nw (λp hp=>(Ma h hp).2) (by have:=h.t4;lia);have e3:=ET hq (by lia) (w:=ll) (.inr (.inr rfl));rw[MY,show (W.map λw=>(ll,wN w)).map (λq=>sP q.2)=W.map av by
  rw[zM];refine yG λw hw=>?_;show sP (wN w)=av w;rw[rS,(MH h hw).2];rfl] at e3
 unfold ee;refine aJ ?_;show gM [.val (sD (FH G T W)),.non,.non]=_;unfold gM;refine (ao (bD (call_of e0 rfl rfl) (call_of e0 rfl rfl) rfl)).trans ?_;have ew:∀ρ:Dl.Env,ae 1 ρ=some (.list (((rC G T W).map nZ).map sD))->(aP (aa (ah 2 dv (aa (ae 1) (aa (fC (.str "give")) af))) (aa (ah 2 dv (aa (ae 1) (aa (fC (.str "take")) af))) (aa (aU cm (aa (ah 2 dg (aa (ae 1) (aa (fC (.str "way")) af))) af)) af)))) ρ=some (bb G T W):=λρ h1=>tup_is (ds:=[.tuple (G.map aI),.tuple (T.map aI),.tuple (W.map av)]) (cons_of (call_of e1 (cons_of h1 (cons_of (by rw[Cs];rfl) rfl)) rfl) (cons_of (call_of e2 (cons_of h1 (cons_of (by rw[Dw];rfl) rfl)) rfl) (cons_of ((bT (call_of e3 (cons_of h1 (cons_of (by rw[Jb];rfl) rfl)) rfl)).trans (gR _)) rfl))) (by simp);refine (ao (bD (ew _ rfl) (ew _ rfl) rfl)).trans ?_;refine (ao (bo (lW (bZ (b:=true) (aX (call_of (eX h) rfl rfl))) (aX (aq (a:=sD (FH G T W)) (b:=sD (FH G T W)) ?_ (call_of (pK h) rfl rfl) rfl))))).trans (aZ rfl);rw[ne_str g.sk g.sk];simp
end
def K5(a x b:Nat):List Nat:=[48+a,32,45,48+x,62,32,48+b]
def j4{f:Dl.Env->Option D}{fs:List (Dl.Env->Option D)}{acc l:List Nat}{ρ:Dl.Env}(h:f ρ=some (sD l))(hl:acc.length+l.length<=20000):GM (f::fs) (tS acc) ρ=GM fs (tS (acc++l)) ρ:=by
 have e:tS acc++tS l=tS (acc++l):=vc (by rw[qu,cq,cq,cq]);show ((f ρ).bind λd=>(KE d).bind λy=>if (tS acc++y).length<=sizeLine then GM fs (tS acc++y) ρ else none)=_;rw[h];show (if (tS acc++tS l).length<=sizeLine then GM fs (tS acc++tS l) ρ else none)=_;rw[e,yI (by rw[<- fO,cq,zN];exact yB hl Ml)]
def CJ{f:Dl.Env->Option D}{ρ:Dl.Env}{n:Nat}(h:f ρ=some (nD n))(hn:n < 10):f1 Bj f ρ=some (sD [48+n]):=by
 unfold f1;rw[h];exact fV hn
def Li{a b x:Nat}{l:Int}(ha:a < 10)(hb:b < 10)(hx:x < 10):bG [av (((a:Nat):Int),((b:Nat):Int),l),nD x]=some (sD (K5 a x b)):=by
 unfold bG;refine aJ ?_;show iz [.val (av (((a:Nat):Int),((b:Nat):Int),l)),.val (nD x),.non,.non]=_;unfold iz;refine (ao (bC (d:=nD a) (aq (ub _) rfl rfl) rfl)).trans ?_;refine (ao (bC (d:=nD b) (aq (sX _) rfl rfl) rfl)).trans (aZ ?_);have m1:(PyData.str " -":D)=sD [32,45]:=by rw[show (" -":Str)=tS [32,45] by decide +kernel]
 have m2:(PyData.str "> ":D)=sD [62,32]:=by rw[show ("> ":Str)=tS [62,32] by decide +kernel]
 rw[show Str.empty=tS [] from rfl,j4 (CJ (n:=a) rfl ha) (by simp),j4 (l:=[32,45]) (by rw[m1];rfl) (by simp),j4 (CJ (n:=x) rfl hx) (by simp),j4 (l:=[62,32]) (by rw[m2];rfl) (by simp),j4 (CJ (n:=b) rfl hb) (by simp)];rfl
section
variable {G T:List Pl}{W:List Wy}{P:List Int}
def wx(W:List Wy)(i x:Nat):List Nat:=K5 (bu W i).1.toNat x (bu W i).2.1.toNat
def xc(h:Wd G T W){i:Nat}(hi:i < W.length):av (bu W i)=av ((((bu W i).1.toNat:Nat):Int),(((bu W i).2.1.toNat:Nat):Int),(bu W i).2.2)/\(bu W i).1.toNat < 10/\(bu W i).2.1.toNat < 10/\1<=(bu W i).2.2/\(bu W i).2.2<=9:=by
 have a:=h.wr _ (gY hi);have:=h.g4;have:=h.t4;refine⟨?_,by lia,by lia,a.2.2⟩;rw[toN a.1.1,toN a.2.1.1]
def xu(h:Wd G T W){i x:Nat}(hi:i < W.length)(hx:x < 10):bG [av (bu W i),nD x]=some (sD (wx W i x)):=by
 let⟨e,a,b,_⟩:=xc h hi;rw[e];exact Li a b hx
def JP(h:Wd G T W){i j x y:Nat}(hi:i < W.length)(hj:j < W.length)(e:wx W i x=wx W j y):i=j/\x=y:=by
 unfold wx K5 at e;injection e with e1 e
 injection e with _ e
 injection e with _ e
 injection e with e2 e
 injection e with _ e
 injection e with _ e
 injection e with e3 _
 have a:=h.wr _ (gY hi);have b:=h.wr _ (gY hj);refine⟨?_,by lia⟩;have hp:=h.wp;rcases Nat.lt_trichotomy i j with z|z|z
 ·have:=List.pairwise_iff_getElem.mp hp i j hi hj z;rw[iA hi,iA hj] at this;lia
 ·exact z
 ·have:=List.pairwise_iff_getElem.mp hp j i hj hi z;rw[iA hi,iA hj] at this;lia
def Ly{ks:List (Str×List Int)}{z z':Str}{ns:List Int}(h:(ks.any λp=>decide (p.1=z))=false):mL (ks++[(z,ns)]) z'=if z=z' then some ns else mL ks z':=by
 unfold mL;rw[List.find?_append];by_cases e:z=z'
 ·subst e;rw[yI rfl,List.find?_eq_none.mpr (λp hp=>by
   rw[List.any_eq_false] at h;exact h p hp)]
  simp
 ·rw[yK e];cases ks.find? λp=>decide (p.1=z') with
  | none=>simp[e]
  | some q=>rfl
def wK{z z':Str}{ns:List Int}:∀ {ks:List (Str×List Int)},(ks.any λp=>decide (p.1=z))=true->mL (ks.map λp=>if p.1=z then (p.1,ns) else p) z'=if z=z' then some ns else mL ks z'
 | [],h=>by cases h
 | p::r,h=>by
  unfold mL;rw[zI,List.find?_cons,List.find?_cons];by_cases e:p.1=z
  ·subst e;rw[yI rfl];by_cases e':p.1=z'
   ·subst e';simp
   ·rw[yK e'];rw[show (decide ((p.1,ns).1=z'))=false from zX e'];dsimp only;cases hr:r.any λq=>decide (q.1=p.1) with
    | true =>
     have:=wK (z':=z') (ns:=ns) hr;unfold mL at this;rw[this,yK e']
    | false =>
     have:(r.map λq=>if q.1=p.1 then (q.1,ns) else q)=r:=by
      conv=>rhs;rw[<- List.map_id r]
      refine yG λq hq=>?_;rw[List.any_eq_false] at hr;have:=hr q hq;simp?[zJ] at this;rw[yK this];rfl
     rw[this]
  ·rw[yK e];have hr:(r.any λq=>decide (q.1=z))=true:=by
    rw[kP,zX e,Bool.false_or] at h;exact h
   have ih:=wK (z':=z') (ns:=ns) hr;unfold mL at ih;by_cases e':p.1=z'
   ·rw[zY e',yK (λw=>e (e'.trans w.symm))]
   ·rw[zX e'];exact ih
def K2(ks:List (Str×List Int))(z z':Str)(ns:List Int):mL (nh ks z ns) z'=if z=z' then some ns else mL ks z':=by
 unfold nh;split
 ·rename_i h;exact wK h
 ·rename_i h;exact Ly (by rw[Bool.not_eq_true] at h;exact h)
def HD(ks:List (Str×List Int))(z:Str)(ns:List Int):(nh ks z ns).length<=ks.length+1:=by
 unfold nh;split
 ·rw[zD];lia
 ·rw[zN];exact yJ _
structure Kn(W:List Wy)(i k:Nat)(ks:List (Str×List Int)):Prop where
 all:∀j x:Nat,j < W.length->1<=x->(x:Int)<=(bu W j).2.2->(j < i\/(j=i/\x<=k))->mL ks (tS (wx W j x))=some [((j:Nat):Int),((x:Nat):Int)]
 len:ks.length<=9 * i+k
def Kn.next(h:Wd G T W){i k:Nat}{ks:List (Str×List Int)}(hi:i < W.length)(K:Kn W i k ks):Kn W i (k+1) (nh ks (tS (wx W i (k+1))) [((i:Nat):Int),((k+1:Nat):Int)]):=by
 refine⟨λj x hj h1 h2 hc=>?_,?_⟩
 ·rw[K2];by_cases e:wx W i (k+1)=wx W j x
  ·let⟨rfl,rfl⟩:=JP h hi hj e;rw[yI rfl]
  ·rw[yK λz=>e (by have:=qX tl z;rwa [cq,cq] at this)];refine K.all j x hj h1 h2 ?_;rcases hc with hc|⟨rfl,hc⟩
   ·exact .inl hc
   ·refine .inr ⟨rfl,?_⟩;by_cases z:x=k+1
    ·subst z;exact absurd rfl e
    ·lia
 ·have:=HD ks (tS (wx W i (k+1))) [((i:Nat):Int),((k+1:Nat):Int)];have:=K.len;lia
abbrev BO(G T:List Pl)(W:List Wy)(x1 x2 x3 x4:Slot):ar:=[.val (bb G T W),x1,x2,x3,x4]
def HN:ar->Option Out:=um 1 (ah 2 bG (aa (ae 3) (aa (ae 4) af))) (aP (aa (ae 2) (aa (ae 4) af)))
def P0:ar->Option Out:=dh [3] (iP (aa (fC (.int 1)) (aa (f2 aB (f2 aF (ae 3) (fC (.int 2))) (fC (.int 1))) af))) (p8 4) HN
def tupI(l:List Int):k7 (ak l)=some l:=by
 have:∀l:List Int,intsOf (l.map PyData.int)=some l:=λl=>by
  induction l with
  | nil=>rfl
  | cons x r ih=>rw[zI,intsOf,ih];rfl
 exact this l
def G8(h:Wd G T W){i k:Nat}{ks:List (Str×List Int)}(hi:i < W.length)(hk:k < 9)(K:Kn W i k ks):HN (BO G T W (.dic ks) (.val (nD i)) (.val (av (bu W i))) (.val (nD (k+1))))=some (.nx (BO G T W (.dic (nh ks (tS (wx W i (k+1))) [((i:Nat):Int),((k+1:Nat):Int)])) (.val (nD i)) (.val (av (bu W i))) (.val (nD (k+1))))):=by
 have e1:(aP (aa (ae 2) (aa (ae 4) af))) (bW (BO G T W (.dic ks) (.val (nD i)) (.val (av (bu W i))) (.val (nD (k+1)))))=some (ak [((i:Nat):Int),((k+1:Nat):Int)]):=tup_is (ds:=[nD i,nD (k+1)]) rfl (by simp);have e2:(ah 2 bG (aa (ae 3) (aa (ae 4) af))) (bW (BO G T W (.dic ks) (.val (nD i)) (.val (av (bu W i))) (.val (nD (k+1)))))=some (sD (wx W i (k+1))):=call_of (xu h hi (by lia)) rfl rfl;have hl:ks.length < sizeLine:=by
  have:=K.len;have:=h.wl;have:=Ml;lia
 unfold HN um;rw[e1,zA,tupI,zA,e2,zA];show (if ks.length < sizeLine then _ else none)=_;rw[yI hl];rfl
def F7(h:Wd G T W):∃ks,dF [bb G T W]=some (dD ks)/\∀j x:Nat,j < W.length->1<=x->(x:Int)<=(bu W j).2.2->mL ks (tS (wx W j x))=some [((j:Nat):Int),((x:Nat):Int)]:=by
 let⟨ρ',f,ks,x2,x3,x4,rfl,K⟩:=gL (tgt:=dk 2 3) (gb:=P0) (λi=>.tuple [nD i,av (bu W i)]) (λi ρ=>∃ks x2 x3 x4,ρ=BO G T W (.dic ks) x2 x3 x4/\Kn W i 0 ks) W.length 0 (BO G T W (.dic []) .non .non .non)
  (λi ρ _ hi hρ=>by
   let⟨ks,x2,x3,x4,rfl,K⟩:=hρ;have hi:i < W.length:=by lia
   let⟨_,_,_,l1,l9⟩:=xc h hi;let⟨m,hm⟩:=kW (show 0<=(bu W i).2.2 by lia);let⟨ρ',f,ks',y4,rfl,K'⟩:=gL (tgt:=p8 4) (gb:=HN) (λk=>nD (k+1)) (λk ρ=>∃ks x4,ρ=BO G T W (.dic ks) (.val (nD i)) (.val (av (bu W i))) x4/\Kn W i k ks) m 0 (BO G T W (.dic ks) (.val (nD i)) (.val (av (bu W i))) x4)
    (λk ρ _ hk hρ=>by
     let⟨ks,x4,rfl,K⟩:=hρ;exact⟨_,_,rfl,G8 h hi (by lia) K,_,_,rfl,K.next h hi⟩) ⟨ks,_,rfl,K⟩
   rw[qY] at K';rw[<- yF] at f;have hr:iP (aa (fC (.int 1)) (aa (f2 aB (f2 aF (ae 3) (fC (.int 2))) (fC (.int 1))) af)) (bW (BO G T W (.dic ks) (.val (nD i)) (.val (av (bu W i))) x4))=some ((List.range m).map λk=>nD (k+1)):=by
    have e:aa (fC (.int 1)) (aa (f2 aB (f2 aF (ae 3) (fC (.int 2))) (fC (.int 1))) af) (bW (BO G T W (.dic ks) (.val (nD i)) (.val (av (bu W i))) x4))=some [.int 1,.int (((m:Nat):Int)+1)]:=cons_of rfl (cons_of (aq (aQ _ _) (aq ((Ai (bu W i)).trans (by rw[hm])) rfl rfl) rfl) rfl);have ok1:oX (((m:Nat):Int)+1)=true:=mV (m:=m+1) (by lia);unfold iP;rw[e,zA];show (if (oX 1&&oX (((m:Nat):Int)+1))=true then some ((List.range (((m:Nat):Int)+1 - 1).toNat).map λk=>PyData.int (1+((k:Nat):Int))) else none)=_;rw[ok1,yI (by decide),show (((m:Nat):Int)+1 - 1).toNat=m by lia];refine qX some (yG λk _=>?_);show PyData.int (1+((k:Nat):Int))=PyData.int ((k+1:Nat):Int);rw[show (1:Int)+((k:Nat):Int)=((k+1:Nat):Int) by lia]
   refine⟨_,_,rfl,bL f hr rfl,ks',_,_,_,rfl,⟨λj x hj h1 h2 hc=>K'.all j x hj h1 h2 ?_,?_⟩⟩
   ·rcases hc with hc|⟨_,hc⟩
    ·by_cases z:j=i
     ·subst z;exact .inr ⟨rfl,by lia⟩
     ·exact .inl (by lia)
    ·lia
   ·have:=K'.len;lia) ⟨[],_,_,_,rfl,⟨λj x _ h1 _ hc=>by rcases hc with hc|⟨_,hc⟩<;>lia,xR _⟩⟩
 rw[qY] at K;refine⟨ks,?_,λj x hj h1 h2=>K.all j x hj h1 h2 (.inl hj)⟩;unfold dF;refine aJ ?_;show fR [.val (bb G T W),.non,.non,.non,.non]=_;unfold fR;refine (ao (show uf 1 [.val (bb G T W),.non,.non,.non,.non]=some (.nx (BO G T W (.dic []) .non .non .non)) from rfl)).trans ?_;refine (ao (bL f ?_ rfl)).trans (aZ rfl);have e:f2 aF (ae 0) (fC (.int 2)) (bW (BO G T W (.dic []) .non .non .non))=some (.tuple (W.map av)):=aq (fu G T W) rfl rfl;rw[<- qd];unfold dI;rw[cons_of e rfl];rfl
end
section
variable {G T:List Pl}{W:List Wy}{P:List Int}
def r8(W:List Wy)(P:List Int):List Nat:=(List.range W.length).filter λi=>decide (0 < P.getD i 0)
def oO(W:List Wy)(P:List Int)(i:Nat):List Nat:=wx W i (P.getD i 0).toNat
abbrev rm(W:List Wy)(P:List Int):List Nat:=ij ((r8 W P).map (oO W P))
def iX{i:Nat}:i∈r8 W P↔i < W.length/\0 < P.getD i 0:=by
 unfold r8;rw[List.mem_filter,List.mem_range,zJ]
def z8:(r8 W P).length<=W.length:=by
 unfold r8;exact yB (xM _ _) (by rw[zR];exact yJ _)
def Pn.at9(h:Wd G T W)(p:Pn G T W P){i:Nat}(hi:i < W.length):0<=P.getD i 0/\P.getD i 0<=(bu W i).2.2/\P.getD i 0<=9:=by
 have:=p.bd i hi;have:=(h.wr _ (gY hi)).2.2.2;lia
def nK(h:Wd G T W)(p:Pn G T W P){i:Nat}(hi:i < W.length):(oO W P i).length<=99/\10∉oO W P i/\∀c∈oO W P i,c < 200:=by
 let⟨_,a,b,_⟩:=xc h hi;have c:=p.at9 h hi;unfold oO;have hy:(P.getD i 0).toNat < 10:=by lia
 generalize (P.getD i 0).toNat=y at hy;unfold wx K5;refine⟨by simp,λz=>?_,λx hx=>?_⟩
 ·simp at z;lia
 ·simp at hx;lia
def Eo(h:Wd G T W)(p:Pn G T W P):Gd (rm W P):=by
 refine⟨λc hc=>?_,?_⟩
 ·rcases zy hc with rfl|⟨l,hl,hc⟩
  ·decide
  ·let⟨i,hi,rfl⟩:=List.mem_map.mp hl;have:=(nK h p (iX.mp hi).1).2.2 c hc;lia
 ·have:=mP (ls:=(r8 W P).map (oO W P)) λl hl=>by
   let⟨i,hi,rfl⟩:=List.mem_map.mp hl;exact (nK h p (iX.mp hi).1).1
  rw[zD] at this;have:=z8 (W:=W) (P:=P);have:=h.wl;show (ij ((r8 W P).map (oO W P))).length<=10000;lia
def zl(h:Wd G T W)(p:Pn G T W P):cu [bb G T W,ak P]=some (sD (rm W P)):=by
 have hw:=h.wl;have hz:∀ρ:Dl.Env,ae 0 ρ=some (bb G T W)->ae 1 ρ=some (ak P)->cO (aa (f2 aF (ae 0) (fC (.int 2))) (aa (ae 1) af)) ρ=some ((List.range W.length).map λi=>.tuple [av (bu W i),.int (P.getD i 0)]):=λρ h0 h1=>by
  rw[<- lN p.len];unfold cO;rw[cons_of (aq (fu G T W) h0 rfl) (cons_of h1 rfl)];rfl
 have c:=iD (cs:=[]) (tt:=fB (f2 uL (ae 1) (fC (.int 0)))) (te:=ah 2 bG (aa (ae 0) (aa (ae 1) af))) (p:=λi=>decide (0 < P.getD i 0)) (h:=λi=>sD (oO W P i)) (hz (aL [.val (bb G T W),.val (ak P)]) rfl rfl) (by lia) λi hi=>⟨aX (aq (m4 _ _) rfl rfl),λ_=>by
  have a:=p.at9 h hi;have e:(PyData.int (P.getD i 0):D)=nD (P.getD i 0).toNat:=qX PyData.int (toN a.1).symm;refine call_of (xu h hi (x:=(P.getD i 0).toNat) (by lia)) ?_ rfl;rw[<- e];rfl⟩
 unfold cu;refine aJ ?_;show eN [.val (bb G T W),.val (ak P)]=_;unfold eN;have t:=Di (ls:=(r8 W P).map (oO W P)) (λl hl=>by
  let⟨i,hi,rfl⟩:=List.mem_map.mp hl;exact (nK h p (iX.mp hi).1).1) (by rw[zD];have:=z8 (W:=W) (P:=P);lia)
 rw[zM] at t;exact aZ (call_of t (cons_of (cc c) rfl) rfl)
def NQ:ar->Option Out:=(ax (gx (fB (f2 DH (ae 4) (ae 2))) Cm fH) (ax (aS 5 [2,4] (f2 pL (ae 2) (ae 4))) (Bg 3 [5] (f2 aF (ae 5) (fC (.int 0))) (f2 aF (ae 5) (fC (.int 1))))))
abbrev s7(G T:List Pl)(W:List Wy)(t:List Nat)(ks:List (Str×List Int))(x3 x4 x5:Slot):ar:=[.val (bb G T W),.val (sD t),.val (dD ks),x3,x4,x5,.non]
def FU{t l:List Nat}{ks:List (Str×List Int)}{N:List Int}{i:Nat}{y:Int}{x5:Slot}(hl:mL ks (tS l)=some [((i:Nat):Int),y])(hi:i < N.length):NQ (s7 G T W t ks (.own (N.map PyData.int)) (.val (sD l)) x5)=some (.nx (s7 G T W t ks (.own ((N.set i y).map PyData.int)) (.val (sD l)) (.val (ak [((i:Nat):Int),y])))):=by
 have e:FG (dE ks) (tS l)=some (ak [((i:Nat):Int),y]):=by rw[xt,hl];rfl
 unfold NQ;refine (ao (bo (aX (show f2 DH (ae 4) (ae 2) (aL (s7 G T W t ks (.own (N.map PyData.int)) (.val (sD l)) x5))=some (.bool false) by
  show some (PyData.bool (!(FG (dE ks) (tS l)).isSome))=_;rw[e];rfl)))).trans ?_
 have e5:∀ρ:Dl.Env,ae 2 ρ=some (dD ks)->ae 4 ρ=some (sD l)->f2 pL (ae 2) (ae 4) ρ=some (ak [((i:Nat):Int),y]):=λρ h2 h4=>aq (a:=dD ks) (b:=sD l) e h2 h4;refine (ao (bD (e5 _ rfl rfl) (e5 _ rfl rfl) rfl)).trans ?_;refine (A5 (d:=.int y) (k:=i) (ds:=N.map PyData.int) rfl rfl rfl rfl (by rw[zD];exact hi)).trans ?_;rw[List.map_set];rfl
def fills(P:List Int):List Nat->List Int->List Int
 | [],N=>N
 | i::r,N=>fills P r (N.set i (P.getD i 0))
def o9:∀ (is:List Nat) (N:List Int),(fills P is N).length=N.length
 | [],N=>rfl
 | i::r,N=>by rw[fills,o9 r,yA]
def uE:∀ (is:List Nat) (N:List Int) (j:Nat),j < N.length->(fills P is N).getD j 0=if j∈is then P.getD j 0 else N.getD j 0
 | [],N,j,_=>by simp[fills]
 | i::r,N,j,h=>by
  rw[fills,uE r _ j (by rw[yA];exact h)];by_cases hr:j∈r
  ·rw[yI hr,yI (zC _ hr)]
  ·rw[yK hr];by_cases e:j=i
   ·subst e;rw[yI zE];simp[h]
   ·rw[yK (λz=>by rcases List.mem_cons.mp z with z|z;exact e z;exact hr z)];simp?[zG,kG (jI e)]
def Ih(h:Wd G T W)(p:Pn G T W P):fills P (r8 W P) (List.replicate W.length 0)=P:=by
 refine jC (by rw[o9,xI,p.len]) λj h1 h2=>?_;have hj:j < W.length:=by rw[<- p.len];exact h2
 have a:=uE (P:=P) (r8 W P) (List.replicate W.length 0) j (by rw[xI];exact hj);have e1:(fills P (r8 W P) (List.replicate W.length 0)).getD j 0=(fills P (r8 W P) (List.replicate W.length 0))[j]:=by simp[h1]
 have e2:P.getD j 0=P[j]:=by simp[h2]
 rw[<- e1,a,<- e2];split
 ·rfl
 ·rename_i hn;have:¬ 0 < P.getD j 0:=λz=>hn (iX.mpr ⟨hj,z⟩);have:=(p.at9 h hj).1;have z:P.getD j 0=0:=by lia
  rw[z];simp[hj]
def mn(h:Wd G T W)(p:Pn G T W P):bY [bb G T W,sD (rm W P)]=some (ak P):=by
 have hw:=h.wl;have g:=Eo h p;let⟨ks,ek,hk⟩:=F7 h;have e0:=xo (x:=tS (rm W P)) (ls:=(r8 W P).map (oO W P)) g.zt (by
  rw[cq];refine rV λl hl=>?_;let⟨i,hi,rfl⟩:=List.mem_map.mp hl;exact (nK h p (iX.mp hi).1).2.1)
 rw[zM] at e0;unfold bY;refine aJ ?_;show ig [.val (bb G T W),.val (sD (rm W P)),.non,.non,.non,.non,.non]=_;unfold ig;refine (ao (jx (call_of (dG h) rfl rfl))).trans ?_;refine (ao (bD (call_of ek rfl rfl) (call_of ek rfl rfl) rfl)).trans ?_;have ez:aw 1 [] (aM (f2 aF (ae 0) (fC (.int 2)))) (fG 0) (λ_=>some true) (fC (.int 0)) (bW (s7 G T W (rm W P) ks .non .non .non))=some ((List.replicate W.length (0:Int)).map PyData.int):=by
  have:=zeros (fi:=aM (f2 aF (ae 0) (fC (.int 2)))) (ρ:=bW (s7 G T W (rm W P) ks .non .non .non)) (ds:=W.map av) (fy (aq (fu G T W) rfl rfl)) (by rw[zD];lia);rw[zD] at this;exact this
 refine (ao (eB ez rfl)).trans ?_;obtain⟨ρ',f,x4,x5,rfl⟩:∃ρ',dm (p8 4) NQ ((r8 W P).map λi=>sD (oO W P i)) (s7 G T W (rm W P) ks (.own ((List.replicate W.length (0:Int)).map PyData.int)) .non .non)=some (.nx ρ')/\∃x4 x5,ρ'=s7 G T W (rm W P) ks (.own ((fills P (r8 W P) (List.replicate W.length 0)).map PyData.int)) x4 x5:=by
  have key:∀ (is:List Nat) (N:List Int) (x4 x5:Slot),(∀i∈is,i∈r8 W P)->N.length=W.length->∃ρ',dm (p8 4) NQ (is.map λi=>sD (oO W P i)) (s7 G T W (rm W P) ks (.own (N.map PyData.int)) x4 x5)=some (.nx ρ')/\∃x4 x5,ρ'=s7 G T W (rm W P) ks (.own ((fills P is N).map PyData.int)) x4 x5:=λis=>by
   induction is with
   | nil=>intro N x4 x5 _ _;exact⟨_,rfl,_,_,rfl⟩
   | cons i r ih =>
    intro N x4 x5 hm hn;let⟨hi,hpos⟩:=iX.mp (hm i zE);have a:=p.at9 h hi;have hl:=hk i (P.getD i 0).toNat hi (by lia) (by lia);rw[toN a.1] at hl;have hl:mL ks (tS (oO W P i))=some [((i:Nat):Int),P.getD i 0]:=hl;let⟨ρ',e1,e2⟩:=ih (N.set i (P.getD i 0)) (.val (sD (oO W P i))) (.val (ak [((i:Nat):Int),P.getD i 0])) (λj hj=>hm j (zC _ hj)) (by rw[yA];exact hn);refine⟨ρ',?_,e2⟩;rw[zI,dm,show p8 4 (s7 G T W (rm W P) ks (.own (N.map PyData.int)) x4 x5) (sD (oO W P i))=some (s7 G T W (rm W P) ks (.own (N.map PyData.int)) (.val (sD (oO W P i))) x5) from rfl,zA,FU hl (by lia)];exact e1
  exact key _ _ _ _ (λi hi=>hi) (by rw[xI])
 refine (ao (bL f (fv (call_of e0 rfl rfl)) rfl)).trans ?_;rw[Ih h p];have et:∀ρ:Dl.Env,ae 3 ρ=some (.list (P.map PyData.int))->aU cm (aa (ae 3) af) ρ=some (ak P):=λρ h3=>(bT h3).trans (gR _);refine (ao (B6 (et _ rfl) (et _ rfl))).trans ?_;refine (ao (bo (lW (bZ (b:=true) (aX (call_of (fQ h p) rfl rfl))) (aX (aq (a:=sD (rm W P)) (b:=sD (rm W P)) ?_ (call_of (zl h p) rfl rfl) rfl))))).trans (aZ rfl);rw[ne_str g.sk g.sk];simp
def rW(h:Wd G T W):bH [bb G T W]=some (sD (FH G T W)):=by
 unfold bH kl;refine aJ ?_;exact (ao (ρ:=[.val (bb G T W)]) (jx (call_of (dG h) rfl rfl))).trans (aZ (call_of (pK h) rfl rfl))
def ur(h:Wd G T W)(p:Pn G T W P):bX [bb G T W,ak P]=some (sD (rm W P)):=by
 unfold bX mj;refine aJ ?_;exact (ao (ρ:=[.val (bb G T W),.val (ak P)]) (jx (call_of (qt h p) rfl rfl))).trans (aZ (call_of (zl h p) rfl rfl))
end
namespace K02M
open Ex
section
variable {G T:List Pl}{W:List Wy}{P:List Int}{d:D}{ds:List D}{w p:D}{c:Str}
def zip_any2(h:ds.length=W.length):gq ds (W.map av)=(List.range W.length).map λi=>.tuple [ds.getD i .none,av (bu W i)]:=by
 have:∀ (l:List Wy) (a:List D),a.length=l.length->gq a (l.map av)=(List.range l.length).map λi=>.tuple [a.getD i .none,av (bu l i)]:=by
  intro l
  induction l with
  | nil=>intro a e;cases a with|nil=>rfl|cons _ _=>simp at e
  | cons w l ih =>
   intro a e;cases a with
   | nil=>simp at e
   | cons x a =>
    rw[zI,gq,ih a (by simpa using e),zL,vA,zI,zM];rfl
 exact this W ds h
def shaped_ref(j:Int):SeqAt.shaped (cS j)=true:=by
 have:=mf j 1;simp[SeqAt.shaped,cS,PyData.canLay0,PyData.canLayAll0,PyData.depth,PyData.depthAll];decide +kernel
def gNeD_ref(j:Int):dM (cS j) (cS j)=some (.bool false):=by simp?[dM,JU,shaped_ref,jK,xE,zx,zB];rfl
def refE(j:Int)(ρ:Dl.Env):aP (aa (fC (.str "refused")) (aa (fC (.int j)) af)) ρ=some (cS j):=tup_is (ds:=[.str "refused",.int j]) rfl (by simp)
def ix_at{l:List D}{r:Int}(h0:0<=r)(h1:r < l.length):∃k:Nat,r=((k:Nat):Int)/\∃d,l[k]?=some d/\aF (.list l) (.int r)=some d:=by
 obtain⟨k,rfl⟩:∃k:Nat,r=((k:Nat):Int):=⟨r.toNat,by lia⟩
 have hk:k < l.length:=by lia
 refine⟨k,rfl,l[k],zK hk,?_⟩;have:=FN (f:=λd:D=>d) (l:=l) (i:=k) (x:=l[k]) (by rw[zK hk]);rw[List.map_id'] at this;exact this
end
end K02M
open  Ex
def JL:cG=mh:=rfl
abbrev AZ(k:Int)(w p:D):ar:=[Slot.val (.int k),Slot.val w,Slot.val p,.non]
section
variable {w p d:D}{c:Str}
def uK(k j:Int)(w p:D):fB (f2 bj (ae 0) (fC (.int j))) (aL (AZ k w p))=some (decide (k=j)):=aX (aq (dP k j) rfl rfl)
def CN(h:bX [w,p]=some d):aA [.int 1,w,p]=some d:=aJ (Ju (ρ:=AZ 1 w p) ((ao (bo (uK 1 0 w p))).trans (aZ (rX (uK 1 1 w p) (call_of h rfl rfl)))))
def uC(h:bY [w,p]=some d):aA [.int 2,w,p]=some d:=aJ (Ju (ρ:=AZ 2 w p) ((ao (bo (uK 2 0 w p))).trans (aZ (wV (uK 2 1 w p) (call_of h rfl rfl)))))
def Bm(B:uM bH cT [w] c)(hf:ku FF c=some d):aA [.int 0,w,p]=some d:=by
 refine aJ (wo (ρ:=AZ 0 w p) ?_ ?_ hf)
 ·unfold ax;rw[fI (uK 0 0 w p)];unfold aO;rw[zj B.n rfl];rfl
 ·unfold hU;rw[NZ (uK 0 0 w p),show ja (pY 1 cT (aa (ae 1) af)) (AZ 0 w p)=some c from NP B.x rfl rfl]
def p0(B:uM bX fw [w,p] c)(hf:ku FF c=some d):aA [.int 1,w,p]=some d:=by
 refine aJ (wo (ρ:=AZ 1 w p) ?_ ?_ hf)
 ·refine (ao (bo (uK 1 0 w p))).trans ?_;unfold aO BN;rw[uK];show (ah 2 bX (aa (ae 1) (aa (ae 2) af)) (aL (AZ 1 w p))).map _=none;rw[zj B.n rfl];rfl
 ·unfold hU AW;rw[GH (uK 1 0 w p),bo (uK 1 0 w p),show jt (AZ 1 w p)=none from rfl];dsimp only;rw[zA];show wD _ _ _ (aL (AZ 1 w p))=some c;unfold wD;rw[uK,zA,yI (by decide)];exact NP B.x rfl rfl
def Av(B:uM bY fE [w,p] c)(hf:ku FF c=some d):aA [.int 2,w,p]=some d:=by
 refine aJ (wo (ρ:=AZ 2 w p) ?_ ?_ hf)
 ·refine (ao (bo (uK 2 0 w p))).trans ?_;unfold aO BN;rw[uK];show (ah 2 bY (aa (ae 1) (aa (ae 2) af)) (aL (AZ 2 w p))).map _=none;rw[zj B.n rfl];rfl
 ·unfold hU AW;rw[GH (uK 2 0 w p),bo (uK 2 0 w p),show jt (AZ 2 w p)=none from rfl];dsimp only;rw[zA];show wD _ _ _ (aL (AZ 2 w p))=some c;unfold wD;rw[uK,zA,yK (by decide)];exact NP B.x rfl rfl
def PN(B:uM aW bq [w] c):uM bH cT [w] c :=
 let z:=B.head (ρ:=[.val w]) (fs:=aa (ae 0) af) rfl rfl (xr:=jt);let z2:=B.one (ρ:=[.val w]) (fs:=aa (ae 0) af) (n:=1) rfl rfl
 ⟨runN z.1,z2.2⟩
def Pz(B:uM cy cW [w,p] c):uM bX fw [w,p] c :=
 let z:=B.head (ρ:=[.val w,.val p]) (fs:=aa (ae 0) (aa (ae 1) af)) rfl rfl (xr:=jt);let z2:=B.one (ρ:=[.val w,.val p]) (fs:=aa (ae 0) (aa (ae 1) af)) (n:=2) rfl rfl
 ⟨runN z.1,z2.2⟩
def PY(B:uM aW bq [w] c):uM bY fE [w,p] c :=
 let z:=B.head (ρ:=[.val w,.val p,.non,.non,.non,.non,.non]) (fs:=aa (ae 0) af) rfl rfl (xr:=jt);let z2:=B.one (ρ:=[.val w,.val p,.non,.non,.non,.non,.non]) (fs:=aa (ae 0) af) (n:=1) rfl rfl
 ⟨runN z.1,z2.2⟩
end
section
variable {G T:List Pl}{W:List Wy}{P:List Int}
def Pb(n k:Nat):(zs n).getD k 0=0:=by
 unfold zs;by_cases hk:k < n
 ·simp[hk]
 ·rw[E5 (by simpa using hk)]
def Me(h:Wd G T W):Pn G T W (zs W.length):=by
 refine⟨by simp[zs],λk hk=>?_,λb i hi=>?_⟩
 ·rw[Pb];have:=(h.wr _ (gY hk)).2.2;lia
 ·have:oF b W (zs W.length) i=0:=by
   unfold oF;have:∀l:List Nat,(l.map λi=>(zs W.length).getD i 0).sum=0:=λl=>by
    induction l with
    | nil=>rfl
    | cons x r ih=>rw[zI,List.sum_cons,ih,Pb];rfl
   exact this _
  rw[this];exact h.amt b i
def JT:rm W (zs W.length)=[]:=by
 have:r8 W (zs W.length)=[]:=by
  unfold r8;rw[List.filter_eq_nil_iff];intro i _;rw[Pb];decide
 show ij ((r8 W (zs W.length)).map _)=[]
 rw[this];rfl
def og(l:List Nat)(r:List (List Nat)):ij (l::r)=l++[10]++ij r:=by
 rw[eW,eW];rfl
def xi(a b:List (List Nat)):ij (a++b)=ij a++ij b:=by
 rw[eW,eW,eW,qU,List.flatten_append]
def FI:ar->Option Out:=aS 3 [3,4,6,7] (f2 az (f2 az (f2 az (f2 az (f2 az (ae 3) (ae 4)) (fC (.str " "))) (aU cn (aa (ae 6) af))) (f2 j5 (fC (.str "")) (bM (aw 1 [] (aM (ae 7)) (fG 0) (λ_=>some true) (f2 az (fC (.str " ")) (aU cn (aa (ae 0) af))))))) (fC (.str "\n")))
abbrev sx(s:D)(G T:List Pl)(W:List Wy)(P:List Int)(t:List Nat)(x4 x5 x6 x7 x8 x9 x10 x11 x12 x13:Slot):ar:=[.val s,.val (bb G T W),.val (ak P),.val (sD t),x4,x5,x6,x7,x8,x9,x10,x11,x12,x13,.non,.non]
def LW:(PyData.str "\n":D)=sD [10]:=by rw[Cf];rfl
def GU:(PyData.str " ":D)=sD [32]:=by rw[yr];rfl
def IA{s:D}{t w ns:List Nat}{a:Nat}{x5 x8 x9 x10 x11 x12 x13:Slot}(ht:t.length<=5000)(hw:w.length<=4)(d:Dg (a::ns)):FI (sx s G T W P t (.val (sD w)) x5 (.val (nD a)) (.val (sP ns)) x8 x9 x10 x11 x12 x13)=some (.nx (sx s G T W P (t++(fg w (a::ns)++[10])) (.val (sD w)) x5 (.val (nD a)) (.val (sP ns)) x8 x9 x10 x11 x12 x13)):=by
 have ha:a < 10:=d.d a zE;have hn:∀n∈ns,n < 10:=λn h=>d.d n (zC _ h);have hl:ns.length<=16:=by have:=d.l;rw[zL] at this;lia
 have hf:=ka ns;let ρ:Dl.Env:=aL (sx s G T W P t (.val (sD w)) x5 (.val (nD a)) (.val (sP ns)) x8 x9 x10 x11 x12 x13);have j:f2 j5 (fC (.str "")) (bM (aw 1 [] (aM (ae 7)) (fG 0) (λ_=>some true) (f2 az (fC (.str " ")) (aU cn (aa (ae 0) af))))) ρ=some (sD (k4 ns)):=by
  have c:=bQ (cs:=[]) (tt:=λ_=>some true) (te:=f2 az (fC (.str " ")) (aU cn (aa (ae 0) af))) (g:=nD) (f:=λn=>sD [32,48+n]) (q:=λ_=>true) (l:=ns) (fi:=aM (ae 7)) (ρ:=ρ) (fy rfl) (by lia) λn hm=>⟨rfl,λ_=>aq (a:=sD [32]) (b:=sD [48+n]) (bS (by simp)) (by rw[GU];rfl) ((bT rfl).trans (fV (hn n hm)))⟩
  rw[show ns.filter (λ_=>true)=ns by simp] at c;refine aq (a:=.str "") (b:=.list ((ns.map λn=>[32,48+n]).map sD)) ?_ rfl ((cc c).trans (by rw[zM];rfl));rw[rO,uh]
  ·show some (sD (jn [] _))=_;rw[v8];rfl
  ·rw[zD,uh];show ns.length * 100+ns.length * 0<=_;lia
  ·intro p hp;let⟨n,_,rfl⟩:=List.mem_map.mp hp;exact (by decide:2<=100)
 have e:(f2 az (f2 az (f2 az (f2 az (f2 az (ae 3) (ae 4)) (fC (.str " "))) (aU cn (aa (ae 6) af))) (f2 j5 (fC (.str "")) (bM (aw 1 [] (aM (ae 7)) (fG 0) (λ_=>some true) (f2 az (fC (.str " ")) (aU cn (aa (ae 0) af))))))) (fC (.str "\n"))) ρ=some (sD (((((t++w)++[32])++[48+a])++k4 ns)++[10])):=by
  refine aq (a:=sD ((((t++w)++[32])++[48+a])++k4 ns)) (b:=sD [10]) (bS (by simp;lia)) (aq (a:=sD (((t++w)++[32])++[48+a])) (b:=sD (k4 ns)) (bS (by simp;lia)) (aq (a:=sD ((t++w)++[32])) (b:=sD [48+a]) (bS (by simp;lia)) (aq (a:=sD (t++w)) (b:=sD [32]) (bS (by simp;lia)) (aq (a:=sD t) (b:=sD w) (bS (by lia)) rfl rfl) (by rw[GU];rfl)) ((bT rfl).trans (fV ha))) j) (by rw[LW];rfl)
 have q:(((((t++w)++[32])++[48+a])++k4 ns)++[10])=t++(fg w (a::ns)++[10]):=by
  rw[jv];show _=t++((w++([32,48+a]++k4 ns))++[10])
  simp
 rw[q] at e;exact bC (d:=sD (t++(fg w (a::ns)++[10]))) e rfl
def Md{p:Pl}(e:(pN p).map (λn=>((n:Nat):Int))=p.1::p.2):aI p=.tuple [nD p.1.toNat,sP (p.2.map Int.toNat)]:=by
 unfold pN at e;rw[zI] at e;injection e with e1 e2
 unfold aI;rw[rS,e2];show PyData.tuple [.int p.1,_]=PyData.tuple [.int ((p.1.toNat:Nat):Int),_];rw[e1]
def Ed{s:D}{w:List Nat}{x5 x8 x9 x10 x11 x12 x13:Slot}(hw:w.length<=4):∀ (l:List Pl) (t:List Nat) (x6 x7:Slot),(∀p∈l,Dg (pN p)/\(pN p).map (λn=>((n:Nat):Int))=p.1::p.2)->t.length+100 * l.length<=5000 ->
  ∃y6 y7,dm (dk 6 7) FI (l.map aI) (sx s G T W P t (.val (sD w)) x5 x6 x7 x8 x9 x10 x11 x12 x13)=some (.nx (sx s G T W P (t++ij (l.map λp=>fg w (pN p))) (.val (sD w)) x5 y6 y7 x8 x9 x10 x11 x12 x13))
 | [],t,x6,x7,_,_=>⟨x6,x7,by rw[yR,yR,show ij []=[] from rfl,qC];rfl⟩
 | p::r,t,x6,x7,hp,hl=>by
  let⟨d,e⟩:=hp p zE;rw[zL] at hl;have hlen:(fg w (pN p)++[10]).length<=100:=by
   rw[zN,jv,zN,ka,yZ];have:=d.l;lia
  let⟨y6,y7,ih⟩:=Ed hw r (t++(fg w (pN p)++[10])) (.val (nD p.1.toNat)) (.val (sP (p.2.map Int.toNat))) (λq hq=>hp q (zC _ hq)) (by rw[zN];lia) (s:=s) (x5:=x5) (x8:=x8) (x9:=x9) (x10:=x10) (x11:=x11) (x12:=x12) (x13:=x13);refine⟨y6,y7,?_⟩;rw[zI,dm,Md e,show dk 6 7 (sx s G T W P t (.val (sD w)) x5 x6 x7 x8 x9 x10 x11 x12 x13) (.tuple [nD p.1.toNat,sP (p.2.map Int.toNat)])=some (sx s G T W P t (.val (sD w)) x5 (.val (nD p.1.toNat)) (.val (sP (p.2.map Int.toNat))) x8 x9 x10 x11 x12 x13) from rfl,zA,IA (by lia) hw d];rw[zI,og,<- List.append_assoc t (fg w (pN p)++[10])];exact ih
end
open  Ex
namespace K80M
section
variable {G T:List Pl}{W:List Wy}{P:List Int}{s:D}{x4 x5 x6 x7 x8 x9 x10 x11 x12 x13:Slot}
def PF:ar->Option Out:=aS 3 [3,8,9,10] (f2 az (f2 az (f2 az (f2 az (f2 az (f2 az (f2 az (ae 3) (fC (.str "way "))) (aU cn (aa (ae 8) af))) (fC (.str " "))) (aU cn (aa (ae 9) af))) (fC (.str " "))) (aU cn (aa (ae 10) af))) (fC (.str "\n")))
def GQ{t:List Nat}{a b c:Nat}(ht:t.length<=5000)(ha:a < 10)(hb:b < 10)(hc:c < 10):PF (sx s G T W P t x4 x5 x6 x7 (.val (nD a)) (.val (nD b)) (.val (nD c)) x11 x12 x13)=some (.nx (sx s G T W P (t++(fg ll [a,b,c]++[10])) x4 x5 x6 x7 (.val (nD a)) (.val (nD b)) (.val (nD c)) x11 x12 x13)):=by
 have w4:(PyData.str "way ":D)=sD [119,97,121,32]:=by rw[show ("way ":Str)=tS [119,97,121,32] by decide +kernel]
 have e:(f2 az (f2 az (f2 az (f2 az (f2 az (f2 az (f2 az (ae 3) (fC (.str "way "))) (aU cn (aa (ae 8) af))) (fC (.str " "))) (aU cn (aa (ae 9) af))) (fC (.str " "))) (aU cn (aa (ae 10) af))) (fC (.str "\n"))) (aL (sx s G T W P t x4 x5 x6 x7 (.val (nD a)) (.val (nD b)) (.val (nD c)) x11 x12 x13))=some (sD (((((((t++[119,97,121,32])++[48+a])++[32])++[48+b])++[32])++[48+c])++[10])):=by
  refine aq (a:=sD ((((((t++[119,97,121,32])++[48+a])++[32])++[48+b])++[32])++[48+c])) (b:=sD [10]) (bS (by simp;lia)) (aq (a:=sD (((((t++[119,97,121,32])++[48+a])++[32])++[48+b])++[32])) (b:=sD [48+c]) (bS (by simp;lia)) (aq (a:=sD ((((t++[119,97,121,32])++[48+a])++[32])++[48+b])) (b:=sD [32]) (bS (by simp;lia)) (aq (a:=sD (((t++[119,97,121,32])++[48+a])++[32])) (b:=sD [48+b]) (bS (by simp;lia)) (aq (a:=sD ((t++[119,97,121,32])++[48+a])) (b:=sD [32]) (bS (by simp;lia)) (aq (a:=sD (t++[119,97,121,32])) (b:=sD [48+a]) (bS (by simp;lia)) (aq (a:=sD t) (b:=sD [119,97,121,32]) (bS (by simp;lia)) rfl (by rw[w4];rfl)) ((bT rfl).trans (fV ha))) (by rw[GU];rfl)) ((bT rfl).trans (fV hb))) (by rw[GU];rfl)) ((bT rfl).trans (fV hc))) (by rw[LW];rfl)
 have q:(((((((t++[119,97,121,32])++[48+a])++[32])++[48+b])++[32])++[48+c])++[10])=t++(fg ll [a,b,c]++[10]):=by
  rw[jv];simp[k4]
 rw[q] at e;exact bC (d:=sD (t++(fg ll [a,b,c]++[10]))) e rfl
def JM{w:Wy}(e:(wN w).map (λn=>((n:Nat):Int))=[w.1,w.2.1,w.2.2]):av w=.tuple [nD w.1.toNat,nD w.2.1.toNat,nD w.2.2.toNat]:=by
 have e:[((w.1.toNat:Nat):Int),((w.2.1.toNat:Nat):Int),((w.2.2.toNat:Nat):Int)]=[w.1,w.2.1,w.2.2]:=e;injection e with e1 e
 injection e with e2 e
 injection e with e3 e
 unfold av;show PyData.tuple [.int w.1,.int w.2.1,.int w.2.2]=PyData.tuple [.int ((w.1.toNat:Nat):Int),.int ((w.2.1.toNat:Nat):Int),.int ((w.2.2.toNat:Nat):Int)];rw[e1,e2,e3]
def DN:∀ (l:List Wy) (t:List Nat) (x8 x9 x10:Slot),(∀w∈l,Dg (wN w)/\(wN w).map (λn=>((n:Nat):Int))=[w.1,w.2.1,w.2.2])->t.length+100 * l.length<=5000 ->
  ∃y8 y9 y10,dm (Be 8 9 10) PF (l.map av) (sx s G T W P t x4 x5 x6 x7 x8 x9 x10 x11 x12 x13)=some (.nx (sx s G T W P (t++ij (l.map λw=>fg ll (wN w))) x4 x5 x6 x7 y8 y9 y10 x11 x12 x13))
 | [],t,x8,x9,x10,_,_=>⟨x8,x9,x10,by rw[yR,yR,show ij []=[] from rfl,qC];rfl⟩
 | w::r,t,x8,x9,x10,hp,hl=>by
  let⟨d,e⟩:=hp w zE;rw[zL] at hl;have hlen:(fg ll (wN w)++[10]).length<=100:=by
   rw[zN,jv,zN,ka,yZ];have:=d.l;show 3+_+1<=100;lia
  let⟨y8,y9,y10,ih⟩:=DN r (t++(fg ll (wN w)++[10])) (.val (nD w.1.toNat)) (.val (nD w.2.1.toNat)) (.val (nD w.2.2.toNat)) (λq hq=>hp q (zC _ hq)) (by rw[zN];lia);refine⟨y8,y9,y10,?_⟩;have h1:w.1.toNat < 10:=d.d _ (by simp[wN]);have h2:w.2.1.toNat < 10:=d.d _ (by simp[wN]);have h3:w.2.2.toNat < 10:=d.d _ (by simp[wN]);rw[zI,dm,JM e,show Be 8 9 10 (sx s G T W P t x4 x5 x6 x7 x8 x9 x10 x11 x12 x13) (.tuple [nD w.1.toNat,nD w.2.1.toNat,nD w.2.2.toNat])=some (sx s G T W P t x4 x5 x6 x7 (.val (nD w.1.toNat)) (.val (nD w.2.1.toNat)) (.val (nD w.2.2.toNat)) x11 x12 x13) from rfl,zA,GQ (by lia) h1 h2 h3];rw[zI,og,<- List.append_assoc t (fg ll (wN w)++[10])];exact ih
def N7:ar->Option Out:=gx (fB (f2 uL (ae 12) (fC (.int 0)))) (aS 11 [11,12,13] (f2 az (f2 az (f2 az (f2 az (f2 az (f2 az (ae 11) (aU cn (aa (f2 aF (ae 13) (fC (.int 0))) af))) (fC (.str " -"))) (aU cn (aa (ae 12) af))) (fC (.str "> "))) (aU cn (aa (f2 aF (ae 13) (fC (.int 1))) af))) (fC (.str "\n")))) fH
def Gc(h:Wd G T W)(p:Pn G T W P){t u:List Nat}{i:Nat}(hi:i < W.length)(hu:u.length<=5000):N7 (sx s G T W P t x4 x5 x6 x7 x8 x9 x10 (.val (sD u)) (.val (.int (P.getD i 0))) (.val (av (bu W i))))=some (.nx (sx s G T W P t x4 x5 x6 x7 x8 x9 x10 (.val (sD (if 0 < P.getD i 0 then u++(oO W P i++[10]) else u))) (.val (.int (P.getD i 0))) (.val (av (bu W i))))):=by
 have a:=p.at9 h hi;let⟨ew,ha,hb,_⟩:=xc h hi;have c:fB (f2 uL (ae 12) (fC (.int 0))) (aL (sx s G T W P t x4 x5 x6 x7 x8 x9 x10 (.val (sD u)) (.val (.int (P.getD i 0))) (.val (av (bu W i)))))=some (decide (0 < P.getD i 0)):=aX (aq (m4 _ _) rfl rfl);unfold N7;by_cases hp:0 < P.getD i 0
 ·rw[yI hp];rw[zY hp] at c;refine (fI c).trans ?_;have hx:(P.getD i 0).toNat < 10:=by lia
  have ex:(PyData.int (P.getD i 0):D)=nD (P.getD i 0).toNat:=qX PyData.int (toN a.1).symm;unfold oO wx;rw[ew,ex];generalize (P.getD i 0).toNat=x at hx;generalize (bu W i).1.toNat=g at ha;generalize (bu W i).2.1.toNat=k at hb;have m1:(PyData.str " -":D)=sD [32,45]:=by rw[show (" -":Str)=tS [32,45] by decide +kernel]
  have m2:(PyData.str "> ":D)=sD [62,32]:=by rw[show ("> ":Str)=tS [62,32] by decide +kernel]
  have e:(f2 az (f2 az (f2 az (f2 az (f2 az (f2 az (ae 11) (aU cn (aa (f2 aF (ae 13) (fC (.int 0))) af))) (fC (.str " -"))) (aU cn (aa (ae 12) af))) (fC (.str "> "))) (aU cn (aa (f2 aF (ae 13) (fC (.int 1))) af))) (fC (.str "\n"))) (aL (sx s G T W P t x4 x5 x6 x7 x8 x9 x10 (.val (sD u)) (.val (nD x)) (.val (av (((g:Nat):Int),((k:Nat):Int),(bu W i).2.2)))))=some (sD ((((((u++[48+g])++[32,45])++[48+x])++[62,32])++[48+k])++[10])):=by
   refine aq (a:=sD (((((u++[48+g])++[32,45])++[48+x])++[62,32])++[48+k])) (b:=sD [10]) (bS (by simp;lia)) (aq (a:=sD ((((u++[48+g])++[32,45])++[48+x])++[62,32])) (b:=sD [48+k]) (bS (by simp;lia)) (aq (a:=sD (((u++[48+g])++[32,45])++[48+x])) (b:=sD [62,32]) (bS (by simp;lia)) (aq (a:=sD ((u++[48+g])++[32,45])) (b:=sD [48+x]) (bS (by simp;lia)) (aq (a:=sD (u++[48+g])) (b:=sD [32,45]) (bS (by simp;lia)) (aq (a:=sD u) (b:=sD [48+g]) (bS (by simp;lia)) rfl ((bT (aq (ub _) rfl rfl)).trans (fV ha))) (by rw[m1];rfl)) ((bT rfl).trans (fV hx))) (by rw[m2];rfl)) ((bT (aq (sX _) rfl rfl)).trans (fV hb))) (by rw[LW];rfl)
  have q:((((((u++[48+g])++[32,45])++[48+x])++[62,32])++[48+k])++[10])=u++(K5 g x k++[10]):=by
   unfold K5;simp
  rw[q] at e;exact bC (d:=sD (u++(K5 g x k++[10]))) e rfl
 ·rw[yK hp];rw[zX hp] at c;exact bo c
def DJ(h:Wd G T W)(p:Pn G T W P){t:List Nat}:∀ (is:List Nat) (u:List Nat) (x12 x13:Slot),(∀i∈is,i < W.length)->u.length+100 * is.length<=5000 ->
  ∃y12 y13,dm (dk 12 13) N7 (is.map λi=>.tuple [.int (P.getD i 0),av (bu W i)]) (sx s G T W P t x4 x5 x6 x7 x8 x9 x10 (.val (sD u)) x12 x13)=some (.nx (sx s G T W P t x4 x5 x6 x7 x8 x9 x10 (.val (sD (u++ij ((is.filter λi=>decide (0 < P.getD i 0)).map (oO W P))))) y12 y13))
 | [],u,x12,x13,_,_=>⟨x12,x13,by rw[yR,List.filter_nil,yR,show ij []=[] from rfl,qC];rfl⟩
 | i::r,u,x12,x13,hm,hl=>by
  have hi:=hm i zE;rw[zL] at hl;have hlen:=(nK h p hi).1;let⟨y12,y13,ih⟩:=DJ h p r (if 0 < P.getD i 0 then u++(oO W P i++[10]) else u) (.val (.int (P.getD i 0))) (.val (av (bu W i))) (λj hj=>hm j (zC _ hj)) (by
   split
   ·rw[zN,zN,yZ];lia
   ·lia) (t:=t)
  refine⟨y12,y13,?_⟩;rw[zI,dm,show dk 12 13 (sx s G T W P t x4 x5 x6 x7 x8 x9 x10 (.val (sD u)) x12 x13) (.tuple [.int (P.getD i 0),av (bu W i)])=some (sx s G T W P t x4 x5 x6 x7 x8 x9 x10 (.val (sD u)) (.val (.int (P.getD i 0))) (.val (av (bu W i)))) from rfl,zA,Gc h p hi (by lia)];rw[jS];by_cases hp:0 < P.getD i 0
  ·rw[yI hp] at ih;rw[yI hp,zY hp,yI rfl,zI,og,<- List.append_assoc u (oO W P i++[10])];exact ih
  ·rw[yK hp] at ih;rw[yK hp,zX hp,yK (by simp)];exact ih
def Oi:ar->Option Out:=dh [5] (aM (ae 5)) (dk 6 7) FI
def Fe{t w:List Nat}{l:List Pl}(hw:w.length<=4)(hp:∀p∈l,Dg (pN p)/\(pN p).map (λn=>((n:Nat):Int))=p.1::p.2)(hl:t.length+100 * l.length<=5000):∃y6 y7,Oi (sx s G T W P t (.val (sD w)) (.val (.tuple (l.map aI))) x6 x7 x8 x9 x10 x11 x12 x13)=some (.nx (sx s G T W P (t++ij (l.map λp=>fg w (pN p))) (.val (sD w)) (.val (.tuple (l.map aI))) y6 y7 x8 x9 x10 x11 x12 x13)):=by
 let⟨y6,y7,e⟩:=Ed (G:=G) (T:=T) (W:=W) (P:=P) (s:=s) (x5:=.val (.tuple (l.map aI))) (x8:=x8) (x9:=x9) (x10:=x10) (x11:=x11) (x12:=x12) (x13:=x13) hw l t x6 x7 hp hl;exact⟨y6,y7,bL e (fy rfl) rfl⟩
def Fd(P:List Int):List D:=[ak (P++[0]),.none,.list (P.map PyData.int)]
def Ha(h:Wd G T W)(p:Pn G T W P):∀d∈Fd P,bN [bb G T W,d]=some (.bool false):=λd hd=>by
 simp?[Fd,zQ,yD,xQ] at hd;rcases hd with rfl|rfl|rfl
 ·exact rE h rfl (Dh (by rw[zD,zN,p.len,yZ];lia))
 ·exact rE h rfl rfl
 ·exact rE h rfl rfl
def EI(G T:List Pl)(W:List Wy):List D:=[.none,.tuple [.tuple (G.map aI),.tuple (T.map aI)],.tuple [.tuple (W.map av),.tuple (T.map aI)]]
def Hm(h:Wd G T W):∀d∈EI G T W,aN [d]=some (.bool false):=λd hd=>by
 have hf:∀x∈[PyData.tuple (G.map aI),.tuple (T.map aI),.tuple (W.map av)],gg 16 3 x:=by
  rcases h.fit with z|⟨xs,z,_,z2⟩
  ·exact z.elim
  ·rcases z with z|z
   ·cases z
   ·cases z;exact z2
 have key:∀ {d:D},gg 16 4 d->ND d=false->aN [d]=some (.bool false):=λhf hw=>by rw[jo hf (by decide),hw]
 simp?[EI,zQ,yD,xQ] at hd;rcases hd with rfl|rfl|rfl
 ·exact key (.leaf trivial) rfl
 ·exact key (.tup (by simp) λx hx=>hf x (by simp?[zQ,yD,xQ] at hx ⊢;rcases hx with rfl|rfl<;>simp)) rfl
 ·exact key (.tup (by simp) λx hx=>hf x (by simp?[zQ,yD,xQ] at hx ⊢;rcases hx with rfl|rfl<;>simp)) rfl
def main(ns:List Int)(hl:ns.length<=63):eA [.list (ns.map PyData.int)]=some (.bool true):=by
 let⟨G,T,W,ew,h⟩:=JW (ns:=ns) hl 0;have hw:=h.wl;have hg:=h.g4;have ht:=h.t4;obtain⟨P,eP,p⟩:∃P,cG [eI ns,.int 70,bb G T W]=some (ak P)/\Pn G T W P:=⟨_,by rw[JL];exact uS hl h,FO hl h⟩
 let⟨d1,p1,q1⟩:=eR (ns:=ns) 100 3 hl (by decide);let⟨d2,p2,q2⟩:=eR (ns:=ns) 101 3 hl (by decide);let⟨k1,_,bad,hb,eb⟩:=K02M.ix_at (l:=Fd P) p1 (by exact q1);let⟨k2,_,non,hn,en⟩:=K02M.ix_at (l:=EI G T W) p2 (by exact q2);have bno:=Ha h p bad (xY hb);have nno:=Hm h non (xY hn);have gw:=Dr h;have gp:=Eo h p;have em:(PyData.str "":D)=sD []:=by rw[uh];rfl
 have nst:∀l:List Nat,Gd l->dM (sD l) (sD l)=some (.bool false):=λl g=>by
  rw[ne_str g.sk g.sk];simp
 unfold eA;refine aJ ?_;show i5 [.val (eI ns),.non,.non,.non,.non,.non,.non,.non,.non,.non,.non,.non,.non,.non,.non,.non]=_;unfold i5;refine (ao (bD (call_of ew rfl rfl) (call_of ew rfl rfl) rfl)).trans ?_;refine (ao (bD (call_of eP rfl rfl) (call_of eP rfl rfl) rfl)).trans ?_;refine (ao (bC (d:=sD []) (by rw[em];rfl) rfl)).trans ?_;let⟨y6,y7,e1⟩:=Fe (s:=eI ns) (G:=G) (T:=T) (W:=W) (P:=P) (t:=[]) (w:=iZ) (l:=G) (x6:=.non) (x7:=.non) (x8:=.non) (x9:=.non) (x10:=.non) (x11:=.non) (x12:=.non) (x13:=.non) (by decide) (λp hp=>L6 h hp) (by simp;lia);have lG:=mP (ls:=G.map λp=>fg iZ (pN p)) λl hm=>by
  let⟨p,hp,rfl⟩:=List.mem_map.mp hm;exact (nB (q:=(iZ,pN p)) (.inl rfl) (L6 h hp).1).1
 rw[zD] at lG;rw[xK] at e1;let⟨z6,z7,e2⟩:=Fe (s:=eI ns) (G:=G) (T:=T) (W:=W) (P:=P) (t:=ij (G.map λp=>fg iZ (pN p))) (w:=i8) (l:=T) (x6:=y6) (x7:=y7) (x8:=.non) (x9:=.non) (x10:=.non) (x11:=.non) (x12:=.non) (x13:=.non) (by decide) (λp hp=>Ma h hp) (by lia);have lT:=mP (ls:=T.map λp=>fg i8 (pN p)) λl hm=>by
  let⟨p,hp,rfl⟩:=List.mem_map.mp hm;exact (nB (q:=(i8,pN p)) (.inr (.inl rfl)) (Ma h hp).1).1
 rw[zD] at lT;have ef:dm (dk 4 5) Oi [.tuple [sD iZ,.tuple (G.map aI)],.tuple [sD i8,.tuple (T.map aI)]] (sx (eI ns) G T W P [] .non .non .non .non .non .non .non .non .non .non)=some (.nx (sx (eI ns) G T W P (ij (G.map λp=>fg iZ (pN p))++ij (T.map λp=>fg i8 (pN p))) (.val (sD i8)) (.val (.tuple (T.map aI))) z6 z7 .non .non .non .non .non .non)):=by
  rw[dm,show dk 4 5 (sx (eI ns) G T W P [] .non .non .non .non .non .non .non .non .non .non) (.tuple [sD iZ,.tuple (G.map aI)])=some (sx (eI ns) G T W P [] (.val (sD iZ)) (.val (.tuple (G.map aI))) .non .non .non .non .non .non .non .non) from rfl,zA,e1];show dm (dk 4 5) Oi [.tuple [sD i8,.tuple (T.map aI)]] _=_;rw[dm,show dk 4 5 (sx (eI ns) G T W P (ij (G.map λp=>fg iZ (pN p))) (.val (sD iZ)) (.val (.tuple (G.map aI))) y6 y7 .non .non .non .non .non .non) (.tuple [sD i8,.tuple (T.map aI)])=some (sx (eI ns) G T W P (ij (G.map λp=>fg iZ (pN p))) (.val (sD i8)) (.val (.tuple (T.map aI))) y6 y7 .non .non .non .non .non .non) from rfl,zA,e2];rfl
 have ei:∀ρ:Dl.Env,ae 1 ρ=some (bb G T W)->aM (aP (aa (aP (aa (fC (.str "give")) (aa (f2 aF (ae 1) (fC (.int 0))) af))) (aa (aP (aa (fC (.str "take")) (aa (f2 aF (ae 1) (fC (.int 1))) af))) af))) ρ=some [.tuple [sD iZ,.tuple (G.map aI)],.tuple [sD i8,.tuple (T.map aI)]]:=λρ h1=>fy (tup_is (cons_of (tup_is (ds:=[sD iZ,.tuple (G.map aI)]) (cons_of (by rw[Cs];rfl) (cons_of (aq (mS false G T W) h1 rfl) rfl)) (by simp)) (cons_of (tup_is (ds:=[sD i8,.tuple (T.map aI)]) (cons_of (by rw[Dw];rfl) (cons_of (aq (mS true G T W) h1 rfl) rfl)) (by simp)) rfl)) (by simp));refine (ao (bL ef (ei _ rfl) rfl)).trans ?_;let⟨y8,y9,y10,e3⟩:=DN (s:=eI ns) (G:=G) (T:=T) (W:=W) (P:=P) (x4:=.val (sD i8)) (x5:=.val (.tuple (T.map aI))) (x6:=z6) (x7:=z7) (x11:=.non) (x12:=.non) (x13:=.non) W (ij (G.map λp=>fg iZ (pN p))++ij (T.map λp=>fg i8 (pN p))) .non .non .non (λw hw=>MH h hw) (by rw[zN];lia);have et:(ij (G.map λp=>fg iZ (pN p))++ij (T.map λp=>fg i8 (pN p)))++ij (W.map λw=>fg ll (wN w))=FH G T W:=by
  show _=ij ((rC G T W).map nZ);unfold rC;rw[qU,qU,xi,xi,List.append_assoc];simp?[zM];rfl
 rw[et] at e3;refine (ao (bL e3 (fy (aq (fu G T W) rfl rfl)) rfl)).trans ?_;refine (ao (bo (lW (bZ (b:=true) (aX (call_of (eX h) rfl rfl))) (lW (bZ (b:=true) (aX (call_of (fQ h p) rfl rfl))) (lW (aX (aq (nst _ gw) (call_of (rW h) rfl rfl) rfl)) (aX (aq (HI h) (call_of (r9 h) rfl rfl) rfl))))))).trans ?_;refine (ao (bC (d:=sD []) (by rw[em];rfl) rfl)).trans ?_;let⟨y12,y13,e4⟩:=DJ (s:=eI ns) (x4:=.val (sD i8)) (x5:=.val (.tuple (T.map aI))) (x6:=z6) (x7:=z7) (x8:=y8) (x9:=y9) (x10:=y10) h p (t:=FH G T W) (List.range W.length) [] .non .non (λi hi=>List.mem_range.mp hi) (by simp;lia);rw[xK] at e4;have ez:∀ρ:Dl.Env,ae 1 ρ=some (bb G T W)->ae 2 ρ=some (ak P)->cO (aa (ae 2) (aa (f2 aF (ae 1) (fC (.int 2))) af)) ρ=some ((List.range W.length).map λi=>.tuple [.int (P.getD i 0),av (bu W i)]):=λρ h1 h2=>by
  have e:(List.range W.length).map (λi=>PyData.tuple [.int (P.getD i 0),av (bu W i)])=(List.range W.length).map (λi=>PyData.tuple [(P.map PyData.int).getD i .none,av (bu W i)]):=yG λi hi=>by
   have:i < P.length:=by rw[p.len];exact List.mem_range.mp hi
   simp[this]
  rw[e,<- K02M.zip_any2 (by rw[zD];exact p.len)];unfold cO;rw[cons_of h2 (cons_of (aq (fu G T W) h1 rfl) rfl)];rfl
 refine (ao (bL e4 (ez _ rfl rfl) rfl)).trans ?_;have er:aA [.int 2,bb G T W,sD (rm W P)]=some (ak P):=uC (mn h p);have e2':aA [.int 1,bb G T W,ak P]=some (sD (rm W P)):=CN (ur h p);refine (ao (bo (lW (aX (aq (nst _ gp) (call_of e2' rfl rfl) rfl)) (aX (aq (qm P) (call_of er rfl rfl) rfl))))).trans ?_;have e0:aA [.int 2,bb G T W,sD []]=some (ak (zs W.length)):=by
  have:=uC (mn h (Me h))
  rwa [JT] at this
 have elen:∀ρ:Dl.Env,ae 2 ρ=some (ak P)->aU bE (aa (ae 2) af) ρ=some (nD W.length):=λρ h2=>by
  have:=il (l:=P) (k:=PyData.int) h2
  rwa [p.len] at this
 refine (ao (bo (aX (aq (qm (zs W.length)) (call_of e0 (cons_of rfl (cons_of rfl (cons_of (by rw[em];rfl) rfl))) rfl) (aq (Jg (by lia)) (Fk rfl) (elen _ rfl)))))).trans ?_;have e14:∀ρ:Dl.Env,ae 0 ρ=some (eI ns)->ae 2 ρ=some (ak P)->(f2 aF (bM (du (aa (f2 aB (ae 2) (aP (aa (fC (.int 0)) af))) (aa (fC .none) (aa (bM (eQ br (aa (ae 2) af))) af))))) (ah 3 aj (aa (ae 0) (aa (fC (.int 100)) (aa (fC (.int 3)) af))))) ρ=some bad:=λρ h0 h2=>by
  refine aq eb (cc (iC (ds:=Fd P) (cons_of (aq (mU (a:=P) (b:=[0]) (by rw[p.len];simp;lia)) h2 (Fk rfl)) (cons_of rfl (cons_of (cc ?_) rfl))) (by simp[Fd]))) (call_of d1 (cons_of h0 rfl) rfl);unfold eQ;rw[cons_of h2 rfl];rfl
 refine (ao (bD (e14 _ rfl rfl) (e14 _ rfl rfl) rfl)).trans ?_;have e15:∀ρ:Dl.Env,ae 0 ρ=some (eI ns)->ae 1 ρ=some (bb G T W)->(f2 aF (bM (du (aa (fC .none) (aa (cC bJ (ae 1) cZ (lh (fC (.int 2)))) (aa (cC bJ (f1 ou (ae 1)) cZ (lh (fC (.int 2)))) af))))) (ah 3 aj (aa (ae 0) (aa (fC (.int 101)) (aa (fC (.int 3)) af))))) ρ=some non:=λρ h0 h1=>by
  refine aq en (cc (iC (ds:=EI G T W) (cons_of rfl (cons_of ?_ (cons_of ?_ rfl))) (by simp[EI]))) (call_of d2 (cons_of h0 rfl) rfl)
  ·unfold cC;rw[h1];rfl
  ·have:f1 ou (ae 1) ρ=some (.tuple [.tuple (W.map av),.tuple (T.map aI),.tuple (G.map aI)]):=by
    unfold f1;rw[h1];rfl
   unfold cC;rw[this];rfl
 refine (ao (bD (e15 _ rfl rfl) (e15 _ rfl rfl) rfl)).trans ?_;refine (ao (bo (aX (aq (K02M.gNeD_ref 1) (call_of (p0 (Pz (Oy h bno)) O4) rfl rfl) (K02M.refE 1 _))))).trans ?_;refine aZ (aq (BA 0 3) (Bt (is:=[0,1,2]) (j:=0) (nP (n:=3) rfl (by decide)) (by simp) λi hi=>?_) (Ei 0 (n:=3) (by decide) _));have hi:i=0\/i=1\/i=2:=by simpa using hi
 rcases hi with rfl|rfl|rfl
 ·exact call_of (Bm (PN (J1 nno)) J5) rfl rfl
 ·exact call_of (p0 (Pz (JI nno)) J5) rfl rfl
 ·exact call_of (Av (PY (J1 nno)) J5) rfl rfl
end
end K80M
end Wm
namespace K80
open PySem L2 Dl PySem.Spec PyProof.Rows Pg Hd PySem.W Rg
def main(ns:List Int)(h:ns.length<=63):eA [.list (ns.map PyData.int)]=some (.bool true):=Wm.K80M.main ns h
def ins(P:Params){h:Heap}{mg:Str->Option Value}(X:(Kf P).In h)(G:h.Ns mainGlobals mg):La (Kf P) mg:=⟨λ_ _ _=>by
 have B:∀x∈cw,mg x=none:=λx hx=>mg_none_of X G (Dl.Kr (by kernel_rfl) x hx);have M:Ex.rg (Kf P) mg Qp PU:=Ex.Gp X G (by kernel_rfl);refine ot (top 52) (f3 336 335 p5) M (ns:=Qo) (Ex.M9 (st:=top 51) ((f1 329 328 p5).mg X G) M B rfl Rf.NW rfl rfl rfl rfl rfl (by decide +kernel) (by decide +kernel) (by decide) rfl rfl) ?_;refine on (top 50) (f3 322 321 p5) ?_;refine on (top 49) (f1 315 314 p5) ?_;refine on (top 48) (f2 310 309 p5) ?_;refine on (top 47) (f4 303 302 p5) ?_;refine on (top 46) (f2 298 297 p5) ?_;refine on (top 45) (f3 293 292 p5) ?_;refine on (top 44) (f2 286 285 p5) ?_;refine ox (top 42) (f2 279 278 jb) ?_;refine on (top 41) (f1 274 273 jb) ?_;refine on (top 40) (f1 267 266 jb) ?_;refine on (top 39) (f2 260 259 jb) ?_;refine on (top 38) (f2 255 254 jb) ?_;refine ox (top 37) (f2 250 249 jb) ?_;refine ox (top 36) (f1 243 242 jb) ?_;refine on (top 35) (f2 236 235 jb) ?_;refine on (top 34) (f2 231 230 jb) ?_;refine on (top 33) (f1 224 223 jb) ?_;refine on (top 32) (f2 219 218 jb) ?_;refine on (top 31) (f1 212 211 jb) ?_;refine on (top 30) (f1 207 206 jb) ?_;refine on (top 29) (f1 200 199 jb) ?_;refine on (top 28) (f1 195 194 jb) ?_;refine on (top 27) (f1 188 187 jb) ?_;refine ox (top 24) (f2 183 182 lj) ?_;refine ox (top 23) (f1 176 175 lj) ?_;refine on (top 22) (f2 169 168 lj) ?_;refine on (top 21) (f3 164 163 lj) ?_;refine on (top 20) (f4 159 158 lj) ?_;refine on (top 19) (f1 154 153 lj) ?_;refine on (top 18) (f1 149 148 lj) ?_;refine on (top 17) (f3 144 143 lj) ?_;refine on (top 16) (f3 139 138 lj) ?_;refine on (top 15) (f2 132 131 lj) ?_;refine on (top 14) (f2 125 124 lj) ?_;refine on (top 13) (f3 120 119 lj) ?_;refine on (top 12) (f2 113 112 lj) ?_;refine on (top 11) (f3 106 105 lj) ?_;exact⟨Rf.Og,Ex.Ot,(Rf.IL ⟨305,mg_of X G (by kernel_rfl)⟩ (Rf.IL ⟨307,mg_of X G (by kernel_rfl)⟩ (Rf.Kh ⟨411,mg_of X G (by kernel_rfl)⟩ Rf.OJ))),B,M.ok (by decide +kernel),⟨_,X,G⟩⟩,gh.mg (f1 341 340 p5) X G⟩
def NR(w:World):la (Kf w.params) []=true:=by kernel_rfl
end K80
open PySem PySem.W PyProof.Rows
theorem PySem.Challenge.cw_stillflow_k80_texts_holds : PySem.Challenge.rw_stillflow_k80_texts.Holds := by
 refine holds_law K80.Oe λk1=>?_
 refine holds_open (XP:=XL K80.vw []) (YP:=K80.hk.says) K80.left K80.hk.of K80.hk.keeps (λs e=>xl_of s (Bool.and_eq_true_iff.mp e).1) XL.keeps (by rfl) (by rfl) (by rfl) (λs e=>recFacts_of (Bool.and_eq_true_iff.mp e).2) (by rfl) k1 (by decide +kernel) ⟨rfl,rfl,rfl,rfl,rfl,by decide +kernel⟩ ?hw ?hc
 case hw=>w_witness2
 case hc=>exact K80.walk (l:=PySem.Challenge.rw_stillflow_k80_texts) (K:=K80.Kf) (ts:=[]) rfl rfl rfl (λw h Y=>⟨Y.1,Y.2⟩) K80.NR (λw=>K80.ins w.params) K80.main
