import PyProof.Rows.All
import Wide.All
import OpenK.AllK
import Wide.FinOn
import PyProof.EqAt
import PyProof.EqKinds
import PyProof.TupleCall
import Lean
import PyProof.Draws
import PyProof.ListRange
import PyProof.StrCalls2
import PyProof.StrCalls6
import PyProof.SliceStr2
import KE.KIntText
import KE.KIsAll
import PySem.Challenge.RW_stillflow_k84_whole_walk_texts
set_option Elab.async false
set_option linter.all false
set_option maxRecDepth 100000
set_option maxHeartbeats 4000000
abbrev _root_.zA:=@Option.bind_some
abbrev _root_.zB:=@Option.map_some
abbrev _root_.zC:=@List.mem_cons_of_mem
abbrev _root_.zD:=@List.length_map
abbrev _root_.zE:=@List.mem_cons_self
abbrev _root_.zF:=@Bool.and_eq_true
abbrev _root_.zG:=@List.getD_eq_getElem?_getD
abbrev _root_.zH:=@List.size_toArray
abbrev _root_.zI:=@List.map_cons
abbrev _root_.zJ:=@decide_eq_true_eq
abbrev _root_.zK:=@List.getElem?_eq_getElem
abbrev _root_.zL:=@List.length_cons
abbrev _root_.zM:=@List.map_map
abbrev _root_.zN:=@List.length_append
abbrev _root_.zO:=@List.getElem?_map
abbrev _root_.zP:=@Nat.lt_of_lt_of_le
abbrev _root_.zQ:=@List.mem_cons
abbrev _root_.zR:=@List.length_range
abbrev _root_.zS:=@List.mem_range
abbrev _root_.zT:=@List.getElem?_eq_some_iff
abbrev _root_.zU:=@PySem.Heap.get?_push_of_some
abbrev _root_.zV:=@PySem.wpAny_bind
abbrev _root_.zW:=@PySem.wpAny_pure
abbrev _root_.zX:=@PySem.Heap.get?_push_size
abbrev _root_.zY:=@PySem.Heap.lt_size
abbrev _root_.zZ:=@decide_eq_false
abbrev _root_.yA:=@decide_eq_true
abbrev _root_.yB:=@List.lookup_cons
abbrev _root_.yC:=@List.length_set
abbrev _root_.yD:=@Nat.le_trans
abbrev _root_.yE:=@List.mem_append_right
abbrev _root_.yF:=@List.not_mem_nil
abbrev _root_.yG:=@Int.toNat_natCast
abbrev _root_.yH:=@List.range_eq_range'
abbrev _root_.yI:=@List.map_congr_left
abbrev _root_.yJ:=@List.mem_singleton
abbrev _root_.yK:=@Option.some.injEq
abbrev _root_.yL:=@if_pos
abbrev _root_.yM:=@Nat.le_refl
abbrev _root_.yN:=@if_neg
abbrev _root_.yO:=@Bool.false_eq_true
abbrev _root_.yP:=@Bool.not_eq_true'
abbrev _root_.yQ:=@of_decide_eq_true
abbrev _root_.yR:=@Nat.ne_of_lt
abbrev _root_.yS:=@List.getElem?_append_left
abbrev _root_.yT:=@List.getElem?_append_right
abbrev _root_.yU:=@List.map_nil
abbrev _root_.yV:=@List.set_cons_zero
abbrev _root_.yW:=@List.set_cons_succ
abbrev _root_.yX:=@List.getElem?_replicate
abbrev _root_.yY:=@List.getElem?_cons_succ
abbrev _root_.yZ:=@Bool.false_ne_true
abbrev _root_.xA:=@PySem.wpAny_mono
abbrev _root_.xB:=@decide_eq_false_iff_not
abbrev _root_.xC:=@List.length_singleton
abbrev _root_.xD:=@Option.some.inj
abbrev _root_.xE:=@List.replicate_succ
abbrev _root_.xF:=@List.cons_append
abbrev _root_.xG:=@List.all_eq_true
abbrev _root_.xH:=@if_true
abbrev _root_.xI:=@List.getElem?_set
abbrev _root_.xJ:=@PySem.Heap.size_push
abbrev _root_.xK:=@List.length_nil
abbrev _root_.xM:=@List.length_replicate
abbrev _root_.xN:=@PySem.Heap.get?_update_other
abbrev _root_.xO:=@List.nil_append
abbrev _root_.xP:=@List.length_filter_le
abbrev _root_.xQ:=@List.getElem?_cons_zero
abbrev _root_.xR:=@PySem.wpAny_pyIter_tuple
abbrev _root_.xS:=@List.all_cons
abbrev _root_.xU:=@or_false
abbrev _root_.xV:=@Nat.zero_le
abbrev _root_.xW:=@PySem.wpAny_truthy_bool
abbrev _root_.xX:=@PySem.wpAny_holding
abbrev _root_.xY:=@Bool.not_true
abbrev _root_.xZ:=@Int.le_refl
abbrev _root_.qA:=@List.getElem_mem
abbrev _root_.qB:=@List.mem_of_getElem?
abbrev _root_.qC:=@PySem.wpAny_callSpecial?_slot
abbrev _root_.qD:=@Array.getD_eq_getD_getElem?
abbrev _root_.qE:=@Nat.lt_irrefl
abbrev _root_.qF:=@List.append_nil
abbrev _root_.qG:=@Option.getD_some
abbrev _root_.qH:=@List.length_drop
abbrev _root_.qJ:=@List.mem_append_left
abbrev _root_.qK:=@PySem.wpAny_pyIter_list
abbrev _root_.qL:=@PySem.wpAny_newObj_type
abbrev _root_.qM:=@List.flatten_cons
abbrev _root_.qN:=@PySem.F.plainAttrs_list
abbrev _root_.qP:=@if_false
abbrev _root_.qQ:=@List.getElem_of_mem
abbrev _root_.qS:=@PyProof.Rows.callWith_type1
abbrev _root_.qT:=@PySem.wpAny_field
abbrev _root_.qU:=@PySem.sizeLine_eq
abbrev _root_.qV:=@PySem.wpAny_call_entry
abbrev _root_.qX:=@PySem.call_meets
abbrev _root_.qY:=@PySem.wpAny_Call_Name_kw
abbrev _root_.qZ:=@Nat.lt_of_le_of_lt
abbrev _root_.jA:=@List.map_append
abbrev _root_.jB:=@Bool.or_eq_true
abbrev _root_.jC:=@congrArg
abbrev _root_.jD:=@Nat.zero_add
abbrev _root_.jE:=@List.pairwise_map
abbrev _root_.jF:=@PyProof.Rows.slot_tuple_getitem
abbrev _root_.jG:=@List.filterMap_cons
abbrev _root_.jH:=@List.ext_getElem
abbrev _root_.jI:=@Nat.ne_of_gt
abbrev _root_.jJ:=@PySem.wpAny_passesOwn
abbrev _root_.jK:=@Bool.true_and
abbrev _root_.jL:=@List.getElem?_eq_none
abbrev _root_.jM:=@Ne.symm
abbrev _root_.jN:=@Nat.lt_succ_of_lt
abbrev _root_.jO:=@and_self
abbrev _root_.jP:=@decide_true
abbrev _root_.jQ:=@PySem.F.slot_tuple_iterator_next
abbrev _root_.jR:=@PySem.codeAny_mono
abbrev _root_.jS:=@Nat.le_of_lt
abbrev _root_.jT:=@Int.le_trans
abbrev _root_.jU:=@Nat.le_add_right
abbrev _root_.jV:=@List.length_take
abbrev _root_.jW:=@List.filter_cons
abbrev _root_.jX:=@Array.getElem?_eq_getElem
abbrev _root_.jY:=@PySem.mem_of_lookup
abbrev _root_.jZ:=@PyProof.Rows.listUpdate_at
abbrev _root_.kA:=@PyProof.Rows.get?_update_seq
abbrev _root_.kC:=@PySem.codeAny_builtin
abbrev _root_.kE:=@List.filter_map
abbrev _root_.kF:=@PySem.wpAny_seqItems
abbrev _root_.kG:=@List.take_of_length_le
abbrev _root_.kH:=@List.find?_cons_of_neg
abbrev _root_.kJ:=@List.findIdx_lt_length_of_exists
abbrev _root_.kK:=@Option.getD_none
abbrev _root_.kL:=@Nat.lt_succ_self
abbrev _root_.kM:=@PySem.wpAny_newList
abbrev _root_.kN:=@PySem.wpAny_attempt
abbrev _root_.kO:=@List.getElem?_set_ne
abbrev _root_.kP:=@List.cons.injEq
abbrev _root_.kR:=@Bool.eq_iff_iff
abbrev _root_.kU:=@PySem.wpAny_setField_rec
abbrev _root_.kW:=@Int.emod_lt_of_pos
abbrev _root_.kX:=@List.drop_eq_getElem_cons
abbrev _root_.kY:=@List.reverse_cons
abbrev _root_.kZ:=@List.findIdx_cons
abbrev _root_.vA:=@PySem.wpAny_standAt
abbrev _root_.vB:=@List.any_cons
abbrev _root_.vC:=@PySem.F.args_tuple_add_2
abbrev _root_.vD:=@List.range'_succ
abbrev _root_.vE:=@PySem.F.entry_tuple_add
abbrev _root_.vF:=@List.pairwise_singleton
abbrev _root_.vG:=@Int.eq_ofNat_of_zero_le
abbrev _root_.vH:=@PyProof.Rows.listItems_at
abbrev _root_.vI:=@PySem.F.slot_tuple_add
abbrev _root_.vJ:=@List.range_succ_eq_map
abbrev _root_.vK:=@List.getElem?_set_self
abbrev _root_.vL:=@List.find?_cons_of_pos
abbrev _root_.vM:=@PySem.wpAny_execs_nil
abbrev _root_.vN:=@Nat.not_lt_zero
abbrev _root_.vO:=@List.of_mem_zip
abbrev _root_.vP:=@Int.emod_nonneg
abbrev _root_.vQ:=@PySem.F.slot_zip_next
abbrev _root_.vR:=@List.getElem?_toArray
abbrev _root_.vS:=@Nat.mul_le_mul
abbrev _root_.vT:=@PyProof.Rows.IntsAre.length
abbrev _root_.vU:=@Bool.false_and
abbrev _root_.vV:=@List.getD_cons_zero
abbrev _root_.vW:=@List.getD_cons_succ
abbrev _root_.vX:=@Array.length_toList
abbrev _root_.vY:=@PySem.wpAny_rule
abbrev _root_.vZ:=@List.find?_eq_none
abbrev _root_.wA:=@PySem.F.args_tuple_mul_2
abbrev _root_.wC:=@PySem.wpAny_typeOf
abbrev _root_.wD:=@decide_false
abbrev _root_.wF:=@PySem.concat_meets
abbrev _root_.wG:=@Nat.lt_trans
abbrev _root_.wH:=@List.any_map
abbrev _root_.wI:=@PySem.wpAny_pyIter_enum
abbrev _root_.wJ:=@List.take_add_one
abbrev _root_.wK:=@List.nodup_append
abbrev _root_.wL:=@Function.comp_def
abbrev _root_.wM:=@PySem.F.entry_tuple_mul
local macro_rules|`(tactic|simp?[$t,*] $[$l:location]?)=>`(tactic|simp only[$t,*] $[$l]?)
local macro_rules|`(tactic|let ⟨$a,*⟩:=$e)=>do
 let rec f(n:Nat)(t:Lean.Syntax):Lean.MacroM (Lean.TSyntax `rcasesPat):=match n with
 |0=>Lean.Macro.throwUnsupported
 |n+1=>match t with
  |`(⟨$b,*⟩)=>do
    let c<-b.getElems.mapM fun x=>do `(Lean.Parser.Tactic.rcasesPatLo|$(<-f n x):rcasesPat)
    `(rcasesPat|⟨$c,*⟩)
  |`($x:ident)=>`(rcasesPat|$x:ident)
  |_=>`(rcasesPat|_)
 `(tactic|obtain $(<-f 9 (<-`(⟨$a,*⟩))):rcasesPat:=$e)
local macro_rules|`(tactic|lia)=>`(tactic|omega)
local macro_rules|`(def $i:declId $s:optDeclSig $v:declVal)=>`(noncomputable def $i:declId $s:optDeclSig $v:declVal)
local macro_rules|`(abbrev $i:declId $s:optDeclSig $v:declVal)=>`(noncomputable abbrev $i:declId $s:optDeclSig $v:declVal)
namespace L2
open PySem
def eY(s:Stmt):Arguments:=match s with
 | .FunctionDef _ a _ _ _ _ _ _ _ _=>a
 | _=>{ posonlyargs:=[],args:=[],vararg:=none,kwonlyargs:=[],kw_defaults:=[],kwarg:=none,defaults:=[] }
def bV(s:Stmt):List Stmt:=match s with
 | .FunctionDef _ _ b _ _ _ _ _ _ _=>b
 | _=>[]
def aK(s:Stmt):Scope:=match s with
 | .FunctionDef _ _ _ _ _ _ sc _ _ _=>sc
 | _=>{ kind:=.function,names:=[],isGenerator:=false,isCoroutine:=false }
end L2
namespace Hd
open PySem L2 PySem.Spec PyProof.Rows
variable {N:Nat}
def en(P:Params)(x:String)(t:Nat)(v:Value):DictEntry:=⟨PyData.keyHash P (Str.ofString x),.str (Str.ofString x) t,v⟩
def fo(x:Str)(st:Stmt)(pm:Value)(c:Addr):Obj:=⟨.type "function",none,.func (W.fnOf x x (eY st) (bV st) (aK st) .none .none .none pm none (.ref c) .none),#[]⟩
def co(vs:List Value):Obj:=⟨.type "code",none,.fields vs.toArray,#[]⟩
def NO(n:Nat):Value:=if n=0 then .none else .ref n
def dU(x:Str)(t l n a b c d e f u:Nat):Obj:=co [.str x t,.str x (t+1),.str "/claim/cut.py" (t+2),.int l 0,.int n 0,.int 0 0,.int 0 0,.int 3 0,NO a,.bool true,.int 181 0,NO b,NO c,NO d,NO e,NO f,.int u 0,.int l 0,.str "/claim/cut.py" (u+1)]
open PySem PySem.W L2
structure Acc where
 a:Nat
 t:Nat
 nm:Value
 es:List DictEntry
 ts:List Value
 os:List Obj
def Kc(q:NameKind)(sc:Scope):List Str:=sc.names.filterMap λ(x,k)=>if k=q then some x else none
def Np:Nat->List Str->List Value
 | _,[]=>[]
 | t,x::l=>.str x t::Np (t+1) l
def HQ(vs:List Value):Obj:=⟨.type "tuple",none,.seq vs.toArray,#[]⟩
def Oa:Obj:=⟨.none,none,.fields #[],#[]⟩
def Of(x:Str)(st:Stmt):Obj:=⟨.none,none,.func { name:=x,qualname:=x,params:=eY st,body:=.stmts (bV st),scope:=aK st,globals:=0,closure:=[],defaults:=.none,kwdefaults:=.none },#[]⟩
def Rx(P:Params)(k:Nat)(st:Stmt):Acc->Acc
 | ⟨a,t,nm,es,ts,os⟩=>match st with
  | .FunctionDef x args _ _ _ _ sc _ _ pos =>
   if k=0 then ⟨a+5,t+6,nm,⟨PyData.keyHash P x,.str x (t+5),.ref (a+4)⟩::es,.ref (a+3)::.int 0 0::.int pos.line 0::ts,
    fo x st nm (a+3)::dU x t pos.line args.args.length a (a+1) 0 0 0 (a+2) (t+3)::Of x st::Oa::HQ []::os⟩
   else
    let m:=(Kc .local sc).length;let n:=m+(Kc .cell sc).length
    ⟨a+7,t+6+n,nm,⟨PyData.keyHash P x,.str x (t+5+n),.ref (a+6)⟩::es,.ref (a+5)::.int 0 0::.int pos.line 0::ts,
    fo x st nm (a+5)::dU x t pos.line args.args.length a (a+1) 0 (a+2) (a+3) (a+4) (t+3+n)::Of x st::HQ (Np (t+3+m) (Kc .cell sc))::HQ (Np (t+3) (Kc .local sc))::Oa::HQ []::os⟩
  | .Assign [.Name x _] (.Constant c _ _) _ =>
   let v:=match c with|.int i=>Value.int i t|.str y=>.str y t|_=>.none
   if k=2 then ⟨a,t+2,v,es,ts,os⟩ else ⟨a,t+2,nm,⟨PyData.keyHash P x,.str x (t+1),v⟩::es,ts,os⟩
  | _=>⟨a,t,nm,es,ts,os⟩
def Pd(P:Params):List Nat->List Stmt->Acc->Acc
 | k::ks,st::r,A=>Pd P ks r (Rx P k st A)
 | _,_,A=>A
def Qx:Heap->Acc->Heap
 | ⟨⟨o0::o1::o2::⟨c3,d3,.dict ⟨e0::es⟩ n,s3⟩::r⟩,lf⟩,A=>⟨⟨o0::o1::o2::⟨c3,d3,.dict ⟨{ e0 with val:=A.nm }::(es++A.es.reverse)⟩ (n+A.es.length),s3⟩ ::
   (r.modify 8 (fun|⟨c,d,.fields ⟨vs⟩,s⟩=>⟨c,d,.fields ⟨vs++A.ts.reverse⟩,s⟩|o=>o)++A.os.reverse)⟩,lf⟩
 | h,_=>h
def oV(s:Shared)(A:Acc):Shared:={ s with heap:=Qx s.heap A,toks:=A.t }
section
variable (p:Program) (w:World)
abbrev yi:=behindTheImports p
abbrev Hl:PySem.Env:={ scope:=p.main.scope,locals:=3,globals:=3,cells:=[],code:=.ref 13,frame:=some 14 }
abbrev y0:Code:=.body (yi p) (Hl p)
def GZ(i:Nat):Pos:=if i=0 then default else ((yi p).getD (i - 1) (.Pass default)).pos
abbrev Il:List Frame:=[topFrame default]
def S0:Shared:=(fencedOpening treeTable p w 6000).getD {}
def Sb:Shared:=((topGo treeTable p w 11 (some (.ref 6)) 12 (S0 p w) (topStub p)).map (·.1)).getD {}
abbrev Oe(n i j:Nat)(s:Shared):=segRun treeTable p w 11 (some (.ref 6)) 1 n s (piecesOf (((yi p).drop i).take (j - i)) (Hl p) (y0 p) (GZ p i) Il)
def Sc(n j:Nat):Shared:=((Oe p w n 0 j (Sb p w)).map (·.2.1)).getD {}
def SA(n j:Nat)(A:Acc)(ks:List Nat)(m:Nat):Shared:=oV (Sc p w n j) (Pd w.params (ks.take m) ((yi p).drop j) A)
end
def Jq{p q:Program}{loose:List Str}{Xt:Shared->Bool}{α:Type}{Yf:Shared->α}{Ya:World->α}{g0:Bool}{s1:World->Shared}{M:Nat}
  (ho:∀w,fencedOpening treeTable p w 6000=some (S0 p w)) (hs:∀w,((S0 p w).heap.isNs mainGlobals&&(S0 p w).gens.size == 0,(S0 p w).heap.objs.size,(S0 p w).heap.nsMap mainGlobals "__annotations__")=(true,11,some (.ref 6)))
  (hr:∀w,topRun treeTable p w 11 (some (.ref 6)) M (S0 p w) (topStub p)=some (s1 w)) (hM:M<=6000)
  (hl:∀w,(staticsOk (importedModules p.main.body) (S0 p w).heap (s1 w).heap&&namesBound p (s1 w).heap&&gensDone (s1 w)&&laidKept (S0 p w).heap (s1 w).heap)=true)
  (hk:∀w,openSeen q loose (importedModules p.main.body) Xt g0 (s1 w)=openGood q loose) (hy:∀w,Yf (s1 w)=Ya w):LeftO p q loose Xt Yf Ya 6000 g0:=λw=>by
 have r:=topRun_mono (6000 - M) _ _ _ _ (hr w);rw[show M+(6000 - M)=6000 by lia] at r;have e:=hs w;simp?[Prod.mk.injEq] at e;have t:openEnds treeTable p w 6000=some (s1 w):=by
  unfold openEnds;rw[ho w,zA];unfold topFrom;rw[e.1,e.2.1,e.2.2];dsimp only;rw[r,zA,hl w]
 rw[t,zB,hk w,hy w]
def ML{p:Program}{w:World}{r:Shared}(a:topGo treeTable p w 11 (some (.ref 6)) 12 (S0 p w) (topStub p)=some (Sb p w,⟨denote treeTable (.body (yi p) (Hl p)),y0 p,default,Il⟩))
  (b:segRun treeTable p w 11 (some (.ref 6)) 1 1 (Sb p w) (blockOf (yi p) (Hl p) (y0 p) default Il)=some (.next,Sb p w,y0 p,GZ p 0))
  (k:topRun treeTable p w 11 (some (.ref 6)) N (Sb p w) (restOf (yi p) (Hl p) (y0 p) (GZ p 0) Il)=some r):topRun treeTable p w 11 (some (.ref 6)) (12+(1+N)) (S0 p w) (topStub p)=some r:=go_top a (piece_block b k)
def Qp{p:Program}{w:World}{n N i j:Nat}{s s' r:Shared}(h:Oe p w n i j s=some (.next,s',y0 p,GZ p j))(hij:i<=j)(k:topRun treeTable p w 11 (some (.ref 6)) N s' (restOf ((yi p).drop j) (Hl p) (y0 p) (GZ p j) Il)=some r) :
  topRun treeTable p w 11 (some (.ref 6)) (n+N) s (restOf ((yi p).drop i) (Hl p) (y0 p) (GZ p i) Il)=some r:=by
 have e:(yi p).drop i=((yi p).drop i).take (j - i)++(yi p).drop j:=by
  have:=List.take_append_drop (j - i) ((yi p).drop i);rw[List.drop_drop,show i+(j - i)=j by lia] at this;exact this.symm
 rw[e];exact piece_app h k
end Hd
namespace K84
open PySem L2 PySem.Spec PyProof.Rows Hd PySem.W
abbrev top(i:Nat):Stmt:=PySem.Challenge.pw_stillflow_k84_whole_walk_texts.main.body.getD i (.Pass ⟨0,0,0,0⟩)
def vw:Program:=W.view PySem.Challenge.pw_stillflow_k84_whole_walk_texts [1,2,3,4,5,7,8,9,10,11,12,13,14,15,16,17,18,19,20,21,22,23,24,25,26,28,29,30,31,32,33,34,35,36,37,38,40,41,42,43,44,45,47,48,49,50,51,53,54,55,56,57,59,60,61,63,64,65,66,67,68,69,70]
def iO:Value:=(.str "stillflow.worlds" 271)
def rL:Value:=(.str "stillflow.texts" 406)
def Hq:Value:=(.str "stillflow.walktexts" 484)
def Hn:Value:=(.str "stillflow.flows" 520)
def KJ:Value:=(.str "stillflow.listing" 560)
def NN:Value:=(.str "stillflow.walks" 591)
def yh:Value:=(.str "law_stillflow_k84_whole_walk_texts" 624)
def Kf(P:Params):W.Frag:=[(3,⟨.type "dict",none,.dict #[en P "__name__" 165 (.str "law_stillflow_k84_whole_walk_texts" 624),en P "__doc__" 166 .none,en P "__package__" 167 .none,en P "__loader__" 168 (.builtin "__main__.__loader__#opaque"),en P "__spec__" 169 .none,en P "__annotations__" 170 (.ref 6),en P "__builtins__" 171 (.ref 4),en P "__file__" 173 (.str "/claim/cut.py" 172),en P "__cached__" 174 .none,en P "FlowError" 206 (.ref 24),en P "NoWorld" 222 (.ref 37),en P "NoPlan" 238 (.ref 49),en P "TooMany" 254 (.ref 61),en P "NoText" 270 (.ref 73),en P "MOST_PLACES" 274 (.int 4 273),en P "MOST" 276 (.int 9 275),en P "is_whole" 285 (.ref 82),en P "is_number" 293 (.ref 89),en P "is_long" 302 (.ref 96),en P "are_likes" 308 (.ref 101),en P "is_end" 316 (.ref 108),en P "is_way" 325 (.ref 115),en P "are_parts" 331 (.ref 120),en P "liked_pairs" 337 (.ref 125),en P "is_world" 343 (.ref 130),en P "through" 349 (.ref 135),en P "keeps_amounts" 355 (.ref 140),en P "is_plan" 361 (.ref 145),en P "check_world" 368 (.ref 152),en P "check_plan" 376 (.ref 159),en P "replaced" 385 (.ref 166),en P "turned_order" 393 (.ref 173),en P "turned" 399 (.ref 178),en P "turned_plan" 405 (.ref 183),en P "DIGITS" 409 (.str "0123456789" 408),en P "text_of_lines" 415 (.ref 188),en P "lines_of" 423 (.ref 195),en P "line_of" 429 (.ref 200),en P "number_of" 436 (.ref 207),en P "numbers_of" 442 (.ref 212),en P "flow_line" 452 (.ref 219),en P "written_plan" 458 (.ref 224),en P "plan_text" 466 (.ref 231),en P "known_lines" 477 (.ref 238),en P "read_plan" 483 (.ref 243),en P "POINT" 487 (.str "." 486),en P "plan_line" 494 (.ref 250),en P "plan_of_line" 501 (.ref 257),en P "are_plans" 507 (.ref 262),en P "walk_text" 513 (.ref 267),en P "read_walk" 519 (.ref 272),en P "ways_of" 527 (.ref 277),en P "wants_more" 533 (.ref 282),en P "why_kept" 542 (.ref 289),en P "first_leaving" 551 (.ref 296),en P "is_still" 559 (.ref 303),en P "MOST_LISTED" 563 (.int 3000 562),en P "check_many" 572 (.ref 310),en P "within_limits" 578 (.ref 315),en P "all_plans" 584 (.ref 320),en P "all_rests" 590 (.ref 325),en P "least_liked_used" 598 (.ref 330),en P "pushed_on" 611 (.ref 337),en P "walk" 623 (.ref 344),en P "_law_cell" 633 (.ref 351),en P "_law_drawn" 643 (.ref 358),en P "_law_orders" 658 (.ref 365),en P "_law_world" 664 (.ref 370),en P "_law_used" 670 (.ref 375),en P "_law_fits" 681 (.ref 382),en P "_law_plan" 695 (.ref 389),en P "law" 701 (.ref 394)] 72,#[]⟩),
 (81,dU "is_whole" 277 15 3 76 77 0 78 79 80 283),
 (82,fo "is_whole" (top 9) iO 81),
 (88,dU "is_number" 286 19 2 83 84 0 85 86 87 291),
 (89,fo "is_number" (top 10) iO 88),
 (95,dU "is_long" 294 21 3 90 91 0 92 93 94 300),
 (96,fo "is_long" (top 11) iO 95),
 (100,dU "are_likes" 303 23 2 97 98 0 0 0 99 306),
 (101,fo "are_likes" (top 12) iO 100),
 (107,dU "is_end" 309 29 2 102 103 0 104 105 106 314),
 (108,fo "is_end" (top 13) iO 107),
 (114,dU "is_way" 317 31 3 109 110 0 111 112 113 323),
 (115,fo "is_way" (top 14) iO 114),
 (119,dU "are_parts" 326 35 3 116 117 0 0 0 118 329),
 (120,fo "are_parts" (top 15) iO 119),
 (124,dU "liked_pairs" 332 43 1 121 122 0 0 0 123 335),
 (125,fo "liked_pairs" (top 16) iO 124),
 (129,dU "is_world" 338 48 1 126 127 0 0 0 128 341),
 (130,fo "is_world" (top 17) iO 129),
 (134,dU "through" 344 55 4 131 132 0 0 0 133 347),
 (135,fo "through" (top 18) iO 134),
 (139,dU "keeps_amounts" 350 57 3 136 137 0 0 0 138 353),
 (140,fo "keeps_amounts" (top 19) iO 139),
 (144,dU "is_plan" 356 59 2 141 142 0 0 0 143 359),
 (145,fo "is_plan" (top 20) iO 144),
 (151,dU "check_world" 362 66 1 146 147 0 148 149 150 366),
 (152,fo "check_world" (top 21) iO 151),
 (158,dU "check_plan" 369 69 2 153 154 0 155 156 157 374),
 (159,fo "check_plan" (top 22) iO 158),
 (165,dU "replaced" 377 73 3 160 161 0 162 163 164 383),
 (166,fo "replaced" (top 23) iO 165),
 (172,dU "turned_order" 386 75 1 167 168 0 169 170 171 391),
 (173,fo "turned_order" (top 24) iO 172),
 (177,dU "turned" 394 78 1 174 175 0 0 0 176 397),
 (178,fo "turned" (top 25) iO 177),
 (182,dU "turned_plan" 400 82 2 179 180 0 0 0 181 403),
 (183,fo "turned_plan" (top 26) iO 182),
 (187,dU "text_of_lines" 410 87 1 184 185 0 0 0 186 413),
 (188,fo "text_of_lines" (top 29) rL 187),
 (194,dU "lines_of" 416 89 1 189 190 0 191 192 193 421),
 (195,fo "lines_of" (top 30) rL 194),
 (199,dU "line_of" 424 94 1 196 197 0 0 0 198 427),
 (200,fo "line_of" (top 31) rL 199),
 (206,dU "number_of" 430 96 1 201 202 0 203 204 205 434),
 (207,fo "number_of" (top 32) rL 206),
 (211,dU "numbers_of" 437 100 1 208 209 0 0 0 210 440),
 (212,fo "numbers_of" (top 33) rL 211),
 (218,dU "flow_line" 443 102 2 213 214 0 215 216 217 450),
 (219,fo "flow_line" (top 34) rL 218),
 (223,dU "written_plan" 453 106 2 220 221 0 0 0 222 456),
 (224,fo "written_plan" (top 35) rL 223),
 (230,dU "plan_text" 459 108 2 225 226 0 227 228 229 464),
 (231,fo "plan_text" (top 36) rL 230),
 (237,dU "known_lines" 467 111 1 232 233 0 234 235 236 475),
 (238,fo "known_lines" (top 37) rL 237),
 (242,dU "read_plan" 478 117 2 239 240 0 0 0 241 481),
 (243,fo "read_plan" (top 38) rL 242),
 (249,dU "plan_line" 488 132 1 244 245 0 246 247 248 492),
 (250,fo "plan_line" (top 41) Hq 249),
 (256,dU "plan_of_line" 495 134 1 251 252 0 253 254 255 499),
 (257,fo "plan_of_line" (top 42) Hq 256),
 (261,dU "are_plans" 502 136 2 258 259 0 0 0 260 505),
 (262,fo "are_plans" (top 43) Hq 261),
 (266,dU "walk_text" 508 138 2 263 264 0 0 0 265 511),
 (267,fo "walk_text" (top 44) Hq 266),
 (271,dU "read_walk" 514 143 2 268 269 0 0 0 270 517),
 (272,fo "read_walk" (top 45) Hq 271),
 (276,dU "ways_of" 522 150 3 273 274 0 0 0 275 525),
 (277,fo "ways_of" (top 47) Hn 276),
 (281,dU "wants_more" 528 155 4 278 279 0 0 0 280 531),
 (282,fo "wants_more" (top 48) Hn 281),
 (288,dU "why_kept" 534 162 3 283 284 0 285 286 287 540),
 (289,fo "why_kept" (top 49) Hn 288),
 (295,dU "first_leaving" 543 170 2 290 291 0 292 293 294 549),
 (296,fo "first_leaving" (top 50) Hn 295),
 (302,dU "is_still" 552 175 2 297 298 0 299 300 301 557),
 (303,fo "is_still" (top 51) Hn 302),
 (309,dU "check_many" 564 179 1 304 305 0 306 307 308 570),
 (310,fo "check_many" (top 54) KJ 309),
 (314,dU "within_limits" 573 185 1 311 312 0 0 0 313 576),
 (315,fo "within_limits" (top 55) KJ 314),
 (319,dU "all_plans" 579 193 1 316 317 0 0 0 318 582),
 (320,fo "all_plans" (top 56) KJ 319),
 (324,dU "all_rests" 585 197 1 321 322 0 0 0 323 588),
 (325,fo "all_rests" (top 57) KJ 324),
 (329,dU "least_liked_used" 593 200 4 326 327 0 0 0 328 596),
 (330,fo "least_liked_used" (top 59) NN 329),
 (336,dU "pushed_on" 599 202 3 331 332 0 333 334 335 609),
 (337,fo "pushed_on" (top 60) NN 336),
 (343,dU "walk" 612 210 2 338 339 0 340 341 342 621),
 (344,fo "walk" (top 61) NN 343),
 (350,dU "_law_cell" 626 224 2 345 346 0 347 348 349 631),
 (351,fo "_law_cell" (top 63) yh 350),
 (357,dU "_law_drawn" 634 228 3 352 353 0 354 355 356 641),
 (358,fo "_law_drawn" (top 64) yh 357),
 (364,dU "_law_orders" 644 232 3 359 360 0 361 362 363 656),
 (365,fo "_law_orders" (top 65) yh 364),
 (369,dU "_law_world" 659 240 3 366 367 0 0 0 368 662),
 (370,fo "_law_world" (top 66) yh 369),
 (374,dU "_law_used" 665 256 4 371 372 0 0 0 373 668),
 (375,fo "_law_used" (top 67) yh 374),
 (381,dU "_law_fits" 671 258 2 376 377 0 378 379 380 679),
 (382,fo "_law_fits" (top 68) yh 381),
 (388,dU "_law_plan" 682 264 3 383 384 0 385 386 387 693),
 (389,fo "_law_plan" (top 69) yh 388),
 (393,dU "law" 696 271 1 390 391 0 0 0 392 699),
 (394,fo "law" (top 70) yh 393)]
def hk:W.Hook:=W.kmHook Kf [3,81,82,88,89,95,96,100,101,107,108,114,115,119,120,124,125,129,130,134,135,139,140,144,145,151,152,158,159,165,166,172,173,177,178,182,183,187,188,194,195,199,200,206,207,211,212,218,219,223,224,230,231,237,238,242,243,249,250,256,257,261,262,266,267,271,272,276,277,281,282,288,289,295,296,302,303,309,310,314,315,319,320,324,325,329,330,336,337,343,344,350,351,357,358,364,365,369,370,374,375,381,382,388,389,393,394] (λ_=>rfl) [168,274]
abbrev pp:=PySem.Challenge.pw_stillflow_k84_whole_walk_texts
abbrev A0:Acc:=⟨76,271,.str "stillflow.errors" 187,[],[],[]⟩
abbrev ks:List Nat:=[2,3,3,1,1,1,0,1,1,0,0,0,0,0,0,1,1,1,1,0,0,2,3,0,1,0,1,0,1,0,1,1,0,2,3,1,1,0,0,0,2,0,0,1,1,1,2,3,1,0,0,0,2,0,1,1,2,1,1,1,0,0,1,1,0]
abbrev cs(w:World):Shared:=Sc pp w 1048 6
abbrev sa(w:World)(m:Nat):Shared:=SA pp w 1048 6 A0 ks m
def o0(w:World):fencedOpening treeTable pp w 6000=some (S0 pp w):=by kernel_rfl
def o1(w:World):((S0 pp w).heap.isNs mainGlobals&&(S0 pp w).gens.size == 0,(S0 pp w).heap.objs.size,(S0 pp w).heap.nsMap mainGlobals "__annotations__")=(true,11,some (.ref 6)):=by kernel_rfl
def o2(w:World):topGo treeTable pp w 11 (some (.ref 6)) 12 (S0 pp w) (topStub pp)=some (Sb pp w,⟨denote treeTable (.body (yi pp) (Hl pp)),y0 pp,default,Il⟩):=by kernel_rfl
def o3(w:World):segRun treeTable pp w 11 (some (.ref 6)) 1 1 (Sb pp w) (blockOf (yi pp) (Hl pp) (y0 pp) default Il)=some (.next,Sb pp w,y0 pp,GZ pp 0):=by kernel_rfl
def q0(w:World):Oe pp w 1048 0 6 (Sb pp w)=some (.next,cs w,y0 pp,GZ pp 6):=by kernel_rfl
def q1(w:World):cs w=sa w 0:=by kernel_rfl
def r0(w:World):Oe pp w 837 6 39 (sa w 0)=some (.next,sa w 33,y0 pp,GZ pp 39):=by kernel_rfl
def r1(w:World):Oe pp w 794 39 71 (sa w 33)=some (.next,sa w 65,y0 pp,GZ pp 71):=by kernel_rfl
abbrev fs(w:World):Shared:=sa w 65
def q2(w:World):topRun treeTable pp w 11 (some (.ref 6)) 3 (fs w) (restOf ((yi pp).drop 71) (Hl pp) (y0 pp) (GZ pp 71) Il)=some (fs w):=by kernel_rfl
def rl(w:World):topRun treeTable pp w 11 (some (.ref 6)) (12+(1+(1048+(837+(794+3))))) (S0 pp w) (topStub pp)=some (fs w):=ML (o2 w) (o3 w) (Qp (i:=0) (q0 w) (by decide) (by rw[q1 w];exact (Qp (r0 w) (by decide) (Qp (r1 w) (by decide) (q2 w)))))
abbrev sn(w:World):=openSeen vw [] (importedModules pp.main.body) (λs=>xlAt vw [] s&&recOk [] s) true (fs w)
abbrev gd:=openGood vw []
def l0(w:World):(staticsOk (importedModules pp.main.body) (S0 pp w).heap (fs w).heap&&namesBound pp (fs w).heap&&gensDone (fs w)&&laidKept (S0 pp w).heap (fs w).heap)=true:=by kernel_rfl
def Q1(w:World):(sn w).1=gd.1:=by kernel_rfl
def Q7(w:World):(sn w).2.1=gd.2.1:=by kernel_rfl
def Rh(w:World):(sn w).2.2.1=gd.2.2.1:=by kernel_rfl
def Rj(w:World):(sn w).2.2.2.1=gd.2.2.2.1:=by kernel_rfl
def Q3(w:World):(sn w).2.2.2.2.1=gd.2.2.2.2.1:=by kernel_rfl
def Rk(w:World):(sn w).2.2.2.2.2.1=gd.2.2.2.2.2.1:=by kernel_rfl
def Rv(w:World):(sn w).2.2.2.2.2.2=gd.2.2.2.2.2.2:=by kernel_rfl
def Rb(w:World):hk.obs (fs w)=hk.val w:=by kernel_rfl
def left:LeftO pp vw [] (λs=>xlAt vw [] s&&recOk [] s) hk.obs hk.val 6000:=Jq o0 o1 rl (by decide) l0 (λw=>Prod.ext (Q1 w) (Prod.ext (Q7 w) (Prod.ext (Rh w) (Prod.ext (Rj w) (Prod.ext (Q3 w) (Prod.ext (Rk w) (Rv w))))))) Rb
def PR:PySem.Challenge.rw_stillflow_k84_whole_walk_texts.wellSaid=true:=by kernel_rfl
end K84
namespace L2
open PySem PySem.Spec PyProof.Rows
abbrev dG:=Sum Int Str
def BU:dG->Value->Bool
 | .inl k,v=>Value.isInt k v
 | .inr x,v=>Value.isStrOf x v
def QI(w:World):dG->Int
 | .inl k=>hashInt k
 | .inr x=>hashStr w x
def bM:∀ {k:dG}{v:Value},BU k v=true->(∃i t,k=Sum.inl i/\v=Value.int i t)\/(∃x t,k=Sum.inr x/\v=Value.str x t)
 | .inl i,v,h=>by
  let⟨t,e⟩:=Value.isInt_shape (k:=i) (v:=v) h;exact .inl ⟨i,t,rfl,e⟩
 | .inr x,v,h=>by
  let⟨t,e⟩:=Value.isStrOf_shape (x:=x) (v:=v) h;exact .inr ⟨x,t,rfl,e⟩
def CC(i:Int)(t:Tok):BU (.inl i) (.int i t)=true:=by simp[BU,Value.isInt]
def Nq(a b:Int):decide ((Sum.inl a:dG)=Sum.inl b)=(a == b):=by
 by_cases e:a=b
 ·subst e;simp
 ·have h:¬ (Sum.inl a:dG)=Sum.inl b:=λq=>e (Sum.inl.inj q);rw[zZ h];exact (beq_eq_false_iff_ne.mpr e).symm
def Nv(a b:Str):decide ((Sum.inr a:dG)=Sum.inr b)=decide (a=b):=by
 by_cases e:a=b
 ·subst e;simp
 ·have h:¬ (Sum.inr a:dG)=Sum.inr b:=λq=>e (Sum.inr.inj q);rw[zZ h,zZ e]
def LM(a:Int)(b:Str):decide ((Sum.inl a:dG)=Sum.inr b)=false:=zZ (λq=>nomatch q)
def LS(a:Str)(b:Int):decide ((Sum.inr a:dG)=Sum.inl b)=false:=zZ (λq=>nomatch q)
def dZ(prog:Program)(w:World):PySem.KeyKind prog w dG where
 is:=BU
 hash:=QI w
 inj:=λv a b ha hb=>by
  rcases bM ha with ⟨i,t,rfl,rfl⟩|⟨x,t,rfl,rfl⟩
  ·rcases bM hb with ⟨j,u,rfl,e⟩|⟨y,u,rfl,e⟩
   ·injection e with e1 _;rw[e1]
   ·exact nomatch e
  ·rcases bM hb with ⟨j,u,rfl,e⟩|⟨y,u,rfl,e⟩
   ·exact nomatch e
   ·injection e with e1 _;rw[e1]
 byValue:=λk v h=>by
  rcases bM h with ⟨i,t,rfl,rfl⟩|⟨x,t,rfl,rfl⟩<;>rfl
 pyHash:=λhv h=>by
  rcases bM hv with ⟨i,t,rfl,rfl⟩|⟨x,t,rfl,rfl⟩
  ·exact wpAny_pyHash_int h
  ·exact wpAny_pyHash_str h
 eqBool:=λhu hv h=>by
  rcases bM hu with ⟨i,t,rfl,rfl⟩|⟨x,t,rfl,rfl⟩
  ·rcases bM hv with ⟨j,u,rfl,rfl⟩|⟨y,u,rfl,rfl⟩
   ·rw[Nq] at h;exact wpAny_eqBool_int h
   ·rw[LM] at h;exact SeqAt.EqAt.int_str i t y u _ _ _ _ h
  ·rcases bM hv with ⟨j,u,rfl,rfl⟩|⟨y,u,rfl,rfl⟩
   ·rw[LS] at h;exact SeqAt.EqAt.str_int x t j u _ _ _ _ h
   ·rw[Nv] at h;exact wpAny_eqBool_str h
 «strs»:=λk x t v h=>by
  rcases bM h with ⟨i,u,rfl,e⟩|⟨y,u,rfl,e⟩
  ·exact nomatch e
  ·injection e with e1 _
   subst e1;cases v<;>rfl
def u0(prog:Program)(w:World)(i:Int)(t:Tok):(dZ prog w).is (.inl i) (.int i t)=true:=CC i t
inductive V where
 | non|bl (b:Bool)|int (i:Int)|str (x:Str)|byt (b:Array UInt8)|flt (b:UInt64)|ref (a:Addr)|ty (n:String)
 deriving DecidableEq
def RelV:V->Value->Prop
 | .non,u=>u=Value.none
 | .bl b,u=>u=Value.bool b
 | .int i,u=>∃t,u=Value.int i t
 | .str x,u=>∃t,u=Value.str x t
 | .byt b,u=>∃t,u=Value.bytes b t
 | .flt b,u=>∃t,u=Value.float b t
 | .ref a,u=>u=Value.ref a
 | .ty n,u=>u=Value.type n
abbrev aH:List V->List Value->Prop:=Paired RelV
def aH.length(r:aH xs us):xs.length=us.length:=Paired.length r
def aH.get:∀ {xs:List V}{us:List Value}{i:Nat}{x:V},aH xs us->xs[i]?=some x->∃u,us[i]?=some u/\RelV x u
 | _,_,_,_,.nil,e=>by simp at e
 | _,_,0,_,.cons r _,e=>by simp at e;subst e;exact⟨_,rfl,r⟩
 | _,_,i+1,x,.cons _ t,e=>by
  let⟨u,h1,h2⟩:=aH.get (i:=i) (x:=x) t (by simpa using e);exact⟨u,by simpa using h1,h2⟩
def aH.set(r:RelV x u):∀ {xs:List V}{us:List Value}(i:Nat),aH xs us->aH (xs.set i x) (us.set i u)
 | _,_,_,.nil=>.nil
 | _,_,0,.cons _ t=>.cons r t
 | _,_,i+1,.cons q t=>.cons q (aH.set r i t)
def aH.append:∀ {xs ys:List V}{us ws:List Value},aH xs us->aH ys ws->aH (xs++ys) (us++ws)
 | _,_,_,_,.nil,s=>s
 | _,_,_,_,.cons r t,s=>.cons r (aH.append t s)
def aH.take:∀ {xs:List V}{us:List Value}(n:Nat),aH xs us->aH (xs.take n) (us.take n)
 | _,_,0,_=>.nil
 | _,_,_+1,.nil=>.nil
 | _,_,n+1,.cons r t=>.cons r (aH.take n t)
def aH.drop:∀ {xs:List V}{us:List Value}(n:Nat),aH xs us->aH (xs.drop n) (us.drop n)
 | _,_,0,r=>r
 | _,_,_+1,.nil=>.nil
 | _,_,n+1,.cons _ t=>aH.drop n t
def Pf:Option V->Option Value->Prop
 | some v,some u=>RelV v u
 | none,none=>True
 | _,_=>False
def KV:List (κ×V)->List (κ×Value)->Prop:=Paired λ(p:κ×V) (q:κ×Value)=>p.1=q.1/\RelV p.2 q.2
def kV:dG->V
 | .inl i=>.int i
 | .inr x=>.str x
inductive HO where
  | lst (xs:List V)
  | tup (xs:List V)
  | dK (kvs:List (dG×V))|dT (xs:List (List dG×Addr×Value))
  | set (S:Int->Bool) (n:Nat)
  | ins (C dx:Addr) (fs:List (Str×V))
  | own (x:Addr)
  | xd (fs:List (Str×V))
  | met (f x:Addr)
  | rng (lo hi:Int)
  | frz (o:Obj) (u:HO)
  | tab (q:Str)
 | cod (q:Str)
  | ext (φ:Heap->Prop)
abbrev Hp:=Addr->Option HO
def upd(H:Hp)(a:Addr)(o:HO):Hp:=λb=>if b=a then some o else H b
def aG:upd H a o a=some o:=by unfold upd;rw[yL rfl]
def ax(h:b≠a):upd H a o b=H b:=by unfold upd;rw[yN h]
def aF{H:Hp}{a b:Addr}{o:HO}(h:H a=some o)(h':H b=none):a≠b:=by
 intro e;subst e;rw[h] at h';cases h'
def oa(h:Heap)(a:Addr)(its:Array Value):Prop:=IsTup h a its/\∃o,h.get? a=some o/\o.dict=none
def oa.new(h:Heap)(its:Array Value):oa (h.push { cls:=.type "tuple",data:=.seq its }) h.objs.size its:=⟨IsTup.new _ _,_,zX _ rfl,rfl⟩
section
variable (P:Program) (w:World)
def c7(H:Hp)(h:Heap)(a:Addr):HO->Prop
 | .lst xs=>xs.length<=sizeLine/\∃ (its:List Value) (n:Nat),aH xs its/\h.get? a=some { cls:=.type "list",data:=.seq its.toArray n }
 | .tup xs=>xs.length<=sizeLine/\∃its:List Value,aH xs its/\oa h a its.toArray
 | .dK kvs=>kvs.length<=sizeLine/\(a == sysModules)=false/\∃vs,KV kvs vs/\h.DictOf (dZ P w) a vs
 | .dT xs=>xs.length<=sizeLine/\(a == sysModules)=false /\
   ∃o es ep,h.get? a=some o/\o.ExactDict/\o.data=.dict es ep/\es.toList=xs.map (entryOfKey (tupleKind (dZ P w)))/\(xs.map (·.1)).Nodup
 | .set S n=>h.SetOf (intKind P w) a S n
 | .ins C dx fs=>H dx=some (.own a)/\fs.length<=1000/\dx≠a/\h.get? a=some (W.instObj C dx) /\
   ∃mA,h.Ns1 dx mA/\(∀f,Pf (fs.lookup f) (mA f))/\PySem.Within mA (fs.map (·.1))
 | .own _=>∃o,h.get? a=some o
 | .xd fs=>∃mA,h.Ns1 a mA/\∀f,Pf (fs.lookup f) (mA f)
 | .rng lo hi=>∃t u v,h.get? a=some { cls:=.type "range",data:=.fields #[.int lo t,.int hi u,.int 1 v] }
 | .frz o u=>h.get? a=some o/\c7 H h a u
 | .tab q=>∃ps:Array Value,h.get? a=some { cls:=.none,data:=.fields ps }/\TriplesOk ps.toList/\∀pos v,codeAmong pos ps.toList=some v->∃c,v=.ref c/\H c=some (.cod q)
 | .cod q=>h.CodeRec (.ref a) q
 | .met f x=>h.get? a=some (W.methodObj (.ref f) (.ref x))
 | .ext φ=>φ h/\(∃o,h.get? a=some o)/\∀h1 h2:Heap,φ h1->(∀o,h1.get? a=some o->h2.get? a=some o)->φ h2
def oz(H:Hp)(h:Heap):Prop:=∀a o,H a=some o->c7 P w H h a o
end
def c7.lt(x:c7 P w H h a o):a < h.objs.size:=by
 cases o with
 | lst xs=>let⟨_,_,_,_,e⟩:=x;exact zY e
 | tup xs=>let⟨_,_,_,p⟩:=x;exact p.1.lt
 | dK kvs=>let⟨_,_,_,_,o,_,_,e,_⟩:=x;exact zY e
 | dT kvs=>let⟨_,_,o,_,_,e,_⟩:=x;exact zY e
 | set S n=>let⟨o,_,_,_,e,_⟩:=x;exact zY e
 | ins C dx fs=>let⟨_,_,_,e,_⟩:=x;exact zY e
 | own y=>let⟨_,e⟩:=x;exact zY e
 | xd fs=>let⟨_,⟨_,_,_,e,_⟩,_⟩:=x;exact zY e
 | rng lo hi=>let⟨_,_,_,e⟩:=x;exact zY e
 | frz ob u=>let⟨e,_⟩:=x;exact zY e
 | tab q=>let⟨_,e,_⟩:=x;exact zY e
 | cod q=>let⟨_,_,_,_,e0,e,_⟩:=x;cases e0;exact zY e
 | met f y=>exact zY (show h.get? a=some _ from x)
 | ext φ=>let⟨_,⟨_,e⟩,_⟩:=x;exact zY e
def Paired.mapP:∀ {l₁:List α}{l₂:List β},Paired F l₁ l₂->(∀a b,F a b->G a b)->Paired G l₁ l₂
 | _,_,.nil,_=>.nil
 | _,_,.cons r t,f=>.cons (f _ _ r) (Paired.mapP t f)
def QX:HO->Prop
 | .tup _=>True
 | .cod _=>True
 | _=>False
def c7.stay(x:c7 P w H h a o)(k:∀b u,(b=a\/H b=some (.own a))->h.get? b=some u->h'.get? b=some u)
  (ho:∀b,H b=some (.own a)->H' b=some (.own a)) (ht:∀b u,H b=some u->QX u->H' b=some u):c7 P w H' h' a o:=by
 induction o with
 | lst xs=>let⟨z,its,n,r,e⟩:=x;exact⟨z,its,n,r,k _ _ (.inl rfl) e⟩
 | tup xs=>let⟨z,its,r,⟨ob,e,c⟩,o2,e2,d2⟩:=x;exact⟨z,its,r,⟨ob,k _ _ (.inl rfl) e,c⟩,o2,k _ _ (.inl rfl) e2,d2⟩
 | dK kvs=>let⟨z,y,vs,r,ob,es,ep,e,c⟩:=x;exact⟨z,y,vs,r,ob,es,ep,k _ _ (.inl rfl) e,c⟩
 | dT kvs =>
  let⟨z,y,ob,es,ep,e,c⟩:=x;exact⟨z,y,ob,es,ep,k _ _ (.inl rfl) e,c⟩
 | set S n=>let⟨ob,es,ep,t,e,c⟩:=x;exact⟨ob,es,ep,t,k _ _ (.inl rfl) e,c⟩
 | ins C dx fs =>
  let⟨d,z,ne,e,mA,⟨od,es,ep,e2,c⟩,r⟩:=x;exact⟨ho _ d,z,ne,k _ _ (.inl rfl) e,mA,⟨od,es,ep,k _ _ (.inr d) e2,c⟩,r⟩
 | own y=>let⟨ob,e⟩:=x;exact⟨ob,k _ _ (.inl rfl) e⟩
 | xd fs=>let⟨mA,⟨od,es,ep,e,c⟩,r⟩:=x;exact⟨mA,⟨od,es,ep,k _ _ (.inl rfl) e,c⟩,r⟩
 | rng lo hi=>let⟨t,u,v,e⟩:=x;exact⟨t,u,v,k _ _ (.inl rfl) e⟩
 | frz ob u ih=>let⟨e,q⟩:=x;exact⟨k _ _ (.inl rfl) e,ih q⟩
 | tab q=>let⟨ps,e,t,c⟩:=x;exact⟨ps,k a _ (.inl rfl) e,t,λpos v z=>let ⟨c0,z1,z2⟩:=c pos v z;⟨c0,z1,ht _ _ z2 trivial⟩⟩
 | cod q=>let⟨c,oc,vs,t,e0,e,r⟩:=x;cases e0;exact⟨_,oc,vs,t,rfl,k _ _ (.inl rfl) e,r⟩
 | met f y =>
  have e:h.get? a=some (W.methodObj (.ref f) (.ref y)):=x;show h'.get? a=some (W.methodObj (.ref f) (.ref y));exact k a _ (.inl rfl) e
 | ext φ=>let⟨p,⟨o,e⟩,st⟩:=x;exact⟨st _ _ p λo q=>k _ _ (.inl rfl) q,⟨o,k _ _ (.inl rfl) e⟩,st⟩
def oz.lt(x:oz P w H h)(e:H a=some o):a < h.objs.size:=(x a o e).lt
def oz.fresh(x:oz P w H h)(e:h.objs.size<=a):H a=none:=by
 cases q:H a with
 | none=>rfl
 | some u=>exact absurd (zP (x.lt q) e) (qE _)
def oz.kept(x:oz P w H h)(k:∀b u,h.get? b=some u->h'.get? b=some u):oz P w H h':=λa o e =>
 (x a o e).stay (λb u _ q=>k b u q) (λ_ q=>q) λ_ _ q _=>q
def oz.laid(x:oz P w H h)(k:∀b u,h.get? b=some u->h'.get? b=some u)(hp:h.objs.size<=a)(new:c7 P w (upd H a o) h' a o):oz P w (upd H a o) h':=λb u e=>by
 have hn:=x.fresh hp;by_cases hb:b=a
 ·subst hb;rw[aG] at e;cases e;exact new
 ·rw[ax hb] at e;exact (x b u e).stay (λc v _ q=>k c v q) (λc q=>by rw[ax (aF q hn)];exact q) λc xs q _=>by rw[ax (aF q hn)];exact q
def Rd(H:Hp)(a:Addr)(u:HO):Prop:=H a=some u\/∃o,H a=some (.frz o u)
def Rd.ok(r:Rd H a u)(x:oz P w H h):c7 P w H h a u:=by
 rcases r with r|⟨o,r⟩
 ·exact x a u r
 ·let⟨_,q⟩:=x a _ r;exact q
def Os:Option HO->Prop
 | some (.lst _)=>True
 | some (.dK _)=>True
 | some (.dT _)=>True
 | some (.set _ _)=>True
 | some (.ins _ _ _)=>True
 | some (.ext _)=>True
 | _=>False
def oz.write(ok:oz P w H h)(mu:Os (H x))(he:e=x\/H e=some (.own x))(k:∀b u,b≠e->h.get? b=some u->h'.get? b=some u)(heo:∃u,h'.get? e=some u)
  (new:c7 P w (upd H x o') h' x o'):oz P w (upd H x o') h':=λb u q=>by
 have nown:∀c y,H c=some (.own y)->c≠x:=λc y r z=>by subst z;rw[r] at mu;exact mu
 have ntup:∀c u,H c=some u->QX u->c≠x:=λc u r hr z=>by subst z;rw[r] at mu;cases u<;>first|exact mu|exact hr
 by_cases hb:b=x
 ·subst hb;rw[aG] at q;cases q;exact new
 ·rw[ax hb] at q;by_cases hbe:b=e
  ·have q':H b=some (.own x):=by
    rcases he with z|z
    ·exact absurd (hbe.trans z) hb
    ·rw[hbe];exact z
   rw[q] at q';cases q';let⟨v,hv⟩:=heo;exact⟨v,by rw[hbe];exact hv⟩
  ·refine (ok b u q).stay (λc v hc r=>k c v ?_ r) (λc r=>by rw[ax (nown c b r)];exact r) λc xs r hr=>by rw[ax (ntup c xs r hr)];exact r
   rcases hc with rfl|hc
   ·exact hbe
   ·rintro rfl;rcases he with z|z
    ·exact nown c b hc z
    ·rw[hc] at z;cases z;exact hb rfl
def Pv:HO->Prop
 | .tab _=>True
 | .cod _=>True
 | _=>False
def Pv.not_mut(h:Pv u):¬ Os (some u):=by cases u<;>first|exactλz=>z|exact h.elim
structure KI(H H':Hp)(h h':Heap):Prop where
 st:∀b u,H b=some u->Pv u->H' b=some u
 gr:∀b q ps,H b=some (.tab q)->h.get? b=some { cls:=.none,data:=.fields ps }->∃more:Array Value,h'.get? b=some { cls:=.none,data:=.fields (ps++more) }
def KI.kept(k:∀b u,(∃q,H b=some (.tab q))->h.get? b=some u->h'.get? b=some u)(st:∀b u,H b=some u->Pv u->H' b=some u):KI H H' h h' :=
 ⟨st,λb q ps e z=>⟨#[],by rw[Array.append_empty];exact k b _ ⟨q,e⟩ z⟩⟩
def KI.trans(a:KI H H1 h h1)(b:KI H1 H2 h1 h2):KI H H2 h h2 :=
 ⟨λc u q t=>b.st c u (a.st c u q t) t,λc q ps e z=>by
  let⟨m1,z1⟩:=a.gr c q ps e z;let⟨m2,z2⟩:=b.gr c q _ (a.st c _ e trivial) z1;exact⟨m1++m2,by rw[z2,Array.append_assoc]⟩⟩
structure Un(fs ex:List Addr)(H H':Hp)(h h':Heap):Prop where
 keep:∀b o,h.get? b=some o->H b=none->b∉fs->b∉ex->h'.get? b=some o
 slot:∀b o,h.get? b=some o->H b=none->b∈fs->b∉ex->∃sl,h'.get? b=some { o with slots:=sl }
 free:∀b o,h.get? b=some o->H b=none->b∉ex->H' b=none
 there:∀b o,h.get? b=some o->b∉ex->∃o',h'.get? b=some o'
 tups:∀b xs,H b=some (.tup xs)->H' b=some (.tup xs)
 frzs:∀b o u,H b=some (.frz o u)->H' b=some (.frz o u)
 tbls:KI H H' h h'
def Un.any(u:Un fs ex H H1 h h1)(q:h.get? b=some ob)(n:H b=none)(hx:b∉ex):∃sl,h1.get? b=some { ob with slots:=sl }:=by
 by_cases hb:b∈fs
 ·exact u.slot b ob q n hb hx
 ·exact⟨ob.slots,u.keep b ob q n hb hx⟩
def Un.kept(k:∀b u,h.get? b=some u->h'.get? b=some u):Un fs ex H H h h' :=
 ⟨λb ob q _ _ _=>k b ob q,λb ob q _ _ _=>⟨ob.slots,k b ob q⟩,λ_ _ _ n _=>n,λb ob q _=>⟨ob,k b ob q⟩,λ_ _ q=>q,λ_ _ _ q=>q,.kept (λb u _ e=>k b u e) λ_ _ e _=>e⟩
def Un.refl:Un fs ex H H h h:=Un.kept λ_ _ q=>q
def Un.laid(k:∀b u,h.get? b=some u->h'.get? b=some u)(hp:h.objs.size<=a)(hn:H a=none):Un fs ex H (upd H a o) h h' where
 keep:=λb u q _ _ _=>k b u q
 slot:=λb u q _ _ _=>⟨u.slots,k b u q⟩
 free:=λb u q n _=>by rw[ax (yR (zP (zY q) hp))];exact n
 there:=λb u q _=>⟨u,k b u q⟩
 tups:=λb xs q=>by rw[ax (aF q hn)];exact q
 frzs:=λb u xs q=>by rw[ax (aF q hn)];exact q
 tbls:=.kept (λb u _ e=>k b u e) λb u q _=>by rw[ax (aF q hn)];exact q
def Un.write(mu:Os (H x))(he:e=x\/H e=some (.own x))(k:∀b u,b≠e->h.get? b=some u->h'.get? b=some u)(heo:∃u,h'.get? e=some u):Un fs ex H (upd H x o) h h':=by
 have hx:∀b,H b=none->b≠x:=λb n z=>by subst z;rw[n] at mu;exact mu
 have hb:∀b,H b=none->b≠e:=λb n z=>by
  subst z;rcases he with r|r
  ·exact hx b n r
  ·rw[n] at r;cases r
 have hm:∀b u,H b=some u->¬ Os (some u)->b≠x:=λb u q nm z=>by subst z;rw[q] at mu;exact nm mu
 refine⟨λb u q n _ _=>k b u (hb b n) q,λb u q n _ _=>⟨u.slots,k b u (hb b n) q⟩,λb u q n _=>by rw[ax (hx b n)];exact n,λb u q _=>?_,
  λb xs q=>by rw[ax (hm b _ q λz=>z)];exact q,λb u xs q=>by rw[ax (hm b _ q λz=>z)];exact q,.kept (λb u z e=>k b u (λr=>by subst r;rcases he with r|r<;>first|(subst r;rcases z with ⟨q,z⟩;rw[z] at mu;exact mu)|(rcases z with ⟨q,z⟩;rw[z] at r;cases r)) e) λb u q nm=>by rw[ax (hm b _ q (nm.not_mut))];exact q⟩
 by_cases hbe:b=e
 ·subst hbe;exact heo
 ·exact⟨u,k b u hbe q⟩
def Pw(h:Heap)(H:Hp):List Addr:=(List.range h.objs.size).filter λa=>(H a).isSome
def uh(h:Heap)(H:Hp):Heap:=W.hideAll h (Pw h H)
def Co(h:Heap)(H:Hp):(uh h H).objs.size=h.objs.size:=W.hideAll_size _ _
def FB(e:h.get? b=some o)(n:H b=none):(uh h H).get? b=some o :=
 W.hideAll_get _ e λhm=>by
  have q:(H b).isSome=true:=(List.mem_filter.mp hm).2;rw[n] at q;simp at q
def Kl(e:(uh h H).get? b=some o):h.get? b=some o/\H b=none:=by
 have e':h.get? b=some o:=W.of_hideAll (Pw h H) e;refine⟨e',?_⟩;cases q:H b with
 | none=>rfl
 | some x =>
  have hm:b∈Pw h H:=List.mem_filter.mpr ⟨List.mem_range.mpr (zY e'),by simp[q]⟩;have z:(uh h H).get? b=none:=W.hideAll_none (Pw h H) hm;rw[z] at e;cases e
def Pu(mg:Str->Option Value)(base:Heap):Prop:=∃bm o,mg "__builtins__"=some (.ref bm)/\bm≠builtinsNs/\bm≠mainGlobals/\base.get? bm=some o/\o.cls=.type "module"/\o.dict=some builtinsNs/\o.data=.plain
structure Mod(K:W.Frag)(mg:Str->Option Value)(base:Heap):Prop where
 kin:K.In base
 glob:base.Ns mainGlobals mg
 blt:∃mb,base.Ns builtinsNs mb/\∀x:Str,x≠"__name__"->mb x=bootBuiltins x
 nolimit:base.NoLimit
 bmd:Pu mg base
structure Cx where
 prog:Program
 w:World
 K:W.Frag
 mg:Str->Option Value
 base:Heap
 A:Around
 N:List Str
 s₀:Shared
 H₀:Hp
 env:Env
 outer:List Env
 stack:List Env
 ex:List Addr
 fn:Str->Bool
 calm:Bool
 pn:List (Addr×Obj)
 xe:Value->Shared->Prop
def EM(l:List Env):List Addr:=l.filterMap (·.frame)
abbrev Cx.fs(X:Cx):List Addr:=EM X.outer
def AV(sc:Scope)(x:Str):Prop:=sc.names.lookup x=some .local \/ sc.names.lookup x=some .cell\/sc.names.lookup x=some .free
def Loc(sc:Scope)(x:Str):Prop:=sc.names.lookup x=some .local \/ sc.names.lookup x=some .cell
def Look(env:Env)(h:Heap)(m:Str->Option Value)(x:Str)(u:Value):Prop :=
 (env.kindOf x=some .local /\ m x=some u)\/((env.kindOf x=some .cell\/env.kindOf x=some .free)/\∃c,env.cells.lookup x=some c/\h.IsCell c (some u))
structure Cx.Ok(X:Cx):Prop where
 mod:Mod X.K X.mg X.base
 kind:X.env.scope.kind=.function
 glob:X.env.globals=mainGlobals
 blt:X.env.builtins=builtinsNs
 above:X.s₀.heap.objs.size<=X.env.locals
 inj:∀x y c,X.env.cells.lookup x=some c->X.env.cells.lookup y=some c->x=y
 has:∀x,(X.env.kindOf x=some .cell\/X.env.kindOf x=some .free)->∃c,X.env.cells.lookup x=some c
 cab:∀x c,X.fn x=true->X.env.cells.lookup x=some c->X.s₀.heap.objs.size<=c
 hd:X.calm=true->X.A.handled=none
 frames:X.A.frames=some X.stack
 stk:X.stack=X.outer\/(X.stack=X.env::X.outer/\X.env.frame=some X.env.locals)
 exf:∀b∈X.ex,b≠X.env.locals/\∀x c,X.env.cells.lookup x=some c->c≠b
 bs:∀b o,X.base.get? b=some o->X.s₀.heap.get? b=some o/\X.H₀ b=none
 bsz:X.base.objs.size<=X.s₀.heap.objs.size
 noex:∀b o,X.base.get? b=some o->b∉X.ex
 exfs:∀b∈X.ex,b∉X.fs
 funs:X.s₀.heap.FunFrames X.base X.outer
 frf:∀b∈X.fs,X.H₀ b=none
structure Inv(X:Cx)(pins:List (Addr×Obj))(σ:List (Option V))(H:Hp)(s:Shared):Prop where
 ok:X.Ok
 os:s.os=X.s₀.os
 bare:AllBare s.gens
 base:Un X.fs X.ex X.H₀ H X.s₀.heap s.heap
 loc:∃m,s.heap.Ns X.env.locals m/\∀ (i:Nat) (x:Str) (v:V),X.N[i]?=some x->σ[i]?=some (some v)->AV X.env.scope x->∃u,RelV v u/\Look X.env s.heap m x u
 cell:∀x c,X.env.cells.lookup x=some c->∃v,s.heap.IsCell c v
 free:H X.env.locals=none
 freeC:∀x c,X.env.cells.lookup x=some c->H c=none
 pin:∀p∈X.pn++pins,s.heap.get? p.1=some p.2/\H p.1=none/\p.1≠X.env.locals/\p.1∉X.fs/\∀v,p.2.data≠.cell v
 hok:oz X.prog X.w H s.heap
 len:σ.length=X.N.length
def Cx.Ok.nofr{X:Cx}(ok:X.Ok)(e:X.base.get? b=some o):b∉X.fs:=λhb=>by
 have:=(ok.funs.mem hb).1;rw[e] at this;cases this
def Inv.bs{X:Cx}{s:Shared}(I:Inv X pins σ H s):∀b o,X.base.get? b=some o->s.heap.get? b=some o/\H b=none:=λb o e =>
 ⟨I.base.keep b o (I.ok.bs b o e).1 (I.ok.bs b o e).2 (I.ok.nofr e) (I.ok.noex b o e),I.base.free b o (I.ok.bs b o e).1 (I.ok.bs b o e).2 (I.ok.noex b o e)⟩
def Inv.bk(I:Inv X pins σ H s):∀b o,X.base.get? b=some o->s.heap.get? b=some o:=λb o e=>(I.bs b o e).1
def Inv.mod(I:Inv X pins σ H s):Mod X.K X.mg X.base:=I.ok.mod
def Inv.kIn(I:Inv X pins σ H s):X.K.In s.heap:=I.ok.mod.kin.keeps I.bk
def Inv.nolimit(I:Inv X pins σ H s):s.heap.NoLimit:=I.ok.mod.nolimit.keeps I.bk
def Inv.lt(I:Inv X pins σ H s):X.env.locals < s.heap.objs.size:=let ⟨_,hn,_⟩:=I.loc;hn.lt
def Inv.sz(I:Inv X pins σ H s):X.s₀.heap.objs.size<=s.heap.objs.size:=yD I.ok.above (jS I.lt)
def Inv.nofs(I:Inv X pins σ H s)(h:s.heap.objs.size<=a):a∉X.fs:=λhb=>by
 let⟨_,o,ho,_⟩:=I.ok.funs.mem hb;exact absurd (zP (zY ho) (yD I.sz h)) (qE _)
def Inv.cne(I:Inv X pins σ H s):∀x c,X.env.cells.lookup x=some c->c≠X.env.locals:=λx c e z=>by
 let⟨v,o,ho,hd⟩:=I.cell x c e;let⟨m,⟨o',es,ep,ho',hd',_⟩,_⟩:=I.loc;rw[z,ho'] at ho;cases ho;rw[hd'] at hd;cases hd
def Inv.funs(I:Inv X pins σ H s):s.heap.FunFrames X.base X.outer:=by
 have all:∀ (l:List Env),(∀b∈EM l,b∈X.fs)->X.s₀.heap.FunFrames X.base l->s.heap.FunFrames X.base l:=by
  intro l
  induction l with
  | nil=>intro _ _;trivial
  | cons env r ih =>
   intro hs hl;let⟨hk,⟨L,o,hf,hn,ho,hd⟩,hr⟩:=hl;have hL:L∈X.fs:=hs L (by unfold EM;rw[jG,hf];exact zE);let⟨sl,e⟩:=I.base.slot L o ho (I.ok.frf L hL) hL λz=>I.ok.exfs L z hL;exact⟨hk,⟨L,_,hf,hn,e,hd⟩,ih (λb hb=>hs b (by unfold EM;rw[jG,hf];exact zC _ hb)) hr⟩
 exact all X.outer (λ_ hb=>hb) I.ok.funs
def Inv.stack(I:Inv X pins σ H s):s.heap.FunFrames X.base X.stack:=by
 rcases I.ok.stk with e|⟨e,hf⟩
 ·rw[e];exact I.funs
 ·rw[e];let⟨m,hn,_⟩:=I.loc;refine .cons (by rw[I.ok.kind];decide) hf hn ?_ I.funs;exact Heap.get?_none_of_le (yD I.ok.bsz I.ok.above)
def Inv.stkSub(I:Inv X pins σ H s):∀b∈EM X.stack,b∈X.env.locals::X.fs:=λb hb=>by
 rcases I.ok.stk with e|⟨e,hf⟩
 ·rw[e] at hb;exact zC _ hb
 ·rw[e] at hb;unfold EM at hb;rw[jG,hf] at hb;exact hb
def Inv.stkFree(I:Inv X pins σ H s):∀b∈EM X.stack,H b=none:=λb hb=>by
 rcases List.mem_cons.mp (I.stkSub b hb) with e|hb
 ·rw[e];exact I.free
 ·let⟨_,o,ho,_⟩:=I.ok.funs.mem hb;exact I.base.free b o ho (I.ok.frf b hb) λz=>I.ok.exfs b z hb
def Inv.step{g':Array GenState}{t':Nat}{d':Drawn}{ch:List Addr}(I:Inv X pins σ H s)
  (hch:∀b∈ch,(b∈X.ex\/X.s₀.heap.objs.size<=b)/\b≠X.env.locals/\(∀x c,X.env.cells.lookup x=some c->c≠b)/\∀p∈X.pn++pins,p.1≠b)
  (keep:∀b o,b≠X.env.locals->b∉X.fs->b∉ch->s.heap.get? b=some o->H b=none->h'.get? b=some o)
  (slot:∀b o,b≠X.env.locals->b∈X.fs->b∉ch->s.heap.get? b=some o->H b=none->∃sl,h'.get? b=some { o with slots:=sl }) (free:∀b o,b∉ch->s.heap.get? b=some o->H b=none->H' b=none)
  (there:∀b o,b∉ch->s.heap.get? b=some o->∃o',h'.get? b=some o')
  (tups:∀b xs,H b=some (.tup xs)->H' b=some (.tup xs)) (frzs:∀b o u,H b=some (.frz o u)->H' b=some (.frz o u)) (tbls:KI H H' s.heap h')
  (ns:∀m,s.heap.Ns X.env.locals m->h'.Ns X.env.locals m) (hok:oz X.prog X.w H' h') (hg:AllBare g') :
  Inv X pins σ H' { s with heap:=h',gens:=g',drawn:=d',toks:=t' }:=by
 have neL:∀b o,X.s₀.heap.get? b=some o->b≠X.env.locals:=λb o e=>yR (zP (zY e) I.ok.above);have neC:∀b o,X.s₀.heap.get? b=some o->b∉X.ex->b∉ch:=λb o e hx hb=>by
  rcases (hch b hb).1 with z|z
  ·exact hx z
  ·exact absurd (zP (zY e) z) (qE _)
 have cellK:∀x c,X.env.cells.lookup x=some c->∀v,s.heap.IsCell c v->h'.IsCell c v:=λx c e v ⟨o,ho,hd⟩=>by
  have nch:c∉ch:=λz=>(hch c z).2.2.1 x c e rfl;by_cases hc:c∈X.fs
  ·let⟨sl,q⟩:=slot c o (I.cne x c e) hc nch ho (I.freeC x c e);exact⟨_,q,hd⟩
  ·exact⟨o,keep c o (I.cne x c e) hc nch ho (I.freeC x c e),hd⟩
 refine⟨I.ok,I.os,hg,⟨λb o e n hb hx=>?_,λb o e n hb hx=>?_,λb o e n hx=>?_,λb o e hx=>?_,λb xs e=>tups b xs (I.base.tups b xs e),λb o xs e=>frzs b o xs (I.base.frzs b o xs e),I.base.tbls.trans tbls⟩,?_,λx c e=>?_,?_,λx c e=>?_,λp hp=>?_,hok,I.len⟩
 ·exact keep b o (neL b o e) hb (neC b o e hx) (I.base.keep b o e n hb hx) (I.base.free b o e n hx)
 ·let⟨sl,e1⟩:=I.base.slot b o e n hb hx;let⟨sl',e2⟩:=slot b _ (neL b o e) hb (neC b o e hx) e1 (I.base.free b o e n hx);exact⟨sl',e2⟩
 ·let⟨o',e1⟩:=I.base.there b o e hx;exact free b o' (neC b o e hx) e1 (I.base.free b o e n hx)
 ·let⟨o',e1⟩:=I.base.there b o e hx;exact there b o' (neC b o e hx) e1
 ·let⟨m,hn,hl⟩:=I.loc;refine⟨m,ns m hn,λi x v e1 e2 e3=>?_⟩;let⟨u,r,l⟩:=hl i x v e1 e2 e3;refine⟨u,r,?_⟩;rcases l with l|⟨k,c,e,z⟩
  ·exact .inl l
  ·exact .inr ⟨k,c,e,cellK x c e _ z⟩
 ·let⟨v,z⟩:=I.cell x c e;exact⟨v,cellK x c e v z⟩
 ·let⟨m,⟨o,_,_,ho,_⟩,_⟩:=I.loc;exact free _ o (λz=>(hch _ z).2.1 rfl) ho I.free
 ·let⟨v,o,ho,hd⟩:=I.cell x c e;exact free c o (λz=>(hch c z).2.2.1 x c e rfl) ho (I.freeC x c e)
 ·let⟨e,n,ne,nf,d⟩:=I.pin p hp;have nch:p.1∉ch:=λz=>(hch p.1 z).2.2.2 p hp rfl;exact⟨keep p.1 p.2 ne nf nch e n,free p.1 p.2 nch e n,ne,nf,d⟩
def Inv.un{t':Nat}(I:Inv X pins σ H s)(u:Un X.fs [] H H' s.heap h')(hok:oz X.prog X.w H' h'):Inv X pins σ H' { s with heap:=h',toks:=t' }:=by
 let⟨m,⟨o,es,ep,ho,r⟩,_⟩:=id I.loc;let⟨sl,hL⟩:=u.any ho I.free (by simp);exact I.step (g':=s.gens) (d':=s.drawn) (ch:=[]) (λ_ z=>nomatch z) (λb o _ hb _ e n=>u.keep b o e n hb (by simp)) (λb o _ hb _ e n=>u.slot b o e n hb (by simp)) (λb o _ e n=>u.free b o e n (by simp)) (λb o _ e=>u.there b o e (by simp)) u.tups u.frzs u.tbls (λm' hm=>by
  let⟨o',es',ep',ho',r'⟩:=hm;rw[ho] at ho';cases ho';exact⟨_,es',ep',hL,r'⟩) hok I.bare
def Inv.call{t':Nat}{d':Drawn}{ch:List Addr}(I:Inv X pins σ H s)(u:Un (EM X.stack) ch H H' s.heap h')(hok:oz X.prog X.w H' h')(hg:AllBare g')
  (hch:∀b∈ch,(b∈X.ex\/X.s₀.heap.objs.size<=b)/\b≠X.env.locals/\(∀x c,X.env.cells.lookup x=some c->c≠b)/\∀p∈X.pn++pins,p.1≠b) :
  Inv X pins σ H' { s with heap:=h',gens:=g',drawn:=d',toks:=t' }:=by
 let⟨m,⟨o,es,ep,ho,r⟩,_⟩:=id I.loc;let⟨sl,hL⟩:=u.any ho I.free λz=>(hch _ z).2.1 rfl;exact I.step (ch:=ch) hch (λb o hL hb hc e n=>u.keep b o e n (λz=>(List.mem_cons.mp (I.stkSub b z)).elim hL hb) hc) (λb o _ _ hc e n=>u.any e n hc) (λb o hc e n=>u.free b o e n hc) (λb o hc e=>u.there b o e hc) u.tups u.frzs u.tbls (λm' hm=>by
  let⟨o',es',ep',ho',r'⟩:=hm;rw[ho] at ho';cases ho';exact⟨_,es',ep',hL,r'⟩) hok hg
def Inv.turned{t':Nat}(I:Inv X pins σ H s)(k:∀b o,b≠it->s.heap.get? b=some o->h'.get? b=some o)(hn:H it=none)(hL:it≠X.env.locals)
  (h1:it∈X.ex\/X.s₀.heap.objs.size<=it) (h2:∀x c,X.env.cells.lookup x=some c->c≠it) (h3:∀p∈X.pn++pins,p.1≠it):Inv X pins σ H { s with heap:=h',toks:=t' }:=by
 have nit:∀b u,H b=some u->b≠it:=λb u e z=>by rw[z,hn] at e;cases e
 refine I.step (g':=s.gens) (d':=s.drawn) (ch:=[it]) (λb hb=>?_) (λb o _ _ hc e _=>k b o (λz=>hc (by simp[z])) e) (λb o _ _ hc e _=>⟨o.slots,k b o (λz=>hc (by simp[z])) e⟩) (λ_ _ _ _ n=>n)
  (λb o hc e=>⟨o,k b o (λz=>hc (by simp[z])) e⟩) (λ_ _ e=>e) (λ_ _ _ e=>e) (.kept (λb u z e=>k b u (λr=>by subst r;rcases z with ⟨q,z⟩;rw[hn] at z;cases z) e) λ_ _ e _=>e) (λm hm=>?_) (λb u e=>?_) I.bare
 ·have e:b=it:=by simpa using hb
  subst e;exact⟨h1,hL,h2,h3⟩
 ·let⟨o,es,ep,ho,r⟩:=hm;exact⟨o,es,ep,k _ o (jM hL) ho,r⟩
 ·refine (I.hok b u e).stay (λc v hc q=>k c v ?_ q) (λ_ q=>q) λ_ _ q _=>q;rcases hc with z|z
  ·rw[z];exact nit b u e
  ·exact nit c _ z
def Inv.tok(I:Inv X pins σ H s)(t:Nat):Inv X pins σ H { s with toks:=t }:=I.un (h':=s.heap) (t':=t) Un.refl I.hok
def Inv.kept{t':Nat}(I:Inv X pins σ H s)(k:∀b u,s.heap.get? b=some u->h'.get? b=some u):Inv X pins σ H { s with heap:=h',toks:=t' }:=I.un (Un.kept k) (I.hok.kept k)
def Inv.laid{t':Nat}(I:Inv X pins σ H s)(k:∀b u,s.heap.get? b=some u->h'.get? b=some u)(hp:s.heap.objs.size<=a)(new:c7 X.prog X.w (upd H a o) h' a o) :
  Inv X pins σ (upd H a o) { s with heap:=h',toks:=t' }:=I.un (Un.laid k hp (I.hok.fresh hp)) (I.hok.laid k hp new)
def Inv.write{t':Nat}(I:Inv X pins σ H s)(mu:Os (H x))(he:e=x\/H e=some (.own x))(k:∀b u,b≠e->s.heap.get? b=some u->h'.get? b=some u)(heo:∃u,h'.get? e=some u)
  (new:c7 X.prog X.w (upd H x o) h' x o):Inv X pins σ (upd H x o) { s with heap:=h',toks:=t' }:=I.un (Un.write mu he k heo) (I.hok.write mu he k heo new)
def Inv.pins_of(I:Inv X pins σ H s)(h:∀p∈pins',s.heap.get? p.1=some p.2/\H p.1=none/\p.1≠X.env.locals/\p.1∉X.fs/\∀v,p.2.data≠.cell v):Inv X pins' σ H s :=
 ⟨I.ok,I.os,I.bare,I.base,I.loc,I.cell,I.free,I.freeC,λp hp=>(List.mem_append.mp hp).elim (λz=>I.pin p (qJ _ z)) (h p),I.hok,I.len⟩
def vc{N:List Str}(hN:N.Nodup){i j:Nat}(a:N[i]?=some x)(b:N[j]?=some x):i=j:=by
 let⟨h1,e1⟩:=List.getElem?_eq_some_iff.mp a;let⟨h2,e2⟩:=List.getElem?_eq_some_iff.mp b;exact (List.getElem_inj hN).mp (e1.trans e2.symm)
def sr{M:Model}{A:Around}{E:Value->Shared->Prop}{i:Nat}{Q:Unit->Shared->Prop}(I:Inv X pins σ H s)(hN:X.N.Nodup)(hi:X.N[i]?=some x)(hx:Loc X.env.scope x)(r:RelV v u)
  (h:∀s',Inv X pins (σ.set i (some v)) H s'->(∃a,Heap.SameBut a s.heap s'.heap/\(a=X.env.locals\/X.env.cells.lookup x=some a))->Q () s') (hf:X.fn x=true\/X.env.scope.names.lookup x=some .local:=by first|exact .inl rfl|exact .inr rfl|assumption):wpAny M A (storeName X.env x u) Q E s:=by
 let⟨m,hn,hl⟩:=id I.loc;have hcls:(X.env.scope.kind == .class||(X.env.scope.kind == .module&&X.env.locals != X.env.globals))=false:=by rw[I.ok.kind];rfl
 have hiσ:i < σ.length:=by rw[I.len];exact (List.getElem?_eq_some_iff.mp hi).1
 have cne:=I.cne;have tracked:∀ {a:Addr}{h':Heap},(∃o,s.heap.get? a=some o/\H a=none)->Heap.SameBut a s.heap h'->oz X.prog X.w H h':=λ{a h'} ha hs b ob e=>by
  let⟨_,_,hfree⟩:=ha;refine (I.hok b ob e).stay (λc w' hc q=>(hs.2 c ?_).trans q) (λ_ q=>q) λ_ _ q _=>q;rintro rfl;rcases hc with rfl|hc
  ·rw[hfree] at e;cases e
  ·rw[hfree] at hc;cases hc
 rcases hx with hk|hk
 ·refine wpAny_storeName_local hk hn (λh' hn' hs=>?_) hcls;let⟨oL,_,_,hoL,_⟩:=id hn;refine h _ ⟨I.ok,I.os,I.bare,⟨λb o e n hb hx=>?_,λb o e n hb hx=>?_,I.base.free,λb o e hx=>?_,I.base.tups,I.base.frzs,I.base.tbls.trans (.kept (λb u z e=>(hs.2 b (λr=>by rcases z with ⟨q,z⟩;rw[r,I.free] at z;cases z)).trans e) λ_ _ e _=>e)⟩,⟨_,hn',λj y v' e1 e2 e3=>?_⟩,λy c e=>?_,I.free,I.freeC,λp hp=>?_,tracked ⟨oL,hoL,I.free⟩ hs,by simpa using I.len⟩ ⟨_,hs,.inl rfl⟩
  ·exact (hs.2 b (yR (zP (zY e) I.ok.above))).trans (I.base.keep b o e n hb hx)
  ·let⟨sl,e1⟩:=I.base.slot b o e n hb hx;exact⟨sl,(hs.2 b (yR (zP (zY e) I.ok.above))).trans e1⟩
  ·let⟨o',e1⟩:=I.base.there b o e hx;exact⟨o',(hs.2 b (yR (zP (zY e) I.ok.above))).trans e1⟩
  ·by_cases hj:j=i
   ·subst hj;rw[hi] at e1;cases e1;rw[vK hiσ] at e2;cases e2;exact⟨u,r,.inl ⟨hk,by simp⟩⟩
   ·rw[kO (jM hj)] at e2;let⟨u',r',q⟩:=hl j y v' e1 e2 e3;refine⟨u',r',?_⟩;rcases q with ⟨k,e⟩|⟨k,c,e,z⟩
    ·refine .inl ⟨k,?_⟩;have:y≠x:=λe=>hj (vc hN e1 (e ▸ hi));simp[this,e]
    ·exact .inr ⟨k,c,e,z.sameBut hs (cne y c e)⟩
  ·let⟨w',z⟩:=I.cell y c e;exact⟨w',z.sameBut hs (cne y c e)⟩
  ·let⟨e,n,ne,nf,d⟩:=I.pin p hp;exact⟨(hs.2 p.1 ne).trans e,n,ne,nf,d⟩
 ·have hfn:X.fn x=true:=by
   rcases hf with z|z
   ·exact z
   ·rw[z] at hk;cases hk
  let⟨c,hc⟩:=I.ok.has x (.inl hk);let⟨w',z⟩:=I.cell x c hc;refine wpAny_storeName_cell I.ok.kind hk hc z (λh' hc' hs=>?_);let⟨oc,hoc,hocd⟩:=id z;refine h { s with heap:=h' } ⟨I.ok,I.os,I.bare,⟨λb o e n hb hx=>?_,λb o e n hb hx=>?_,I.base.free,λb o e hx=>?_,I.base.tups,I.base.frzs,I.base.tbls.trans (.kept (λb u z e=>(hs.2 b (λr=>by rcases z with ⟨q,z⟩;rw[r,I.freeC x c hc] at z;cases z)).trans e) λ_ _ e _=>e)⟩,⟨m,hn.sameBut hs (jM (cne x c hc)),λj y v' e1 e2 e3=>?_⟩,λy c' e=>?_,I.free,I.freeC,λp hp=>?_,tracked ⟨oc,hoc,I.freeC x c hc⟩ hs,by simpa using I.len⟩ ⟨c,hs,.inr hc⟩
  ·exact (hs.2 b (yR (zP (zY e) (I.ok.cab x c hfn hc)))).trans (I.base.keep b o e n hb hx)
  ·let⟨sl,e1⟩:=I.base.slot b o e n hb hx;exact⟨sl,(hs.2 b (yR (zP (zY e) (I.ok.cab x c hfn hc)))).trans e1⟩
  ·let⟨o',e1⟩:=I.base.there b o e hx;exact⟨o',(hs.2 b (yR (zP (zY e) (I.ok.cab x c hfn hc)))).trans e1⟩
  ·by_cases hj:j=i
   ·subst hj;rw[hi] at e1;cases e1;rw[vK hiσ] at e2;cases e2;exact⟨u,r,.inr ⟨.inl hk,c,hc,hc'⟩⟩
   ·rw[kO (jM hj)] at e2;let⟨u',r',q⟩:=hl j y v' e1 e2 e3;refine⟨u',r',?_⟩;rcases q with q|⟨k,c',e,z'⟩
    ·exact .inl q
    ·refine .inr ⟨k,c',e,z'.sameBut hs ?_⟩;rintro rfl;exact hj (vc hN e1 (I.ok.inj _ _ _ e hc ▸ hi))
  ·by_cases hcc:c'=c
   ·subst hcc;exact⟨_,hc'⟩
   ·let⟨w2,z2⟩:=I.cell y c' e;exact⟨w2,z2.sameBut hs hcc⟩
  ·let⟨e,n,ne,nf,d⟩:=I.pin p hp;refine⟨(hs.2 p.1 ?_).trans e,n,ne,nf,d⟩;intro q;rw[q,hoc] at e;have q':oc=p.2:=xD e;exact d w' (by rw[<- q'];exact hocd)
def wX{M:Model}{A:Around}{E:Value->Shared->Prop}(I:Inv X pins σ H s)(hN:X.N.Nodup)(hi:X.N[i]?=some x)(hx:Loc X.env.scope x)(r:RelV v u)
  (h:∀s',Inv X pins (σ.set i (some v)) H s'->Q () s') (hf:X.fn x=true\/X.env.scope.names.lookup x=some .local:=by first|exact .inl rfl|exact .inr rfl|assumption):wpAny M A (storeName X.env x u) Q E s :=
 sr I hN hi hx r (λs' I' _=>h s' I') hf
def Inv.call'{ch:List Addr}(I:Inv X pins σ H s)(ho:s'.os=s.os)(u:Un (EM X.stack) ch H H' s.heap s'.heap)(hok:oz X.prog X.w H' s'.heap)(hg:AllBare s'.gens)
  (hch:∀b∈ch,(b∈X.ex\/X.s₀.heap.objs.size<=b)/\b≠X.env.locals/\(∀x c,X.env.cells.lookup x=some c->c≠b)/\∀p∈X.pn++pins,p.1≠b):Inv X pins σ H' s':=by
 let⟨h',g',d',t',o'⟩:=s';have e:o'=s.os:=ho;subst e;exact I.call (g':=g') (t':=t') (d':=d') u hok hg hch
abbrev XK:=Value->Option Addr->Hp->Prop
abbrev St:=List (Option V)
abbrev VK:=V->Hp->Prop
abbrev TE:=St->Hp->VK->Prop
abbrev TT:=St->Hp->(Bool->Hp->Prop)->Prop
abbrev TA:=St->Hp->(List V->Hp->Prop)->Prop
structure Ends where
 nx:St->Hp->Prop
 rt:VK
 bk:St->Hp->Prop:=λ_ _=>False
 ct:St->Hp->Prop:=λ_ _=>False
abbrev TS:=Ends->St->Hp->Prop
def EP(X:Cx)(pins:List (Addr×Obj))(σ:St)(Q:VK)(u:Value)(s':Shared):Prop:=∃v H',Inv X pins σ H' s'/\RelV v u/\Q v H'
def TP(X:Cx)(pins:List (Addr×Obj))(σ:St)(Q:Bool->Hp->Prop)(b:Bool)(s':Shared):Prop:=∃H',Inv X pins σ H' s'/\Q b H'
def AP(X:Cx)(pins:List (Addr×Obj))(σ:St)(Q:List V->Hp->Prop)(us:List Value)(s':Shared):Prop:=∃vs H',Inv X pins σ H' s'/\aH vs us/\Q vs H'
def SP(X:Cx)(pins:List (Addr×Obj))(D:Ends)(f:Flow)(s':Shared):Prop :=
 match f with
 | .next=>∃σ' H',Inv X pins σ' H' s'/\D.nx σ' H'
 | .brk=>∃σ' H',Inv X pins σ' H' s'/\D.bk σ' H'
 | .cont=>∃σ' H',Inv X pins σ' H' s'/\D.ct σ' H'
 | .ret u=>∃v σ' H',Inv X pins σ' H' s'/\RelV v u/\D.rt v H'
def PE(X:Cx)(e:Expr)(t:TE):Prop :=
 ∀ (pins:List (Addr×Obj)) (s:Shared) (σ:St) (H:Hp) (Q:VK),Inv X pins σ H s->t σ H Q->wpAny (model X.prog X.w) X.A (eval e X.env) (EP X pins σ Q) X.xe s
def PT(X:Cx)(e:Expr)(t:TT):Prop :=
 ∀ (pins:List (Addr×Obj)) (s:Shared) (σ:St) (H:Hp) (Q:Bool->Hp->Prop),Inv X pins σ H s->t σ H Q->wpAny (model X.prog X.w) X.A (isTrue e X.env (eval e X.env)) (TP X pins σ Q) X.xe s
def PW(X:Cx)(e:Expr)(t:TT):Prop :=
 ∀ (whole:Sem Value) (pins:List (Addr×Obj)) (s:Shared) (σ:St) (H:Hp) (Q:Bool->Hp->Prop),Inv X pins σ H s->t σ H Q->wpAny (model X.prog X.w) X.A (isTrue e X.env whole) (TP X pins σ Q) X.xe s
def PW.pt(h:PW X e t):PT X e t:=h _
def PA(X:Cx)(es:List Expr)(t:TA):Prop :=
 ∀ (pos:Pos) (pins:List (Addr×Obj)) (s:Shared) (σ:St) (H:Hp) (Q:List V->Hp->Prop),Inv X pins σ H s->t σ H Q->wpAny (model X.prog X.w) X.A (spliced (backTo pos (starEach es X.env))) (AP X pins σ Q) X.xe s
def PS(X:Cx)(st:Stmt)(t:TS):Prop :=
 ∀ (pins:List (Addr×Obj)) (s:Shared) (σ:St) (H:Hp) (D:Ends),Inv X pins σ H s->t D σ H->wpAny (model X.prog X.w) X.A (exec st X.env) (SP X pins D) X.xe s
def As(X:Cx)(st:List Stmt)(t:TS):Prop :=
 ∀ (pins:List (Addr×Obj)) (s:Shared) (σ:St) (H:Hp) (D:Ends),Inv X pins σ H s->t D σ H->wpAny (model X.prog X.w) X.A (execs st X.env) (SP X pins D) X.xe s
def bR(h:wpAny M A t Q E s)(hQ:∀a s,Q a s->Q' a s):wpAny M A t Q' E s:=xA h hQ λ_ _ x=>x
section
def QA(i:Nat):TE:=λσ H Q=>∃v,σ[i]?=some (some v)/\Q v H
def tC(v:V):TE:=λ_ H Q=>Q v H
def fF(hN:X.N[i]?=some x)(hv:AV X.env.scope x)(hd:(x == ("__debug__":Str))=false:=by decide)(hcd:(x == ("__classdict__":Str))=false:=by decide):PE X (.Name x pos) (QA i):=by
 intro pins s σ H Q I h;let⟨v,e,h⟩:=h;let⟨m,hn,hl⟩:=I.loc;let⟨u,r,l⟩:=hl i x v hN e hv;have fin:EP X pins σ Q u s:=⟨v,H,I,r,h⟩
 rcases l with ⟨hk,hm⟩|⟨hk,c,hc,hcell⟩
 ·exact wpAny_Name (wpAny_loadName_local I.ok.kind hk hn hm fin) hd
 ·rcases hk with hk|hk
  ·exact wpAny_Name (wpAny_loadName_cell I.ok.kind hk hc hcell fin) hd
  ·exact wpAny_Name (wpAny_loadName_free I.ok.kind hk hc hcell fin hcd) hd
def Ay{i j pos}:PE X (.Constant (.int i) j pos) (tC (.int i)):=λ_ _ _ H _ I h=>wpAny_Constant_int ⟨.int i,H,I.tok _,⟨_,rfl⟩,h⟩
def OP{b j pos}:PE X (.Constant (.bool b) j pos) (tC (.bl b)):=λ_ _ _ H _ I h=>Constant_bool ⟨.bl b,H,I,rfl,h⟩
def MG{j pos}:PE X (.Constant .none j pos) (tC .non):=λ_ _ _ H _ I h=>Constant_none ⟨.non,H,I,rfl,h⟩
def Mo{x j pos}:PE X (.Constant (.str x) j pos) (tC (.str x)):=λ_ _ _ H _ I h=>Calls.Constant_str ⟨.str x,H,I.tok _,⟨_,rfl⟩,h⟩
def Gl(X:Cx)(x:Str):Prop:=X.env.kindOf x=some .globalImplicit
def Cm{E:Value->Shared->Prop}{pos:Pos}(I:Inv X pins σ H s)(hg:Gl X x)(hm:X.mg x=some u)(h:Q u s)
  (hd:(x == ("__debug__":Str))=false:=by decide):wpAny (model X.prog X.w) X.A (eval (.Name x pos) X.env) Q E s :=
 Calls.Name_function_global I.ok.kind hg (Calls.loadGlobal_global (by rw[I.ok.glob];exact I.mod.glob.keeps I.bk) hm h) hd
def gE{E:Value->Shared->Prop}{pos:Pos}(I:Inv X pins σ H s)(hg:Gl X x)(hm:X.mg x=none)(hv:bootBuiltins x=some u)(h:Q u s)
  (hn:x≠"__name__":=by decide) (hd:(x == ("__debug__":Str))=false:=by decide):wpAny (model X.prog X.w) X.A (eval (.Name x pos) X.env) Q E s:=by
 let⟨mb,h1,h2⟩:=I.mod.blt;exact Calls.Name_function_global I.ok.kind hg (Calls.loadGlobal_builtin (by rw[I.ok.glob];exact I.mod.glob.keeps I.bk) hm (by rw[I.ok.blt];exact h1.keeps I.bk) ((h2 x hn).trans hv) h) hd
def BV(hg:Gl X x)(hm:X.mg x=some u)(r:RelV v u)(hd:(x == ("__debug__":Str))=false:=by decide):PE X (.Name x pos) (tC v) :=
 λ_ _ _ H _ I h=>Cm I hg hm ⟨v,H,I,r,h⟩ hd
def IU(hg:Gl X x)(hm:X.mg x=none)(hv:bootBuiltins x=some u)(r:RelV v u)(hn:x≠"__name__":=by decide)(hd:(x == ("__debug__":Str))=false:=by decide):PE X (.Name x pos) (tC v) :=
 λ_ _ _ H _ I h=>gE I hg hm hv ⟨v,H,I,r,h⟩ hn hd
def tB(t:TE):TT:=λσ H Q=>t σ H λx H1=>∃c,x=.bl c/\Q c H1
def M4(h:PE X e t)(he:∀whole,isTrue e X.env whole=(do let v <- whole;standAt e.pos;holding [v] (truthy v)):=by intro _;rfl):PT X e (tB t):=by
 intro pins s σ H Q I hw;refine isTrue_plain (bR (h pins s σ H _ I hw) λv s1 ⟨x,H1,I1,r1,q1⟩=>?_) (he _);let⟨d,rfl,q⟩:=q1;cases r1;exact xW ⟨H1,I1,q⟩
variable {rest:List Expr}
def PF(t u:TT):TT:=λσ H Q=>t σ H λc H1=>if c=true then u σ H1 Q else Q false H1
def Q4(t u:TT):TT:=λσ H Q=>t σ H λc H1=>if c=true then Q true H1 else u σ H1 Q
def QB(t:TT):TT:=λσ H Q=>t σ H λc H1=>Q (!c) H1
def Jm(ha:PT X a tA):PW X (.BoolOp .And [a] pos) tA:=by
 intro wh pins s σ H Q I h;refine isTrue_and (bR (ha pins s σ H Q I h) λc s1 e=>?_);cases c with
 | true=>exact isTrue_and_nil e
 | false=>exact e
def Md(ha:PT X a tA):PW X (.BoolOp .Or [a] pos) tA:=by
 intro wh pins s σ H Q I h;refine isTrue_or (bR (ha pins s σ H Q I h) λc s1 e=>?_);cases c with
 | false=>exact isTrue_or_nil e
 | true=>exact e
def Mb(ha:PT X a tA)(hb:PW X (.BoolOp .And (b::rest) pos) tB'):PW X (.BoolOp .And (a::b::rest) pos) (PF tA tB'):=by
 intro wh pins s σ H Q I h;refine isTrue_and (bR (ha pins s σ H _ I h) λc s1 ⟨H1,I1,q1⟩=>?_);cases c with
 | true=>exact hb wh pins s1 σ H1 Q I1 q1
 | false=>exact⟨H1,I1,q1⟩
def OQ(ha:PT X a tA)(hb:PW X (.BoolOp .Or (b::rest) pos) tB'):PW X (.BoolOp .Or (a::b::rest) pos) (Q4 tA tB'):=by
 intro wh pins s σ H Q I h;refine isTrue_or (bR (ha pins s σ H _ I h) λc s1 ⟨H1,I1,q1⟩=>?_);cases c with
 | true=>exact⟨H1,I1,q1⟩
 | false=>exact hb wh pins s1 σ H1 Q I1 q1
def LG(ha:PT X a tA):PT X (.UnaryOp .Not a pos) (QB tA):=by
 intro pins s σ H Q I h;exact isTrue_not (ha pins s σ H (λc H1=>Q (!c) H1) I h)
def Oh(ta tb:TE):TE:=λσ H Q=>ta σ H λx H1=>∃c,x=.bl c/\if c=true then tb σ H1 Q else Q (.bl false) H1
def Qn(ta tb:TE):TE:=λσ H Q=>ta σ H λx H1=>∃c,x=.bl c/\if c=true then Q (.bl true) H1 else tb σ H1 Q
def LX{op}(h:PE X a t):PE X (.BoolOp op [a] pos) t:=λpins s σ H Q I hw=>BoolOp_one (h pins s σ H Q I hw)
def K7(ha:PE X a ta)(hb:PE X (.BoolOp .And (b::rest) pos) tb):PE X (.BoolOp .And (a::b::rest) pos) (Oh ta tb):=by
 intro pins s σ H Q I h;refine BoolOp_and (bR (ha pins s σ H _ I h) λv s1 ⟨x,H1,I1,r1,q1⟩=>?_);let⟨c,rfl,q1⟩:=q1;cases r1;refine xW ?_;cases c with
 | true=>exact hb pins s1 σ H1 Q I1 q1
 | false=>exact⟨.bl false,H1,I1,rfl,q1⟩
def F1(ha:PE X a ta)(hb:PE X (.BoolOp .Or (b::rest) pos) tb):PE X (.BoolOp .Or (a::b::rest) pos) (Qn ta tb):=by
 intro pins s σ H Q I h;refine BoolOp_or (bR (ha pins s σ H _ I h) λv s1 ⟨x,H1,I1,r1,q1⟩=>?_);let⟨c,rfl,q1⟩:=q1;cases r1;refine xW ?_;cases c with
 | false=>exact hb pins s1 σ H1 Q I1 q1
 | true=>exact⟨.bl true,H1,I1,rfl,q1⟩
def Rl(t:TT)(ta tb:TE):TE:=λσ H Q=>t σ H λc H1=>if c=true then ta σ H1 Q else tb σ H1 Q
def Fu(hc:PT X c tA)(ha:PE X a ta)(hb:PE X b tb):PE X (.IfExp c a b pos) (Rl tA ta tb):=by
 intro pins s σ H Q I h;refine wpAny_IfExp (bR (hc pins s σ H _ I h) λd s1 ⟨H1,I1,q1⟩=>?_);cases d with
 | true=>exact ha pins s1 σ H1 Q I1 q1
 | false=>exact hb pins s1 σ H1 Q I1 q1
end
def gH(K:W.Frag)(H:Hp)(a:Addr)(xs:List V):Prop :=
 Rd H a (.lst xs) \/
  ∃ (o:Obj) (its:Array Value) (n:Nat),K.lookup a=some o/\o.cls=.type "list"/\o.dict=none/\o.data=.seq its n/\its.size<=sizeLine/\aH xs its.toList
def eD(K:W.Frag)(H:Hp)(a:Addr)(xs:List V):Prop :=
 Rd H a (.tup xs) \/
  ∃ (o:Obj) (its:Array Value) (n:Nat),K.lookup a=some o/\o.cls=.type "tuple"/\o.dict=none/\o.data=.seq its n/\its.size<=sizeLine/\aH xs its.toList
def QK:Value->Option V
 | .none=>some .non
 | .bool b=>some (.bl b)
 | .int i _=>some (.int i)
 | .str x _=>some (.str x)
 | .bytes b _=>some (.byt b)
 | .float b _=>some (.flt b)
 | .ref a=>some (.ref a)
 | .type n=>some (.ty n)
 | _=>none
def RelV.abs(r:RelV x u):QK u=some x:=by
 cases x with
 | non=>cases r;rfl
 | bl _=>cases r;rfl
 | int _=>let⟨t,rfl⟩:=r;rfl
 | str _=>let⟨t,rfl⟩:=r;rfl
 | byt _=>let⟨t,rfl⟩:=r;rfl
 | flt _=>let⟨t,rfl⟩:=r;rfl
 | ref _=>cases r;rfl
 | ty _=>cases r;rfl
def RelV.inj(r:RelV x u)(q:RelV y u):x=y:=xD (r.abs.symm.trans q.abs)
def aH.inj:∀ {xs ys:List V}{us:List Value},aH xs us->aH ys us->xs=ys
 | _,_,_,.nil,.nil=>rfl
 | _,_,_,.cons r t,.cons r' t'=>by rw[r.inj r',aH.inj t t']
def gH.of{K:W.Frag}(h:H a=some (.lst xs)):gH K H a xs:=.inl (.inl h)
def Inv.list(I:Inv X pins σ H s)(h:gH X.K H a xs):∃its:List Value,aH xs its/\PlainL s.heap a its.toArray/\xs.length<=sizeLine:=by
 rcases h with h|⟨o,its,n,hk,hc,hd,hs,hz,r⟩
 ·let⟨z,its,n,r,e⟩:=h.ok I.hok;exact⟨its,r,⟨_,n,e,rfl,rfl,rfl⟩,z⟩
 ·refine⟨its.toList,r,⟨o,n,I.kIn a o hk,hc,hd,by simpa using hs⟩,?_⟩;have e:=r.length;simp?[vX] at e;lia
def Inv.tuple(I:Inv X pins σ H s)(h:eD X.K H a xs):∃its:List Value,aH xs its/\IsTup s.heap a its.toArray/\xs.length<=sizeLine:=by
 rcases h with h|⟨o,its,n,hk,hc,_,hs,hz,r⟩
 ·let⟨z,its,r,p⟩:=h.ok I.hok;exact⟨its,r,p.1,z⟩
 ·refine⟨its.toList,r,⟨o,I.kIn a o hk,hc,n,by simpa using hs⟩,?_⟩;have e:=r.length;simp?[vX] at e;lia
def Inv.list_inj(I:Inv X pins σ H s)(h:gH X.K H a xs)(h':gH X.K H a ys):xs=ys:=by
 let⟨its,r,⟨o,n,e,_,_,d⟩,_⟩:=I.list h;let⟨its',r',⟨o',n',e',_,_,d'⟩,_⟩:=I.list h';rw[e] at e';cases e';rw[d] at d';injection d' with d1 _
 have:its=its':=by simpa using jC Array.toList d1
 subst this;exact r.inj r'
def Inv.tuple_inj(I:Inv X pins σ H s)(h:eD X.K H a xs)(h':eD X.K H a ys):xs=ys:=by
 let⟨its,r,⟨o,e,_,n,d⟩,_⟩:=I.tuple h;let⟨its',r',⟨o',e',_,n',d'⟩,_⟩:=I.tuple h';rw[e] at e';cases e';rw[d] at d';injection d' with d1 _
 have:its=its':=by simpa using jC Array.toList d1
 subst this;exact r.inj r'
abbrev Cx.wish(X:Cx)(E:Value->Shared->Prop):Cx:={ X with xe:=E }
abbrev Cx.nox(X:Cx):Cx:=X.wish λ_ _=>False
def Cx.Ok.wish{X:Cx}(ok:X.Ok)(E:Value->Shared->Prop):(X.wish E).Ok :=
 ⟨ok.mod,ok.kind,ok.glob,ok.blt,ok.above,ok.inj,ok.has,ok.cab,ok.hd,ok.frames,ok.stk,ok.exf,ok.bs,ok.bsz,ok.noex,ok.exfs,ok.funs,ok.frf⟩
def Cx.Ok.unwish{X:Cx}{E:Value->Shared->Prop}(ok:(X.wish E).Ok):X.Ok :=
 ⟨ok.mod,ok.kind,ok.glob,ok.blt,ok.above,ok.inj,ok.has,ok.cab,ok.hd,ok.frames,ok.stk,ok.exf,ok.bs,ok.bsz,ok.noex,ok.exfs,ok.funs,ok.frf⟩
def Inv.wish(I:Inv X pins σ H s)(E:Value->Shared->Prop):Inv (X.wish E) pins σ H s:=⟨I.ok.wish E,I.os,I.bare,I.base,I.loc,I.cell,I.free,I.freeC,I.pin,I.hok,I.len⟩
def Inv.unwish(I:Inv (X.wish E) pins σ H s):Inv X pins σ H s:=⟨I.ok.unwish,I.os,I.bare,I.base,I.loc,I.cell,I.free,I.freeC,I.pin,I.hok,I.len⟩
def SP.unwish{D:Ends}(h:SP (X.wish E) pins D f s'):SP X pins D f s':=by
 cases f with
 | next=>let⟨σ',H',I,q⟩:=h;exact⟨σ',H',I.unwish,q⟩
 | brk=>let⟨σ',H',I,q⟩:=h;exact⟨σ',H',I.unwish,q⟩
 | cont=>let⟨σ',H',I,q⟩:=h;exact⟨σ',H',I.unwish,q⟩
 | ret u=>let⟨v,σ',H',I,r,q⟩:=h;exact⟨v,σ',H',I.unwish,r,q⟩
def As.nox{st:List Stmt}(h:As X.nox st t):As X st t:=λpins s σ H D I hw =>
 xA (h pins s σ H D (I.wish _) hw) (λ_ _ q=>q.unwish) λ_ _ z=>False.elim z
section
variable {st:Stmt}{rest:List Stmt}
def Fe:TS:=λD σ H=>D.nx σ H
def PQ(t u:TS):TS:=λD σ H=>t { D with nx:=u D } σ H
def HU:As X [] Fe:=λ_ _ σ H _ I h=>vM ⟨σ,H,I,h⟩
def D7(h1:PS X st t)(h2:As X rest u):As X (st::rest) (PQ t u):=by
 intro pins s σ H D I h;refine wpAny_execs_cons (bR (h1 pins s σ H { D with nx:=u D } I h) λf s1 q=>?_);cases f with
 | next =>
  let⟨σ',H',I',q⟩:=q;exact h2 pins s1 σ' H' D I' q
 | ret v=>exact q
 | brk=>exact q
 | cont=>exact q
def HR(h1:PS X st t):As X [st] t:=by
 intro pins s σ H D I h;refine wpAny_execs_cons (bR (h1 pins s σ H D I h) λf s1 q=>?_);cases f with
 | next=>exact vM q
 | ret v=>exact q
 | brk=>exact q
 | cont=>exact q
def HZ:PS X (.Pass pos) Fe:=λ_ _ σ H _ I h=>wpAny_Pass ⟨σ,H,I,h⟩
def Inv.quiet(I:Inv X pins σ H s):interactive X.env=false:=by simp[interactive,I.ok.kind]
def Ni{x j pos pos'}:PS X (.Expr (.Constant (.str x) j pos) pos') Fe:=λ_ s σ H _ I h=>wpAny_Expr (Calls.Constant_str (show SP X _ _ .next { s with toks:=s.toks+1 } from ⟨σ,H,I.tok _,h⟩)) I.quiet
def OK(te:TE):TS:=λD σ H=>te σ H λ_ H1=>D.nx σ H1
def oE(he:PE X e te)(hs:swapsWith e none pos.line X.env=pure false:=by rfl):PS X (.Expr e pos) (OK te):=by
 intro pins s σ H D I h;exact wpAny_Expr_any (bR (he pins s σ H _ I h) λv s1 ⟨x,H1,I1,r1,q1⟩=>⟨σ,H1,I1,q1⟩) I.quiet hs
def Qa(te:TE):TS:=λD σ H=>te σ H D.rt
def LJ(he:PE X e te):PS X (.Return (some e) pos) (Qa te):=by
 intro pins s σ H D I h;exact wpAny_Return_some (bR (he pins s σ H _ I h) λv s1 ⟨x,H1,I1,r1,q1⟩=>⟨x,σ,H1,I1,r1,q1⟩)
def QD(c:TT)(t u:TS):TS:=λD σ H=>c σ H λb H1=>if b=true then t D σ H1 else u D σ H1
def K0(hc:PT X c tc)(ha:As X a t)(hb:As X b u):PS X (.If c a b pos) (QD tc t u):=by
 intro pins s σ H D I h;refine wpAny_If (bR (hc pins s σ H _ I h) λd s1 ⟨H1,I1,q1⟩=>?_);cases d with
 | true=>exact ha pins s1 σ H1 D I1 q1
 | false=>exact hb pins s1 σ H1 D I1 q1
end
abbrev TG:=V->St->Hp->(St->Hp->Prop)->Prop
abbrev OZ:=List V->St->Hp->(St->Hp->Prop)->Prop
def PG(X:Cx)(target:Expr)(t:TG):Prop :=
 ∀ (pins:List (Addr×Obj)) (s:Shared) (σ:St) (H:Hp) (v:V) (u:Value) (Q:St->Hp->Prop),Inv X pins σ H s->RelV v u->t v σ H Q ->
  wpAny (model X.prog X.w) X.A (assign target X.env u) (λ_ s'=>∃σ' H',Inv X pins σ' H' s'/\Q σ' H') X.xe s
def Po(X:Cx)(ts:List Expr)(t:OZ):Prop :=
 ∀ (pins:List (Addr×Obj)) (s:Shared) (σ:St) (H:Hp) (vs:List V) (us:List Value) (Q:St->Hp->Prop),Inv X pins σ H s->aH vs us->t vs σ H Q ->
  wpAny (model X.prog X.w) X.A (assignInOrder ((assignEach ts X.env).map (·.2)) us) (λ_ s'=>∃σ' H',Inv X pins σ' H' s'/\Q σ' H') X.xe s
abbrev OY:=V->V->V->Hp->(Hp->Prop)->Prop
def Jz(X:Cx)(t:OY):Prop :=
 ∀ (pins:List (Addr×Obj)) (s:Shared) (σ:St) (H:Hp) (o i v:V) (ov iv u:Value) (Q:Hp->Prop),Inv X pins σ H s->RelV o ov->RelV i iv->RelV v u->t o i v H Q ->
  wpAny (model X.prog X.w) X.A (setItem ov iv u) (λ_ s'=>∃H',Inv X pins σ H' s'/\Q H') X.xe s
def u9(i:Nat):TG:=λv σ H Q=>Q (σ.set i (some v)) H
def cU(hN:X.N.Nodup)(hi:X.N[i]?=some x)(hx:Loc X.env.scope x)(hf:X.fn x=true\/X.env.scope.names.lookup x=some .local:=by first|exact .inl rfl|exact .inr rfl|assumption):PG X (.Name x pos) (u9 i):=by
 intro pins s σ H v u Q I r h;exact wpAny_assign_Name (wX I hN hi hx r (λs' I'=>⟨_,H,I',h⟩) hf)
def P0:OZ:=λvs σ H Q=>vs=[]/\Q σ H
def Oy(t:TG)(u:OZ):OZ:=λvs σ H Q=>∃v r,vs=v::r/\t v σ H λσ' H'=>u r σ' H' Q
def oI:Po X [] P0:=by
 intro pins s σ H vs us Q I r h;let⟨e,h⟩:=h;subst e;cases r;exact assignInOrder_nil ⟨σ,H,I,h⟩
def cR(h1:PG X e t)(h2:Po X es u)
  (hs:(assignEach (e::es) X.env).map (·.2)=assign e X.env::(assignEach es X.env).map (·.2):=by rfl):Po X (e::es) (Oy t u):=by
 intro pins s σ H vs us Q I r h;let⟨v,vr,e1,h⟩:=h;subst e1;cases r with
 | cons r rr =>
  rw[hs];refine assignInOrder_cons (bR (h1 pins s σ H _ _ _ I r h) λ_ s1 ⟨σ1,H1,I1,q1⟩=>?_);exact h2 pins s1 σ1 H1 _ _ Q I1 rr q1
def Qr(K:W.Frag)(n:Nat)(t:OZ):TG:=λv σ H Q=>∃a xs,v=.ref a/\eD K H a xs/\xs.length=n/\t xs σ H Q
def uv{k:Nat}(hc:X.calm=true)(h:Po X es t)
  (hn:(assignEach es X.env).length=n:=by rfl) (hst:(assignEach es X.env).findIdx? (·.1)=none:=by rfl):PG X (.Tuple es k pos) (Qr X.K n t):=by
 intro pins s σ H v u Q I r hw;let⟨a,xs,e1,hq,hl,hw⟩:=hw;subst e1;cases r;let⟨its,rv,ht,hz⟩:=I.tuple hq;refine assign_Tuple_tuple (I.ok.hd hc) ht (by simp[hn,<- hl,rv.length]) hst λh' hx=>?_;have I1:Inv X pins σ H { s with heap:=h' }:=I.kept (t':=s.toks) λb o e=>hx b o (yR (zY e)) e;exact h pins _ σ H xs _ Q I1 (by simpa using rv) hw
def iz(to ti:TE)(t:OY):TG:=λv σ H Q=>to σ H λo H1=>ti σ H1 λi H2=>t o i v H2 λH3=>Q σ H3
def yk(ho:PE X o to)(hi:PE X i ti)(hs:Jz X t)
  (ha:∀v,assign (.Subscript o i pos) X.env v=(do
   let ov <- holding [v] (eval o X.env)
   let iv <- holding [v,ov] (eval i X.env)
   standAt pos
   holding [v,ov,iv] (setItem ov iv v)
   release [v,ov,iv] []):=by intro _;rfl):PG X (.Subscript o i pos) (iz to ti t):=by
 intro pins s σ H v u Q I r h;rw[ha];refine zV (xX (bR (ho pins s σ H _ I h) λov s1 ⟨x,H1,I1,r1,q1⟩=>?_));refine zV (xX (bR (hi pins s1 σ H1 _ I1 q1) λiv s2 ⟨y,H2,I2,r2,q2⟩=>?_));refine zV (vA (zV (xX (bR (hs pins s2 σ H2 x y v ov iv u _ I2 r1 r2 r q2) λ_ s3 ⟨H3,I3,q3⟩=>?_))));exact wpAny_release ⟨σ,H3,I3,q3⟩
def EH(te:TE)(g:TG):TS:=λD σ H=>te σ H λx H1=>g x σ H1 D.nx
def zl(he:PE X e te)(hg:PG X tg g)(hs:swapsWithSole [tg] e pos.line X.env=pure false:=by rfl)(hw:swappedStores [tg] e X.env=pure none:=by rfl)
  (h1:(assignEach [tg] X.env).map (·.2)=[assign tg X.env]:=by rfl):PS X (.Assign [tg] e pos) (EH te g):=by
 intro pins s σ H D I h;refine wpAny_Assign_stores (bR (he pins s σ H _ I h) λv s1 ⟨x,H1,I1,r1,q1⟩=>?_) hs hw;rw[h1];exact bR (hg pins s1 σ H1 x v _ I1 r1 q1) λ_ s2 q=>q
def uJ(hN:X.N.Nodup)(hi:X.N[i]?=some x)(hx:Loc X.env.scope x)(he:PE X e te)(hs:swapsWith e (some (.Name x pos')) pos.line X.env=pure false:=by rfl)(hf:X.fn x=true\/X.env.scope.names.lookup x=some .local:=by first|exact .inl rfl|exact .inr rfl|assumption) :
  PS X (.Assign [.Name x pos'] e pos) (EH te (u9 i)):=by
 intro pins s σ H D I h;refine wpAny_Assign_Name (bR (he pins s σ H _ I h) λv s1 ⟨y,H1,I1,r1,q1⟩=>?_) hs;exact wX I1 hN hi hx r1 (λs2 I2=>⟨_,H1,I2,q1⟩) hf
def LP(c:TT)(tb:TS):TS:=λD σ H=>∃W:Nat->St->Hp->Prop,(∃m,W m σ H)/\∀m σ H,W m σ H ->
 c σ H λb H1=>if b=true then ∃N:St->Hp->Prop,(∀σ' H',N σ' H'->∃m',m' < m/\W m' σ' H')/\tb { D with nx:=N,ct:=N,bk:=D.nx } σ H1 else D.nx σ H1
def GH(hp:PassesOwn (model X.prog X.w) X.A X.env X.xe)(hc:PT X c tc)(hb:As X body tb):PS X (.While c body [] pos) (LP tc tb):=by
 intro pins s σ H D I h;let⟨W,⟨m0,w0⟩,turn⟩:=h;refine wpAny_While (codeAny_whileLoop (λn s'=>∃σ' H',Inv X pins σ' H' s'/\W n σ' H') ?_ m0 ⟨σ,H,I,w0⟩);rintro n s1 ⟨σ1,H1,I1,w1⟩;refine jJ hp (bR (hc pins s1 σ1 H1 _ I1 (turn n σ1 H1 w1)) λb s2 ⟨H2,I2,q2⟩=>?_);cases b with
 | true =>
  let⟨N,hN,q2⟩:=q2;rw[yL rfl];refine jJ hp (bR (hb pins s2 σ1 H2 _ I2 q2) λf s3 q3=>?_);cases f with
  | next =>
   let⟨σ3,H3,I3,n3⟩:=q3;let⟨m',hm,w3⟩:=hN σ3 H3 n3;exact⟨m',hm,σ3,H3,I3,w3⟩
  | cont =>
   let⟨σ3,H3,I3,n3⟩:=q3;let⟨m',hm,w3⟩:=hN σ3 H3 n3;exact⟨m',hm,σ3,H3,I3,w3⟩
  | brk=>exact q3
  | ret v=>exact q3
 | false =>
  rw[yN yZ];exact vM ⟨σ1,H2,I2,q2⟩
structure It where
 go:Nat->Hp->Prop
 yld:Nat->Hp->V->Hp->Prop
 stop:Nat->Hp->Prop
def cq(X:Cx)(pins:List (Addr×Obj))(H:Hp)(b:Addr):Prop :=
 H b=none/\b≠X.env.locals/\b∉X.fs/\(b∈X.ex\/X.s₀.heap.objs.size<=b)/\(∀x c,X.env.cells.lookup x=some c->c≠b)/\∀p∈X.pn++pins,p.1≠b
def Inv.fpOk(I:Inv X pins σ H s)(hb:s.heap.objs.size<=b)(hn:H' b=none):cq X pins H' b:=by
 refine⟨hn,jI (zP I.lt hb),I.nofs hb,.inr (yD I.sz hb),λx c e z=>?_,λp hp z=>?_⟩
 ·let⟨v,q⟩:=I.cell x c e;exact absurd (zP q.lt (by rw[z];exact hb)) (qE _)
 ·exact absurd (zP (zY (I.pin p hp).1) (by rw[z];exact hb)) (qE _)
structure Turn(P:Program)(w:World)(K:W.Frag)(tg:Expr)(J:It)(fp:List Addr)(it:Addr)(tn:Nat->Heap->Prop):Prop where
 mem:it∈fp
 obj:∀i h,tn i h->∀b∈fp,∃o,h.get? b=some o/\∀v,o.data≠.cell v
 keep:∀i h h',tn i h->(∀b∈fp,∀o,h.get? b=some o->h'.get? b=some o)->tn i h'
 item:∀ (X:Cx),X.prog=P->X.w=w->X.K=K->X.calm=true->∀ (i:Nat) (pins:List (Addr×Obj)) (s:Shared) (σ:St) (H:Hp) (E:Value->Shared->Prop),Inv X pins σ H s->(∀b∈fp,cq X pins H b)->tn i s.heap->J.go i H ->
  wpAny (model P w) X.A (pyNext (.ref it)) (λr s1=>∃u,r=some u /\
   wpAny (model P w) X.A (letOwnedTupleGo tg (.ref it) u) (λ_ s2=>∃x H',Inv X pins σ H' s2/\RelV x u/\J.yld i H x H'/\tn (i+1) s2.heap/\∀b∈fp,H' b=none) E s1) E s
 done:∀ (X:Cx),X.prog=P->X.w=w->X.K=K->X.calm=true->∀ (i:Nat) (pins:List (Addr×Obj)) (s:Shared) (σ:St) (H:Hp) (E:Value->Shared->Prop),Inv X pins σ H s->(∀b∈fp,cq X pins H b)->tn i s.heap->J.stop i H ->
  wpAny (model P w) X.A (pyNext (.ref it)) (λr s1=>r=none/\Inv X pins σ H s1) E s
 self:∀ (A:Around) (i:Nat) (s:Shared) (Q:Value->Shared->Prop) (E:Value->Shared->Prop),tn i s.heap->Q (.ref it) s->wpAny (model P w) A (pyIter (.ref it)) Q E s
abbrev TI:=St->Hp->(It->Hp->Prop)->Prop
def QM(X:Cx)(pins:List (Addr×Obj))(σ:St)(tg:Expr)(R:It->Hp->Prop)(itv:Value)(s2:Shared):Prop :=
 ∃ (it:Addr) (fp:List Addr) (tn:Nat->Heap->Prop) (J:It) (H':Hp),itv=.ref it/\Inv X pins σ H' s2/\Turn X.prog X.w X.K tg J fp it tn/\tn 0 s2.heap/\(∀b∈fp,cq X pins H' b)/\R J H'
def PI(X:Cx)(tg iter:Expr)(wi:TI):Prop :=
 ∀ (pins:List (Addr×Obj)) (s:Shared) (σ:St) (H:Hp) (R:It->Hp->Prop),Inv X pins σ H s->wi σ H R ->
  wpAny (model X.prog X.w) X.A (eval iter X.env) (λv s1=>wpAny (model X.prog X.w) X.A (pyIter v) (QM X pins σ tg R) X.xe s1) X.xe s
def Eh(ho:s.heap.get? it=some o)(hc:o.cls=.type n)(hd:o.data=.fields vs)
  (hn:["enumerate","zip","dict_itemiterator","dict_reverseitemiterator","odict_iterator","itertools.zip_longest","itertools.pairwise"].contains n=false) (hQ:Q () s):wpAny M A (letOwnedTupleGo tg (.ref it) u) Q E s:=by
 unfold letOwnedTupleGo;cases tg<;>first
  | exact zW hQ
  | (cases u<;>first
    | exact zW hQ
    | (refine zV (wpAny_load ho ?_)
       rw[hc,hd];show wpAny M A (if (["enumerate","zip","dict_itemiterator","dict_reverseitemiterator","odict_iterator","itertools.zip_longest","itertools.pairwise"].contains n&&vs[0]? == some (rawInt _))=true then _ else _) Q E s;rw[yN (by intro h;rw[hn,vU] at h;cases h)];exact zW hQ))
def PM(K:W.Frag)(a:Addr):It :=
 ⟨λi H=>∃xs x,gH K H a xs/\xs[i]?=some x,λi H x H'=>H'=H/\∀xs,gH K H a xs->xs[i]?=some x,λi H=>∃xs,gH K H a xs/\xs.length<=i⟩
def Qk(K:W.Frag)(a:Addr):It :=
 ⟨λi H=>∃xs x,eD K H a xs/\xs[i]?=some x,λi H x H'=>H'=H/\∀xs,eD K H a xs->xs[i]?=some x,λi H=>∃xs,eD K H a xs/\xs.length<=i⟩
def OI(lo:Int)(n:Nat):It:=⟨λi _=>i < n,λi H x H'=>H'=H/\x=.int (lo+i),λi _=>n<=i⟩
def C8{K:W.Frag}(a it:Addr):Turn P w K tg (PM K a) [it] it (λi h=>h.IsListIter it a i) where
 mem:=by simp
 obj:=λi h st b hb=>by
  have e:b=it:=by simpa using hb
  subst e;let⟨o,e,c,d⟩:=st;exact⟨o,e,λv z=>by rw[d] at z;cases z⟩
 keep:=λi h h' st k=>st.at λo e=>k it (by simp) o e
 item:=by
  intro X hP hw hK hc i pins s σ H E I hf st hg;subst hP hw hK;let⟨xs,x,hq,hx⟩:=hg;let⟨its,rv,p,hz⟩:=I.list hq;let⟨u,hu,ru⟩:=rv.get hx;let⟨f0,f1,f2,f3,f4,f5⟩:=hf it (by simp);refine wpAny_pyNext_list_item st p.isList (x:=u) (by simpa using hu) λh' st' sb=>?_;have I1:Inv X pins σ H { s with heap:=h' }:=I.turned (t':=s.toks) (λb o hb e=>(sb.2 b hb).trans e) f0 f1 f3 f4 f5;let⟨o,e,c,d⟩:=id st';exact⟨u,rfl,Eh (s:={ s with heap:=h' }) e c d (by decide) ⟨x,H,I1,ru,⟨rfl,λys hy=>by rw[I.list_inj hy hq];exact hx⟩,st',λb hb=>(hf b hb).1⟩⟩
 done:=by
  intro X hP hw hK hc i pins s σ H E I hf st hg;subst hP hw hK;let⟨xs,hq,hx⟩:=hg;let⟨its,rv,p,hz⟩:=I.list hq;let⟨f0,f1,f2,f3,f4,f5⟩:=hf it (by simp);have hl:=rv.length;exact wpAny_pyNext_list_end (I.ok.hd hc) st p.isList (by simp;lia) λh' eb=>⟨rfl,I.turned (t':=s.toks) (λb o hb e=>eb b o hb e) f0 f1 f3 f4 f5⟩
 self:=λ_ _ _ _ _ st h=>wpAny_pyIter_listiter st h
def Ar{K:W.Frag}(a it:Addr):Turn P w K tg (Qk K a) [it] it (λi h=>h.IsTupleIter it a i) where
 mem:=by simp
 obj:=λi h st b hb=>by
  have e:b=it:=by simpa using hb
  subst e;let⟨o,e,c,d⟩:=st;exact⟨o,e,λv z=>by rw[d] at z;cases z⟩
 keep:=λi h h' st k=>st.at λo e=>k it (by simp) o e
 item:=by
  intro X hP hw hK hc i pins s σ H E I hf st hg;subst hP hw hK;let⟨xs,x,hq,hx⟩:=hg;let⟨its,rv,p,hz⟩:=I.tuple hq;let⟨u,hu,ru⟩:=rv.get hx;let⟨f0,f1,f2,f3,f4,f5⟩:=hf it (by simp);refine wpAny_pyNext_tuple_item st (show s.heap.IsTuple a its.toArray from p) (x:=u) (by simpa using hu) λh' st' sb=>?_;have I1:Inv X pins σ H { s with heap:=h' }:=I.turned (t':=s.toks) (λb o hb e=>(sb.2 b hb).trans e) f0 f1 f3 f4 f5;let⟨o,e,c,d⟩:=id st';exact⟨u,rfl,Eh (s:={ s with heap:=h' }) e c d (by decide) ⟨x,H,I1,ru,⟨rfl,λys hy=>by rw[I.tuple_inj hy hq];exact hx⟩,st',λb hb=>(hf b hb).1⟩⟩
 done:=by
  intro X hP hw hK hc i pins s σ H E I hf st hg;subst hP hw hK;let⟨xs,hq,hx⟩:=hg;let⟨its,rv,p,hz⟩:=I.tuple hq;let⟨f0,f1,f2,f3,f4,f5⟩:=hf it (by simp);have hl:=rv.length;exact wpAny_pyNext_tuple_end (I.ok.hd hc) st (show s.heap.IsTuple a its.toArray from p) (by simp;lia) λh' eb=>⟨rfl,I.turned (t':=s.toks) (λb o hb e=>eb b o hb e) f0 f1 f3 f4 f5⟩
 self:=λ_ _ _ _ _ st h=>wpAny_pyIter_tupleiter st h
def zj{K:W.Frag}(it:Addr)(lo:Int)(n:Nat):Turn P w K tg (OI lo n) [it] it (λi h=>IsRangeIter h it (lo+(i:Nat) * 1) ((n:Int) - (i:Nat)) 1) where
 mem:=by simp
 obj:=λi h st b hb=>by
  have e:b=it:=by simpa using hb
  subst e;exact⟨_,st,λv z=>by
   have z':Data.fields _=Data.cell v:=z;cases z'⟩
 keep:=λi h h' st k=>k it (by simp) _ st
 item:=by
  intro X hP hw hK hc i pins s σ H E I hf st hg;subst hP hw hK;let⟨f0,f1,f2,f3,f4,f5⟩:=hf it (by simp);have W:=Walks.range (prog:=X.prog) (w:=X.w) (I.ok.hd hc) it lo 1 n;refine W.item i s _ _ hg st λv h' tk hv st' kk=>?_;let⟨t,rfl⟩:=hv;have I1:Inv X pins σ H { s with heap:=h',toks:=tk }:=I.turned (λb o hb e=>kk b o (by simpa using hb) e) f0 f1 f3 f4 f5;refine⟨_,rfl,Eh (s:={ s with heap:=h',toks:=tk }) (n:="range_iterator") st' rfl rfl (by decide) ⟨.int (lo+i),H,I1,⟨t,?_⟩,⟨rfl,rfl⟩,st',λb hb=>(hf b hb).1⟩⟩;rw[Int.mul_one]
 done:=by
  intro X hP hw hK hc i pins s σ H E I hf st hg;subst hP hw hK;let⟨f0,f1,f2,f3,f4,f5⟩:=hf it (by simp);exact wpAny_pyNext_range_end (I.ok.hd hc) st (by have:n<=i:=hg;lia) λh' eb=>⟨rfl,I.turned (t':=s.toks) (λb o hb e=>eb b o hb e) f0 f1 f3 f4 f5⟩
 self:=λ_ _ _ _ _ st h=>wpAny_pyIter_rangeiter st h
def u3{lo:Int}{t u v:Tok}{tk:Nat}(I:Inv X pins σ H s)(h1:-(2 ^ 62)<=lo)(h2:lo < 2 ^ 62)(h3:-(2 ^ 62)<=hi)(h4:hi < 2 ^ 62)
  (q:R (OI lo (hi - lo).toNat) H):wpAny (model X.prog X.w) X.A (pyIter (.ref s.heap.objs.size)) (QM X pins σ tg R) E { s with heap:=s.heap.push { cls:=.type "range",data:=.fields #[.int lo t,.int hi u,.int 1 v] },toks:=tk }:=by
 refine wpAny_pyIter_range (IsRange.new ..) (small_one h1 h2 h3 h4) ?_;have I1:Inv X pins σ H { s with heap:=s.heap.push { cls:=.type "range",data:=.fields #[.int lo t,.int hi u,.int 1 v] },toks:=tk }:=I.kept λb o e=>zU _ e;refine⟨(s.heap.push { cls:=.type "range",data:=.fields #[.int lo t,.int hi u,.int 1 v] }).objs.size,[(s.heap.push { cls:=.type "range",data:=.fields #[.int lo t,.int hi u,.int 1 v] }).objs.size],_,_,H,rfl,
  I1.kept (t':=tk) λb o e=>zU _ e,zj _ lo (hi - lo).toNat,?_,λb hb=>?_,q⟩
 ·have e1:lo+((0:Nat):Int) * 1=lo:=by simp
  have e2:(((hi - lo).toNat:Nat):Int) - ((0:Nat):Int)=Builtin.Range.rangeSize lo hi 1:=by rw[rangeSize_one];split<;>lia
  show IsRangeIter _ _ (lo+((0:Nat):Int) * 1) ((((hi - lo).toNat:Nat):Int) - ((0:Nat):Int)) 1;rw[e1,e2];exact zX _ rfl
 ·have e:b=(s.heap.push { cls:=.type "range",data:=.fields #[.int lo t,.int hi u,.int 1 v] }).objs.size:=by simpa using hb
  subst e;exact I1.fpOk (yM _) (I1.hok.fresh (yM _))
def N4(ta:TA):TI:=λσ H R=>ta σ H λvs H1=>∃j:Int,vs=[.int j]/\-(2 ^ 62)<=j/\j < 2 ^ 62/\R (OI 0 j.toNat) H1
def Ov(ta:TA):TI:=λσ H R=>ta σ H λvs H1=>∃i j:Int,vs=[.int i,.int j]/\(-(2 ^ 62)<=i/\i < 2 ^ 62/\-(2 ^ 62)<=j/\j < 2 ^ 62)/\R (OI i (j - i).toNat) H1
def DH(hg:Gl X "range")(hm:X.mg "range"=none)(ha:PA X [a] ta)(hs:starEach [a] X.env=[(false,eval a X.env)]:=by rfl):PI X tg (.Call (.Name "range" p) [a] [] pos) (N4 ta):=by
 intro pins s σ H R I h;refine Call_ (gE I hg hm boot_range (qS (bR (ha pos pins s σ H _ I h) λus s1 ⟨vs,H1,I1,r1,q1⟩=>?_) hs rfl));let⟨j,e,q1,q2,q⟩:=q1;subst e;cases r1 with
 | cons r rr =>
  cases rr;let⟨t,rfl⟩:=r;exact call_range_1 (u3 I1 (by lia) (by lia) q1 q2 (by simpa using q))
def CV(hg:Gl X "range")(hm:X.mg "range"=none)(ha:PA X [a,b] ta)(hs:starEach [a,b] X.env=[(false,eval a X.env),(false,eval b X.env)]:=by rfl)(hs2:starEach [b] X.env=[(false,eval b X.env)]:=by rfl) :
  PI X tg (.Call (.Name "range" p) [a,b] [] pos) (Ov ta):=by
 intro pins s σ H R I h;refine Call_ (gE I hg hm boot_range (qS (bR (ha pos pins s σ H _ I h) λus s1 ⟨vs,H1,I1,r1,q1⟩=>?_) (by rw[hs,hs2]) (by rw[hs2];rfl)));let⟨i,j,e,⟨q1,q2,q3,q4⟩,q⟩:=q1;subst e;cases r1 with
 | cons r rr =>
  cases rr with
  | cons r' rr =>
   cases rr;let⟨t,rfl⟩:=r;let⟨t',rfl⟩:=r';exact call_range_2 (u3 I1 q1 q2 q3 q4 q)
def Qv(wi:TI)(g:TG)(tb:TS):TS:=λD σ H=>wi σ H λJ H1=>∃W:Nat->Nat->St->Hp->Prop,(∃m,W 0 m σ H1)/\∀i m σ H,W i m σ H ->
 (J.stop i H/\D.nx σ H)\/(J.go i H/\∃N:St->Hp->Prop,(∀σ' H',N σ' H'->∃m',m' < m/\W (i+1) m' σ' H')/\∀x H',J.yld i H x H'->g x σ H' λσ2 H2=>tb { D with nx:=N,ct:=N,bk:=D.nx } σ2 H2)
def nh(fp:List Addr)(h:Heap):List (Addr×Obj):=fp.filterMap λb=>(h.get? b).map λo=>(b,o)
def cZ(hb:b∈fp)(e:h.get? b=some o):(b,o)∈nh fp h:=List.mem_filterMap.mpr ⟨b,hb,by rw[e];rfl⟩
def C0(hp:p∈nh fp h):p.1∈fp/\h.get? p.1=some p.2:=by
 let⟨b,hb,e⟩:=List.mem_filterMap.mp hp;cases q:h.get? b with
 | none=>rw[q] at e;cases e
 | some o =>
  rw[q] at e;have e':(b,o)=p:=xD e;subst e';exact⟨hb,q⟩
def Inv.pinned(I:Inv X pins σ H s)(hf:∀b∈fp,cq X pins H b)(ho:∀b∈fp,∃o,s.heap.get? b=some o/\∀v,o.data≠.cell v):Inv X (pins++nh fp s.heap) σ H s :=
 I.pins_of λp hp=>(List.mem_append.mp hp).elim (λz=>I.pin p (yE _ z)) λz=>by
  let⟨hb,e⟩:=C0 z;let⟨f0,f1,f2,_⟩:=hf p.1 hb;let⟨o,e',d⟩:=ho p.1 hb;rw[e] at e';cases e';exact⟨e,f0,f1,f2,d⟩
def Inv.unpinned(I:Inv X (pins++pl) σ H s):Inv X pins σ H s:=I.pins_of λp hp=>I.pin p (yE _ (qJ _ hp))
def Mt{pos:Pos}(hp:PassesOwn (model X.prog X.w) X.A X.env X.xe)(hc:X.calm=true)(hi:PI X tg iter wi)(hg:PG X tg g)(hb:As X body tb)
  (hs:∀x,foldedSetIterable iter X.env x=pure x:=by intro _;rfl):PS X (.For tg iter body [] pos) (Qv wi g tb):=by
 intro pins s σ H D I h;refine wpAny_For (bR (hi pins s σ H _ I h) λv s1 h1=>bR h1 λitv s2 h2=>?_) hs;let⟨it,fp,tn,J,H2,e,I2,T,st2,f2,W,⟨m0,w0⟩,turn⟩:=h2;subst e;have stat:∀ {H':Hp},(∀b∈fp,H' b=none)->∀b∈fp,cq X pins H' b:=λhn b hb=>⟨hn b hb,(f2 b hb).2⟩
 refine codeAny_forLoop_any (λn s'=>∃i σ' H',Inv X pins σ' H' s'/\tn i s'.heap/\(∀b∈fp,H' b=none)/\W i n σ' H') ?_ m0 ⟨0,σ,H2,I2,st2,λb hb=>(f2 b hb).1,w0⟩;rintro n s3 ⟨i,σ3,H3,I3,st3,fr3,w3⟩;rcases turn i n σ3 H3 w3 with ⟨stop,qn⟩|⟨go,N,hN,step⟩
 ·refine jJ hp (bR (T.done X rfl rfl rfl hc i pins s3 σ3 H3 X.xe I3 (stat fr3) st3 stop) λr s4 ⟨hr,I4⟩=>?_);subst hr;exact vM ⟨σ3,H3,I4,qn⟩
 ·refine jJ hp (bR (T.item X rfl rfl rfl hc i pins s3 σ3 H3 X.xe I3 (stat fr3) st3 go) λr s4 ⟨u,hr,h4⟩=>?_);subst hr;refine jJ hp (bR h4 λ_ s5 ⟨x,H5,I5,r5,y5,st5,fr5⟩=>?_);have I5':=I5.pinned (stat fr5) (T.obj _ _ st5);refine jJ hp (bR (hg _ s5 σ3 H5 x u _ I5' r5 (step x H5 y5)) λ_ s6 ⟨σ6,H6,I6,q6⟩=>?_);refine jJ hp (bR (hb _ s6 σ6 H6 _ I6 q6) λf s7 q7=>?_);have again:∀ {σ7:St}{H7:Hp},Inv X (pins++nh fp s5.heap) σ7 H7 s7->N σ7 H7->∃m,m < n/\∃i σ' H',Inv X pins σ' H' s7/\tn i s7.heap/\(∀b∈fp,H' b=none)/\W i m σ' H':=λ{σ7 H7} I7 n7=>by
   let⟨m',hm,w7⟩:=hN σ7 H7 n7;refine⟨m',hm,i+1,σ7,H7,I7.unpinned,T.keep _ _ _ st5 λb hb o e=>(I7.pin (b,o) (yE _ (yE _ (cZ hb e)))).1,λb hb=>?_,w7⟩;let⟨o,e,d⟩:=T.obj _ _ st5 b hb;exact (I7.pin (b,o) (yE _ (yE _ (cZ hb e)))).2.1
  cases f with
  | next=>let⟨σ7,H7,I7,n7⟩:=q7;exact again I7 n7
  | cont=>let⟨σ7,H7,I7,n7⟩:=q7;exact again I7 n7
  | brk=>let⟨σ7,H7,I7,q7⟩:=q7;exact⟨σ7,H7,I7.unpinned,q7⟩
  | ret v=>let⟨x7,σ7,H7,I7,r7,q7⟩:=q7;exact⟨x7,σ7,H7,I7.unpinned,r7,q7⟩
abbrev R2:=V->V->Hp->VK->Prop
def fT(X:Cx)(f:Value->Value->Sem Value)(r:R2):Prop :=
 ∀ (pins:List (Addr×Obj)) (s:Shared) (σ:St) (H:Hp) (x y:V) (v u:Value) (Q:VK),Inv X pins σ H s->RelV x v->RelV y u->r x y H Q ->
  wpAny (model X.prog X.w) X.A (f v u) (EP X pins σ Q) X.xe s
def QJ(X:Cx)(f:Value->Sem Value)(r:V->Hp->VK->Prop):Prop :=
 ∀ (pins:List (Addr×Obj)) (s:Shared) (σ:St) (H:Hp) (x:V) (v:Value) (Q:VK),Inv X pins σ H s->RelV x v->r x H Q ->
  wpAny (model X.prog X.w) X.A (f v) (EP X pins σ Q) X.xe s
def dq(X:Cx)(f:Value)(r:List V->Hp->VK->Prop):Prop :=
 ∀ (pins:List (Addr×Obj)) (s:Shared) (σ:St) (H:Hp) (xs:List V) (us:List Value) (Q:VK),Inv X pins σ H s->aH xs us->r xs H Q ->
  wpAny (model X.prog X.w) X.A (call f us) (EP X pins σ Q) X.xe s
def Ob(r:R2)(ta tb:TE):TE:=λσ H Q=>ta σ H λx H1=>tb σ H1 λy H2=>r x y H2 Q
def Ru(r:V->Hp->VK->Prop)(ta:TE):TE:=λσ H Q=>ta σ H λx H1=>r x H1 Q
def rI(C:Int->Int->Prop)(g:Int->Int->V):R2:=λx y H Q=>∃i j,x=.int i/\y=.int j/\C i j/\Q (g i j) H
def HI(g:Int->Int->V):R2:=λx y H Q=>∃i j,x=.int i/\y=.int j/\Q (g i j) H
def rU(g:Int->V):V->Hp->VK->Prop:=λx H Q=>∃i,x=.int i/\Q (g i) H
def Nm(ha:PE X a ta)(hb:PE X b tb){pins:List (Addr×Obj)}{σ:St}{R:V->V->Hp->Prop}(I:Inv X pins σ H s)
  (h:ta σ H λx H1=>tb σ H1 λy H2=>R x y H2) {Q:Value->Shared->Prop}{f:Value->Value->Sem Value}
  (hf:∀v u s2 x y H2,Inv X pins σ H2 s2->RelV x v->RelV y u->R x y H2->wpAny (model X.prog X.w) X.A (f v u) Q X.xe s2) :
  wpAny (model X.prog X.w) X.A (eval a X.env) (λv s₁=>wpAny (model X.prog X.w) X.A (eval b X.env) (λu s₂=>wpAny (model X.prog X.w) X.A (f v u) Q X.xe s₂) X.xe s₁) X.xe s:=by
 refine bR (ha pins s σ H _ I h) λv s1 ⟨x,H1,I1,r1,q1⟩=>?_;refine bR (hb pins s1 σ H1 _ I1 q1) λu s2 ⟨y,H2,I2,r2,q2⟩=>?_;exact hf v u s2 x y H2 I2 r1 r2 q2
def Ko(ho:fT X (binaryOp op) r)(ha:PE X a ta)(hb:PE X b tb):PE X (.BinOp a op b pos) (Ob r ta tb):=by
 intro pins s σ H Q I h;exact wpAny_BinOp (Nm ha hb I h λv u s2 x y H2 I2 rx ry q=>ho pins s2 σ H2 x y v u Q I2 rx ry q)
def Gv(ho:QJ X (unaryOp op) r)(ha:PE X a ta):PE X (.UnaryOp op a pos) (Ru r ta):=by
 intro pins s σ H Q I h;exact UnaryOp_ (bR (ha pins s σ H _ I h) λv s1 ⟨x,H1,I1,r1,q1⟩=>ho pins s1 σ H1 x v Q I1 r1 q1)
def Ql{f:Value->Value->Sem Value}{C:Int->Int->Prop}{g:Int->Int->Int}
  (rule:∀ (i j:Int) (t u:Tok) (s:Shared) (Q:Value->Shared->Prop) (E:Value->Shared->Prop),C i j->Q (.int (g i j) s.toks) { s with toks:=s.toks+1 }->wpAny (model X.prog X.w) X.A (f (.int i t) (.int j u)) Q E s) :
  fT X f (rI C λi j=>.int (g i j)):=by
 intro pins s σ H x y v u Q I rx ry h;let⟨i,j,rfl,rfl,hc,q⟩:=h;let⟨t,rfl⟩:=rx;let⟨t',rfl⟩:=ry;exact rule i j t t' s _ _ hc ⟨.int (g i j),H,I.tok _,⟨_,rfl⟩,q⟩
def OC{f:Value->Value->Sem Value}{g:Int->Int->Int}
  (rule:∀ (i j:Int) (t u:Tok) (s:Shared) (Q:Value->Shared->Prop) (E:Value->Shared->Prop),Q (.int (g i j) s.toks) { s with toks:=s.toks+1 }->wpAny (model X.prog X.w) X.A (f (.int i t) (.int j u)) Q E s) :
  fT X f (HI λi j=>.int (g i j)):=by
 intro pins s σ H x y v u Q I rx ry h;let⟨i,j,rfl,rfl,q⟩:=h;let⟨t,rfl⟩:=rx;let⟨t',rfl⟩:=ry;exact rule i j t t' s _ _ ⟨.int (g i j),H,I.tok _,⟨_,rfl⟩,q⟩
def NI{f:Value->Value->Sem Value}{g:Int->Int->Bool}
  (rule:∀ (i j:Int) (t u:Tok) (s:Shared) (Q:Value->Shared->Prop) (E:Value->Shared->Prop),Q (.bool (g i j)) s->wpAny (model X.prog X.w) X.A (f (.int i t) (.int j u)) Q E s) :
  fT X f (HI λi j=>.bl (g i j)):=by
 intro pins s σ H x y v u Q I rx ry h;let⟨i,j,rfl,rfl,q⟩:=h;let⟨t,rfl⟩:=rx;let⟨t',rfl⟩:=ry;exact rule i j t t' s _ _ ⟨.bl (g i j),H,I,rfl,q⟩
def Ih(i j:Int):Prop:=0 < j/\j < 1073741824
def rg(i j:Int):Prop:=(-(2 ^ 64) < i/\i < 2 ^ 64)\/(-(2 ^ 64) < j/\j < 2 ^ 64)
def rg.ok(h:rg i j):IntMulOk i j:=by
 rcases h with ⟨h1,h2⟩|⟨h1,h2⟩
 ·exact .of_left (intBits_le_64 h1 h2)
 ·exact .of_right (intBits_le_64 h1 h2)
def Mq:fT X (binaryOp .Add) (HI λi j=>.int (i+j)):=OC λ_ _ _ _ _ _ _ q=>add_int q
def Li:fT X (binaryOp .Sub) (HI λi j=>.int (i - j)):=OC λ_ _ _ _ _ _ _ q=>sub_int q
def Lb:fT X (binaryOp .Mult) (rI rg λi j=>.int (i * j)):=Ql λ_ _ _ _ _ _ _ hc q=>mul_int q hc.ok
def J9:fT X (binaryOp .FloorDiv) (rI Ih λi j=>.int (i / j)):=Ql λi j _ _ _ _ _ hc q=>by
 have h1:(0:Int) < j:=hc.1;have h2:j < 1073741824:=hc.2;exact floordiv_int (by lia) (by rw[Int.fdiv_eq_ediv_of_nonneg i (by lia)];exact q) (.inl (PyProof.noPylong_small (by lia)))
def Lv:fT X (binaryOp .Mod) (rI (λ_ j=>0 < j) λi j=>.int (i % j)):=Ql λi j _ _ _ _ _ hc q=>by
 have h1:(0:Int) < j:=hc;exact mod_int' (by lia) (by rw[Int.fmod_eq_emod_of_nonneg i (by lia)];exact q)
def Q2{f:Value->Sem Value}{g:Int->Int}
  (rule:∀ (i:Int) (t:Tok) (s:Shared) (Q:Value->Shared->Prop) (E:Value->Shared->Prop),Q (.int (g i) s.toks) { s with toks:=s.toks+1 }->wpAny (model X.prog X.w) X.A (f (.int i t)) Q E s) :
  QJ X f (rU λi=>.int (g i)):=by
 intro pins s σ H x v Q I rx h;let⟨i,rfl,q⟩:=h;let⟨t,rfl⟩:=rx;exact rule i t s _ _ ⟨.int (g i),H,I.tok _,⟨_,rfl⟩,q⟩
def ze:QJ X (unaryOp .USub) (rU λi=>.int (-i)):=Q2 λ_ _ _ _ _ q=>neg_int q
def tR(I:Inv X pins σ H s)(q:Q (.bl k) H)(e:k=k'):EP X pins σ Q (.bool k') s:=by
 subst e;exact⟨.bl k,H,I,rfl,q⟩
def GA:fT X (compareOp .Lt) (HI λi j=>.bl (decide (i < j))):=NI λ_ _ _ _ _ _ _ q=>lt_int q
def D1:fT X (compareOp .LtE) (HI λi j=>.bl (decide (i<=j))):=NI λ_ _ _ _ _ _ _ q=>le_int q
def KE:fT X (compareOp .Gt) (HI λi j=>.bl (decide (j < i))):=NI λ_ _ _ _ _ _ _ q=>gt_int q
def CI:fT X (compareOp .In) (λx y H Q=>∃i j,x=.str i/\y=.str j/\Q (.bl (!(Builtin.Str.occurrences j i 0 j.length 1).isEmpty)) H):=by
 intro pins s σ H x y v u Q I rx ry h;let⟨i,j,rfl,rfl,q⟩:=h;let⟨t,rfl⟩:=rx;let⟨t',rfl⟩:=ry;exact in_str (tR I q rfl)
def DY:fT X (compareOp .Is) (λx y H Q=>y=.non/\Q (.bl (decide (x=.non))) H):=by
 intro pins s σ H x y v u Q I rx ry h;let⟨rfl,q⟩:=h;cases ry;refine is_none_gen (tR I q ?_);cases x<;>first
  | (cases rx;rfl)
  | (let⟨t,rfl⟩:=rx;rfl)
def Bq:fT X (compareOp .IsNot) (λx y H Q=>y=.non/\Q (.bl (!decide (x=.non))) H):=by
 intro pins s σ H x y v u Q I rx ry h;let⟨rfl,q⟩:=h;cases ry;refine isnot_none_gen (tR I q ?_);cases x<;>first
  | (cases rx;rfl)
  | (let⟨t,rfl⟩:=rx;rfl)
def uH:fT X (compareOp .NotIn) (λx y H Q=>∃i j,x=.str i/\y=.str j/\Q (.bl (!(!(Builtin.Str.occurrences j i 0 j.length 1).isEmpty))) H):=by
 intro pins s σ H x y v u Q I rx ry h;let⟨i,j,rfl,rfl,q⟩:=h;let⟨t,rfl⟩:=rx;let⟨t',rfl⟩:=ry;exact notIn_str (tR I q rfl)
def fT.or(h:fT X f r)(h':fT X f r'):fT X f (λx y H Q=>r x y H Q\/r' x y H Q):=by
 intro pins s σ H x y v u Q I rx ry q;rcases q with q|q
 ·exact h pins s σ H x y v u Q I rx ry q
 ·exact h' pins s σ H x y v u Q I rx ry q
def dA(b:Expr)(h:op≠.In:=by decide)(h2:op≠.NotIn:=by decide):behindInMarks op b=false:=by
 have e1:(op == CmpOp.In)=false:=by cases op<;>first|rfl|exact absurd rfl h
 have e2:(op == CmpOp.NotIn)=false:=by cases op<;>first|rfl|exact absurd rfl h2
 cases b<;>simp[behindInMarks,e1,e2]
def JJ(ho:fT X (compareOp op) r)(ha:PE X a ta)(hb:PE X b tb)(hm:behindInMarks op b=false):PE X (.Compare a [op] [b] pos) (Ob r ta tb):=by
 intro pins s σ H Q I h;exact wpAny_Compare1 (Nm ha hb I h λv u s2 x y H2 I2 rx ry q=>ho pins s2 σ H2 x y v u Q I2 rx ry q) hm
def KF(t:TE):TT:=λσ H Q=>t σ H λx H'=>∃k,x=.bl k/\Q k H'
def Bp(ho:fT X (compareOp op) r)(ha:PE X a ta)(hb:PE X b tb)(hm:behindInMarks op b=false):PT X (.Compare a [op] [b] pos) (KF (Ob r ta tb)):=by
 intro pins s σ H Q I h;refine wpAny_isTrue_Compare1 (bR (ha pins s σ H _ I h) λv s1 ⟨x,H1,I1,r1,q1⟩=>bR (hb pins s1 σ H1 _ I1 q1) λu s2 ⟨y,H2,I2,r2,q2⟩ =>
  bR (ho pins s2 σ H2 x y v u _ I2 r1 r2 q2) λc s3 ⟨z,H3,I3,r3,k,e,q3⟩=>?_) hm
 subst e;cases r3;exact xW ⟨H3,I3,q3⟩
def yx(r r':R2)(ta tb tc:TE):TE:=λσ H Q=>ta σ H λx H1=>tb σ H1 λy H2=>r x y H2 λz H3=>∃k,z=.bl k /\
 (if k=true then tc σ H3 λw' H4=>r' y w' H4 Q else Q (.bl false) H3)
def FY(ho:fT X (compareOp op) r)(ho':fT X (compareOp op') r')(ha:PE X a ta)(hb:PE X b tb)(hc:PE X c tc)
  (hm:lastMarks [op,op'] [b,c]=false:=by with_unfolding_all rfl):PE X (.Compare a [op,op'] [b,c] pos) (yx r r' ta tb tc):=by
 intro pins s σ H Q I h;refine Compare_chain (bR (ha pins s σ H _ I h) λv s1 ⟨x,H1,I1,r1,q1⟩=>chain_link (bR (hb pins s1 σ H1 _ I1 q1) λu s2 ⟨y,H2,I2,r2,q2⟩ =>
  bR (ho pins s2 σ H2 x y v u _ I2 r1 r2 q2) λd s3 ⟨z,H3,I3,r3,k,e,q3⟩=>?_)) hm
 subst e;cases r3;refine xW ?_;cases k with
 | false=>exact ite_ff ⟨.bl false,H3,I3,rfl,q3⟩
 | true=>exact ite_tt (chain_last (bR (hc pins s3 σ H3 _ I3 q3) λw' s4 ⟨z',H4,I4,r4,q4⟩=>ho' pins s4 σ H4 y z' u w' Q I4 r2 r4 q4))
def Ga(ho:fT X (compareOp op) r)(ho':fT X (compareOp op') r')(ha:PE X a ta)(hb:PE X b tb)(hc:PE X c tc)
  (hm:lastMarks [op,op'] [b,c]=false:=by with_unfolding_all rfl):PT X (.Compare a [op,op'] [b,c] pos) (KF (yx r r' ta tb tc)):=by
 intro pins s σ H Q I h;refine isTrue_chain (bR (ha pins s σ H _ I h) λv s1 ⟨x,H1,I1,r1,q1⟩=>test_link (bR (hb pins s1 σ H1 _ I1 q1) λu s2 ⟨y,H2,I2,r2,q2⟩ =>
  bR (ho pins s2 σ H2 x y v u _ I2 r1 r2 q2) λd s3 ⟨z,H3,I3,r3,k,e,q3⟩=>?_)) hm
 subst e;cases r3;refine xW ?_;cases k with
 | false =>
  let⟨k',e',q'⟩:=q3;cases e';exact ite_ff ⟨H3,I3,q'⟩
 | true =>
  refine ite_tt (test_last (bR (hc pins s3 σ H3 _ I3 q3) λw' s4 ⟨z',H4,I4,r4,q4⟩=>bR (ho' pins s4 σ H4 y z' u w' _ I4 r2 r4 q4) λd' s5 ⟨z2,H5,I5,r5,k2,e2,q5⟩=>?_));subst e2;cases r5;exact xW ⟨H5,I5,q5⟩
def mT:(sizeLine:Nat) < 2 ^ 63:=by rw[qU];decide
def y9:fT X (binaryOp .Add) (λx y H Q=>∃i j,x=.str i/\y=.str j/\i.length+j.length<=sizeLine/\Q (.str (i++j)) H):=by
 intro pins s σ H x y v u Q I rx ry h;let⟨i,j,rfl,rfl,hz,q⟩:=h;let⟨t,rfl⟩:=rx;let⟨t',rfl⟩:=ry;exact add_str (λt' tk=>⟨.str (i++j),H,I.tok _,⟨_,rfl⟩,q⟩) hz
def vals1(r:aH [x] us):∃u,us=[u]/\RelV x u:=by
 cases r with
 | cons r1 r2=>cases r2;exact⟨_,rfl,r1⟩
def vals2(r:aH [x,y] us):∃u w',us=[u,w']/\RelV x u/\RelV y w':=by
 cases r with
 | cons r1 r2 =>
  cases r2 with
  | cons r3 r4=>cases r4;exact⟨_,_,rfl,r1,r3⟩
section
variable {K:W.Frag}
end
structure eF(k:Nat)(A:Around):Prop where
 hd:A.handled=none
 dp:A.depth+3 * k+5 < recursionLimit
 un:A.units+16 * k+200 < cLine
def eF.mono(r:eF k A)(h:j<=k):eF j A:=⟨r.hd,by have:=r.dp;lia,by have:=r.un;lia⟩
def eF.deeper(r:eF (k+1) A)(env:Env):eF k (A.deeper env) :=
 ⟨r.hd,by have:=r.dp;show A.depth+1+3 * k+5 < _;lia,by have:=r.un;show A.units+3+16 * k+200 < _;lia⟩
def eF.in1(r:eF (k+1) A):eF k A.in1 :=
 ⟨r.hd,by have:=r.dp;show A.depth+3 * k+5 < _;lia,by have:=r.un;show A.units+1+16 * k+200 < _;lia⟩
def eF.depth(r:eF k A):A.depth < recursionLimit:=by have:=r.dp;lia
def eF.units(r:eF k A):A.units+64 < cLine:=by have:=r.un;lia
def PZ:TA:=λ_ H Q=>Q [] H
def On(ta:TE)(tr:TA):TA:=λσ H Q=>ta σ H λx H1=>tr σ H1 λxs H2=>Q (x::xs) H2
def eH:PA X [] PZ:=λ_ _ _ _ H Q I h=>Calls.spliced_nil ⟨[],H,I,.nil,h⟩
def cA(ha:PE X e te)(hr:PA X es t)(hs:starEach (e::es) X.env=(false,eval e X.env)::starEach es X.env:=by rfl):PA X (e::es) (On te t):=by
 intro pos pins s σ H Q I h;rw[hs];show wpAny _ _ (spliced ((false,eval e X.env)::backTo pos (starEach es X.env))) _ _ s;refine Calls.spliced_cons (bR (ha pins s σ H _ I h) λu s1 ⟨x,H1,I1,r1,q1⟩=>?_);exact bR (hr pos pins s1 σ H1 _ I1 q1) λus s2 ⟨xs,H2,I2,r2,q2⟩=>⟨x::xs,H2,I2,.cons r1 r2,q2⟩
def Qb(t:TA):TE:=λσ H Q=>t σ H λxs H1=>xs.length<=sizeLine/\∀p,H1 p=none->Q (.ref p) (upd H1 p (.tup xs))
def PJ(t:TA):TE:=λσ H Q=>t σ H λxs H1=>xs.length<=sizeLine/\∀p,H1 p=none->Q (.ref p) (upd H1 p (.lst xs))
def LF{x1}(h:PA X es t):PE X (.Tuple es x1 pos) (Qb t):=by
 intro pins s σ H Q I hq;refine wpAny_Tuple_spliced (bR (h pos pins s σ H _ I hq) λus s1 ⟨xs,H1,I1,r,z,q⟩=>⟨by rw[<- r.length];exact z,?_⟩);have hf:H1 s1.heap.objs.size=none:=I1.hok.fresh (yM _);refine⟨.ref s1.heap.objs.size,upd H1 s1.heap.objs.size (.tup xs),I1.laid (t':=s1.toks) (λb u e=>zU _ e) (yM _) ?_,rfl,q _ hf⟩;exact⟨z,us,r,⟨_,zX _ rfl,rfl,_,rfl⟩,_,zX _ rfl,rfl⟩
def Nr(h:PA X es t):PE X (.List es pos) (PJ t):=by
 intro pins s σ H Q I hq;refine wpAny_List_spliced (bR (h pos pins s σ H _ I hq) λus s1 ⟨xs,H1,I1,r,z,q⟩=>⟨by rw[<- r.length];exact z,?_⟩);have hf:H1 s1.heap.objs.size=none:=I1.hok.fresh (yM _);refine⟨.ref s1.heap.objs.size,upd H1 s1.heap.objs.size (.lst xs),I1.laid (t':=s1.toks) (λb u e=>zU _ e) (yM _) ?_,rfl,q _ hf⟩;exact⟨z,us,0,r,zX _ rfl⟩
abbrev Sp:=List V->Hp->VK->XK->Prop
abbrev Ks:=List Env->Hp->Shared->XK->Value->Shared->Prop
structure IG(P:Program)(w:World)(K:W.Frag)(mg:Str->Option Value)(base:Heap)(A:Around)(outer:List Env)(s:Shared)(H:Hp):Prop where
 frames:A.frames=some outer
 mod:Mod K mg base
 bs:∀b o,base.get? b=some o->s.heap.get? b=some o/\H b=none
 bsz:base.objs.size<=s.heap.objs.size
 funs:s.heap.FunFrames base outer
 frf:∀b∈EM outer,H b=none
 hok:oz P w H s.heap
 bare:AllBare s.gens
def CE(outer:List Env)(P:Program)(w:World)(H:Hp)(s:Shared)(Q:VK)(u:Value)(s':Shared):Prop :=
 ∃v H',s'.os=s.os/\AllBare s'.gens/\Un (EM outer) [] H H' s.heap s'.heap/\oz P w H' s'.heap/\RelV v u/\Q v H'
def CR(CX:Ks)(outer:List Env)(P:Program)(w:World)(H:Hp)(s:Shared)(Q:VK)(E:XK)(r:Result)(s':Shared):Prop :=
 match r with
 | .ok (.ret u)=>CE outer P w H s Q u s'
 | .ok _=>False
 | .error e=>CX outer H s E e s'
structure pq(P:Program)(w:World)(K:W.Frag)(mg:Str->Option Value)(base:Heap)(CX:Ks)(k:Nat)(f:Addr)(fd:FuncData)(ps:List Str)(sp:Sp):Prop where
 len:∀vs H Q E,sp vs H Q E->vs.length=ps.length
 run:∀ (A:Around) (outer:List Env) (s:Shared) (H:Hp) (args:Args) (us:List Value) (vs:List V) (Q:VK) (E:XK),eF k A->IG P w K mg base A outer s H->BindsTo s fd args (ps.zip us)->aH vs us->sp vs H Q E ->
  codeAny (model P w) A (.call (.ref f) args) (CR CX outer P w H s Q E) s
def pq.mono{K:W.Frag}(F:pq P w K mg base CX j f fd ps sp)(h:j<=k) :
  pq P w K mg base CX k f fd ps sp:=⟨F.len,λA outer s H args us vs Q E hr=>F.run A outer s H args us vs Q E (hr.mono h)⟩
def Inv.env0(I:Inv X pins σ H s):IG X.prog X.w X.K X.mg X.base X.A X.stack s H :=
 ⟨I.ok.frames,I.ok.mod,I.bs,yD I.ok.bsz I.sz,I.stack,I.stkFree,I.hok,I.bare⟩
def Inv.after(I:Inv X pins σ H s)(h:CE X.stack X.prog X.w H s Q u s'):EP X pins σ Q u s':=by
 let⟨v,H',os,bare,un,hok,r,q⟩:=h;let⟨hh,g,d,t,os'⟩:=s';obtain rfl:os'=s.os:=os;exact⟨v,H',I.call (h':=hh) (g':=g) (d':=d) (t':=t) (ch:=[]) un hok bare (λb z=>absurd z (by simp)),r,q⟩
def Oj(sp:Sp)(dvs:List V)(E:XK)(t:TA):TE:=λσ H Q=>t σ H λvs H1=>sp (vs++dvs) H1 Q E
def Binds(K:W.Frag)(fd:FuncData)(ps:List Str)(ds:List Value):Prop :=
 ∀ (s:Shared) (us:List Value),K.In s.heap->(us++ds).length=ps.length->BindsTo s fd ⟨us,[]⟩ (ps.zip (us++ds))
def Binds.all{K:W.Frag}(h:∀us:List Value,us.length=ps.length->bindArgs fd ⟨us,[]⟩=pure (ps.zip us)):Binds K fd ps []:=λs us _ hl=>by
 rw[qF] at hl ⊢;exact .of_eq (h us hl)
def z9(CX:Ks)(X:Cx)(E:XK):Prop:=∀ (pins:List (Addr×Obj)) (σ:St) (H:Hp) (s:Shared) (e:Value) (s':Shared),Inv X pins σ H s->CX X.stack H s E e s'->X.xe e s'
def NH(F:pq X.prog X.w X.K X.mg X.base CX k f fd ps sp)(hr:eF k X.A)(hb:Binds X.K fd ps ds)(hd:aH dvs ds)(hx:z9 CX X E)
  (I:Inv X pins σ H s) (r:aH vs us) (h:sp (vs++dvs) H Q E):wpAny (model X.prog X.w) X.A (call (.ref f) us) (EP X pins σ Q) X.xe s:=by
 have r2:aH (vs++dvs) (us++ds):=r.append hd;have hl:(us++ds).length=ps.length:=by rw[<- r2.length];exact F.len _ _ _ _ h
 refine wpAny_call (jR (F.run X.A X.stack s H ⟨us,[]⟩ (us++ds) (vs++dvs) Q E hr I.env0 (hb s us I.kIn hl) r2 h) λr s' hq=>?_);cases r with
 | error e=>exact hx pins σ H s e s' I hq
 | ok fl =>
  cases fl with
  | ret u=>exact I.after hq
  | next=>exact False.elim hq
  | brk=>exact False.elim hq
  | cont=>exact False.elim hq
def Iu(F:pq X.prog X.w X.K X.mg X.base CX k f fd ps sp)(hr:eF k X.A)(hg:Gl X x)(hm:X.mg x=some (.ref f))(hk:W.keepIn X.K (.ref f)=true)(hb:Binds X.K fd ps ds)(hd:aH dvs ds)(hx:z9 CX X E)
  (ha:PA X (e::es) t) (hdb:(x == ("__debug__":Str))=false:=by decide) (he:starEach (e::es) X.env=(false,eval e X.env)::starEach es X.env:=by rfl) (hpl:(backTo pos (starEach es X.env)).any (·.1)=false:=by rfl) :
  PE X (.Call (.Name x p) (e::es) [] pos) (Oj sp dvs E t):=by
 intro pins s σ H Q I h;refine qY (Cm I hg hm ?_ hdb);refine W.callWith_K (h₀:=X.base) I.ok.mod.kin hk (bR (ha pos pins s σ H _ I h) λus s1 ⟨vs,H1,I1,r,q⟩=>⟨I1.kIn,?_⟩) he hpl;exact NH F hr hb hd hx I1 r q
structure d6(N P:List Str)(sc:Scope):Prop where
 kind:sc.kind=.function
 co:sc.isCoroutine=false
 gen:sc.isGenerator=false
 nd:N.Nodup
 pre:N.take P.length=P
 par:∀x∈P,sc.names.lookup x=some .local \/ sc.names.lookup x=some .cell
 nofree:∀y∈sc.names,y.2≠.free
def sf{kindOf:Str->Option NameKind}:∀ {binds:List (Str×Value)}{m:Str->Option Value},(∀v,(x,v)∉binds)->bindL kindOf binds m x=m x
 | [],_,_=>rfl
 | (n,v)::r,m,h=>by
  unfold bindL;rw[sf λw hw=>h w (zC _ hw)];split
  ·have:x≠n:=by rintro rfl;exact h v zE
   simp[this]
  ·rfl
def sP{kindOf:Str->Option NameKind}:∀ {binds:List (Str×Value)}{m:Str->Option Value},(∀v,(x,v)∉binds)->bindC kindOf binds m x=m x
 | [],_,_=>rfl
 | (n,v)::r,m,h=>by
  unfold bindC;rw[sP λw hw=>h w (zC _ hw)];split
  ·rfl
  ·have:x≠n:=by rintro rfl;exact h v zE
   simp[this]
def rM{kindOf:Str->Option NameKind}:∀ {P:List Str}{vs:List Value}{i:Nat}{m:Str->Option Value},P.Nodup->P[i]?=some x->vs[i]?=some v->kindOf x=some .local ->
  bindL kindOf (P.zip vs) m x=some v
 | [],_,_,_,_,h,_,_=>by simp at h
 | _::_,[],_,_,_,_,h,_=>by simp at h
 | p::P,w::vs,0,m,nd,h1,h2,hk=>by
  simp at h1 h2;subst h1;subst h2;show bindL kindOf ((p,w)::P.zip vs) m p=_;unfold bindL;rw[sf λv hv=>(List.nodup_cons.mp nd).1 (vO hv).1,yL hk];simp
 | p::P,w::vs,i+1,m,nd,h1,h2,hk=>by
  show bindL kindOf ((p,w)::P.zip vs) m x=_;unfold bindL;exact rM (i:=i) (List.nodup_cons.mp nd).2 (by simpa using h1) (by simpa using h2) hk
def sN{kindOf:Str->Option NameKind}:∀ {P:List Str}{vs:List Value}{i:Nat}{m:Str->Option Value},P.Nodup->P[i]?=some x->vs[i]?=some v->kindOf x≠some .local ->
  bindC kindOf (P.zip vs) m x=some v
 | [],_,_,_,_,h,_,_=>by simp at h
 | _::_,[],_,_,_,_,h,_=>by simp at h
 | p::P,w::vs,0,m,nd,h1,h2,hk=>by
  simp at h1 h2;subst h1;subst h2;show bindC kindOf ((p,w)::P.zip vs) m p=_;unfold bindC;rw[sP λv hv=>(List.nodup_cons.mp nd).1 (vO hv).1,yN hk];simp
 | p::P,w::vs,i+1,m,nd,h1,h2,hk=>by
  show bindC kindOf ((p,w)::P.zip vs) m x=_;unfold bindC;exact sN (i:=i) (List.nodup_cons.mp nd).2 (by simpa using h1) (by simpa using h2) hk
def start(N:List Str)(vs:List V):St:=vs.map some++List.replicate (N.length - vs.length) none
def C3(CX:Ks)(P:Program)(w:World)(K:W.Frag)(mg:Str->Option Value)(base:Heap)(N:List Str)(qual:Str)(scope:Scope)(f:Addr)(cd:Value)(A:Around)(outer:List Env)(s:Shared)(H:Hp)(E:XK):Cx where
 prog:=P
 w:=w
 K:=K
 mg:=mg
 base:=base
 A:=A.deeper (envOfC qual scope s.heap.objs.size f cd)
 N:=N
 s₀:=s
 H₀:=H
 env:=envOfC qual scope s.heap.objs.size f cd
 outer:=outer
 stack:=envOfC qual scope s.heap.objs.size f cd::outer
 ex:=[]
 calm:=true
 fn:=λ_=>true
 pn:=[]
 xe:=λe s'=>wpAny (model P w) (A.deeper (envOfC qual scope s.heap.objs.size f cd)) (leaving (envOfC qual scope s.heap.objs.size f cd) e) (λ_ s''=>CX outer H s E e s'') (λe' s''=>CX outer H s E e' s'') s'
def o5{sc:Scope}{n:Nat}(h:sc.names.lookup x=some .cell):∃c,(cellsFrom n sc.names []).lookup x=some c:=by
 have q:=W.cellsFrom_some sc.names n [] (.inl h);exact Option.isSome_iff_exists.mp q
def C4{CX:Ks}{K:W.Frag}{mg:Str->Option Value}{ps:List Str}{scope:Scope}{cd:Value}{A:Around}{outer:List Env}{s:Shared}{E:XK}{us:List Value}{vs:List V}
  (S:d6 N ps scope) (hd:A.handled=none) (e0:IG P w K mg base A outer s H) (hl:vs.length=ps.length) (r:aH vs us)
  (x:InCallC s s.heap.objs.size (bindL (envOfC qual scope s.heap.objs.size f cd).kindOf (ps.zip us) λ_=>none) (cellsFrom (s.heap.objs.size+1) scope.names []) (bindC (envOfC qual scope s.heap.objs.size f cd).kindOf (ps.zip us) λ_=>none) s1) :
  Inv (C3 CX P w K mg base N qual scope f cd A outer s H E) [] (start N vs) H s1:=by
 have hpl:ps.length<=N.length:=by have:=jC List.length S.pre;rw[jV] at this;lia
 let⟨h1,tk,rfl,hk⟩:=x.done;have noA:∀b:Addr,b∉(C3 CX P w K mg base N qual scope f cd A outer s H E).ex:=λb z=>absurd (show b∈([]:List Addr) from z) (by simp);refine⟨⟨e0.mod,S.kind,rfl,rfl,yM _,λy z c h1 h2=>?_,λy hy=>?_,λy c _ h=>?_,λ_=>hd,Around.frames_deeper e0.frames,.inr ⟨rfl,rfl⟩,λb z=>absurd z (noA b),e0.bs,e0.bsz,λb _ _=>noA b,λb z=>absurd z (noA b),e0.funs,e0.frf⟩,
  rfl,e0.bare,Un.kept hk,⟨_,x.toInCall.ns,λi y v h1 h2 h3=>?_⟩,λy c h=>⟨_,x.cell y c h⟩,e0.hok.fresh (yM _),λy c h=>?_,λp hp=>absurd (show p∈([]:List (Addr×Obj)) from hp) (by simp),e0.hok.kept hk,?_⟩
 ·exact name_of_addr x.apart (jY h1) (jY h2)
 ·have hy:scope.names.lookup y=some .cell\/scope.names.lookup y=some .free:=hy;rcases hy with hy|hy
  ·exact o5 hy
  ·exact absurd rfl (S.nofree _ (jY hy))
 ·exact jS (x.above y c (jY h))
 ·have hi:i < vs.length:=by
   unfold start at h2;by_cases hi:i < vs.length
   ·exact hi
   ·rw[yT (by simpa using hi)] at h2;rw[yX] at h2;split at h2<;>cases h2
  have ha:vs[i]?=some v:=by
   unfold start at h2;rw[yS (by simpa using hi),zO] at h2;cases e:vs[i]? with
   | none=>rw[e] at h2;cases h2
   | some a=>rw[e] at h2;cases h2;rfl
  let⟨u,hu,rv⟩:=r.get ha;have hp:ps[i]?=some y:=by
   rw[<- S.pre,List.getElem?_take_of_lt (by lia)];exact h1
  have ndP:ps.Nodup:=by rw[<- S.pre];exact S.nd.sublist (List.take_sublist _ _)
  refine⟨u,rv,?_⟩;rcases S.par y (qB hp) with k|k
  ·exact .inl ⟨k,rM ndP hp hu k⟩
  ·let⟨c,e⟩:=o5 (n:=s.heap.objs.size+1) k;refine .inr ⟨.inl k,c,e,?_⟩;have q:=x.cell y c e;rw[sN ndP hp hu (by show scope.names.lookup y≠_;rw[k];decide)] at q;exact q
 ·exact e0.hok.fresh (jS (x.above y c (jY h)))
 ·unfold start;show _=N.length;rw[zN,zD,xM];lia
def NU{K:W.Frag}{kV:Value}
  {osl:Array (Option Value)}{N ps:List Str}{sp:Sp}(lk:K.lookup f=some ⟨oc,od,.func (W.fnOf name qual params body scope dV kV doc pm an cdv ct),osl⟩) (hcd:W.codeIn K cdv qual=true) (S:d6 N ps scope)
  (len:∀vs H Q E,sp vs H Q E->vs.length=ps.length)
  (hbody:∀ (A:Around) (outer:List Env) (s:Shared) (H:Hp) (vs:List V) (Q:VK) (E:XK),eF k (A.deeper (envOfC qual scope s.heap.objs.size f cdv))->sp vs H Q E ->
   ∃t,As (C3 CX P w K mg base N qual scope f cdv A outer s H E) body t/\t { nx:=λ_ H'=>Q .non H',rt:=Q } (start N vs) H) :
  pq P w K mg base CX (k+1) f (W.fnOf name qual params body scope dV kV doc pm an cdv ct) ps sp:=by
 refine⟨len,λA outer s H args us vs Q E hr e0 hb r hsp=>?_⟩;have hl:=len _ _ _ _ hsp;have KX:K.In s.heap:=e0.mod.kin.keeps λb o e=>(e0.bs b o e).1;have lim:s.heap.NoLimit:=e0.mod.nolimit.keeps λb o e=>(e0.bs b o e).1;have hkind:∀y∈ps.zip us,scope.names.lookup y.1=some .local \/ (scope.names.lookup y.1=some .cell/\((cellsFrom (s.heap.objs.size+1) scope.names []).lookup y.1).isSome=true):=λ⟨n,v⟩ hy=>by
  rcases S.par n (vO hy).1 with q|q
  ·exact .inl q
  ·exact .inr ⟨q,W.cellsFrom_some _ _ _ (.inl q)⟩
 refine codeAny_call_function hr.depth (KX _ _ lk) rfl S.co S.gen rfl (W.codeRec_of KX hcd) (hb _ _ _ _ ?_);refine wpAny_newFunctionEnv_cells S.kind hkind λenv he s1 x=>?_;subst he;refine⟨lim.keeps x.toInCall.keep,codeAny_func ?_⟩;let⟨t,ht,hq⟩:=hbody A outer s H vs Q E (hr.deeper _) hsp;have I:Inv (C3 CX P w K mg base N qual scope f cdv A outer s H E) [] (start N vs) H s1:=C4 S hr.hd e0 hl r x;refine xA (ht [] s1 (start N vs) H _ I hq) (λfl s' hs=>?_) λe s' hs=>hs;have fin:∀ {σ':St}{H':Hp}{v:V}{u:Value},Inv (C3 CX P w K mg base N qual scope f cdv A outer s H E) [] σ' H' s'->RelV v u->Q v H'->CE outer P w H s Q u s' :=
  λ{σ' H' v u} J rv q=>⟨v,H',J.os,J.bare,J.base,J.hok,rv,q⟩
 cases fl with
 | ret u =>
  let⟨v,σ',H',J,rv,q⟩:=hs;exact fin J rv q
 | next =>
  let⟨σ',H',J,q⟩:=hs;exact fin (v:=V.non) (u:=Value.none) J rfl q
 | brk =>
  let⟨_,_,_,q⟩:=hs;exact False.elim q
 | cont =>
  let⟨_,_,_,q⟩:=hs;exact False.elim q
section
variable {id T:String}
def Px(r:List V->Hp->VK->Prop)(t:TA):TE:=λσ H Q=>t σ H λvs H1=>r vs H1 Q
def mw(hc:dq X (.builtin id) r)(hg:Gl X x)(hm:X.mg x=none)(hv:bootBuiltins x=some (.builtin id))(ha:PA X (e::es) t)(hn:x≠"__name__":=by decide)(hdb:(x == ("__debug__":Str))=false:=by decide)
  (he:starEach (e::es) X.env=(false,eval e X.env)::starEach es X.env:=by rfl) (hpl:(backTo pos (starEach es X.env)).any (·.1)=false:=by rfl):PE X (.Call (.Name x p) (e::es) [] pos) (Px r t):=by
 intro pins s σ H Q I h;refine qY (gE I hg hm hv ?_ hn hdb);exact PyProof.Rows.callWith_builtin1 (bR (ha pos pins s σ H _ I h) λus s1 ⟨vs,H1,I1,r1,q1⟩=>hc pins s1 σ H1 vs us Q I1 r1 q1) he hpl
def sy(hc:dq X (.type T) r)(hg:Gl X x)(hm:X.mg x=none)(hv:bootBuiltins x=some (.type T))(ha:PA X (e::es) t)(hn:x≠"__name__":=by decide)(hdb:(x == ("__debug__":Str))=false:=by decide)
  (he:starEach (e::es) X.env=(false,eval e X.env)::starEach es X.env:=by rfl) (hpl:(backTo pos (starEach es X.env)).any (·.1)=false:=by rfl):PE X (.Call (.Name x p) (e::es) [] pos) (Px r t):=by
 intro pins s σ H Q I h;refine qY (gE I hg hm hv ?_ hn hdb);exact qS (bR (ha pos pins s σ H _ I h) λus s1 ⟨vs,H1,I1,r1,q1⟩=>hc pins s1 σ H1 vs us Q I1 r1 q1) he hpl
end
end L2
namespace HT
open PySem PyProof.Rows
def lexLt:List Int->List Int->Bool
 | [],[]=>false
 | [],_::_=>true
 | _::_,[]=>false
 | x::xs,y::ys=>if x=y then lexLt xs ys else decide (x < y)
def dP(x y:Int)(xs ys:List Int):lexLt (x::xs) (y::ys)=if x=y then lexLt xs ys else decide (x < y):=rfl
section
open PySem.SeqAt
open PySem.AutoSeq1 (wpAny_loadPart')
open PySem.MeetsSeq PySem.MeetsSeq2 PySem.MeetsSeq3
end
def Jl(ht:IsTup s.heap t vs.toArray)(hb:IsTup s.heap b ws.toArray)(hv:vs≠[])
  (h1:ws=[]->Q (.ref t) s) (h2:ws≠[]->Q (.ref s.heap.objs.size) { s with heap:=s.heap.push { cls:=.type "tuple",data:=.seq (vs++ws).toArray } })
  (hsz:vs.length+ws.length<=sizeLine):wpAny (model prog w) A (binaryOp .Add (.ref t) (.ref b)) Q E s:=by
 let⟨⟨cls,dd,data,sl⟩,ho,hc,n,hd⟩:=id ht;let⟨⟨cls2,dd2,data2,sl2⟩,ho2,hc2,n2,hd2⟩:=id hb;simp only at hc hd hc2 hd2;subst hc hd hc2 hd2;have e:vs.toArray++ws.toArray=(vs++ws).toArray:=by simp
 by_cases hw:ws=[]
 ·exact wF ⟨_,ho,rfl⟩ ⟨_,ho2,rfl⟩ noFill_tuple_add seq_tuple_add vI vE (vC _ _)
   (tuple_addW1 t b vs.toArray ws.toArray n n2 dd dd2 sl sl2 (by simpa using hv) (by simp[hw])) ⟨ho,ho2,h1 hw⟩
 ·refine wF ⟨_,ho,rfl⟩ ⟨_,ho2,rfl⟩ noFill_tuple_add seq_tuple_add vI vE (vC _ _)
   (tuple_addW2 t b vs.toArray ws.toArray n n2 dd dd2 sl sl2 (by simpa using hv) (by simpa using hw) (by rw[zH,zH];exact hsz)) ⟨ho,ho2,?_⟩
  rw[e];exact h2 hw
def bw(n d:Nat):Option Int->Nat
 | none=>d
 | some v=>if v < 0 then (v+(n:Int)).toNat else min v.toNat n
def vy(n d:Nat):bw n d none=d:=rfl
def BA(n d k:Nat):bw n d (some (k:Int))=min k n:=by
 show (if (k:Int) < 0 then ((k:Int)+(n:Int)).toNat else min (k:Int).toNat n)=min k n;rw[yN (by lia),yG]
def i6(n d:Nat)(hd:d<=n)(o:Option Int):bw n d o<=n:=by
 cases o with
 | none=>exact hd
 | some v =>
  show (if v < 0 then (v+(n:Int)).toNat else min v.toNat n)<=n;by_cases hv:v < 0
  ·rw[yL hv];lia
  ·rw[yN hv];exact Nat.min_le_right _ _
def AY(v:Int)(n d:Nat):(if v < 0 then max (v+(n:Int)) 0 else min v (n:Int))=((bw n d (some v):Nat):Int):=by
 show (if v < 0 then max (v+(n:Int)) 0 else min v (n:Int))=(((if v < 0 then (v+(n:Int)).toNat else min v.toNat n):Nat):Int)
 by_cases hv:v < 0
 ·simp?[yL hv];lia
 ·simp?[yN hv];lia
def zd(lo hi:Option Int)(n:Nat):Builtin.Slice.sliceAdjust lo hi 1 (n:Int)=(((bw n 0 lo:Nat):Int),((bw n n hi:Nat):Int)):=by
 have h1:¬ ((1:Int) < 0):=by lia
 unfold Builtin.Slice.sliceAdjust;simp?[h1,qP];refine Prod.ext ?_ ?_
 ·cases lo with
  | none=>rfl
  | some v=>exact AY v n 0
 ·cases hi with
  | none=>rfl
  | some v=>exact AY v n n
def Aj(i j:Nat):Builtin.Slice.slicePlaces (i:Int) (j:Int) 1=j - i:=by
 unfold Builtin.Slice.slicePlaces;have h1:(1:Int) > 0:=by lia
 simp?[h1,xH,Int.ediv_one];split<;>lia
def qc(p:IsPart v o)(h:Q o s):wpAny (model prog w) A (Builtin.Slice.slicePartIndex v) Q E s:=by
 cases p with
 | none=>exact slicePart_none h
 | int i t=>exact slicePart_int h
def g8{vl:Value}{lo hi:Option Int}{n:Nat}{Q:Int×Int×Nat->Shared->Prop}(hs:s.heap.IsSliceOf sl vl vu .none)(pl:IsPart vl lo)(pu:IsPart vu hi)
  (h:Q (((bw n 0 lo:Nat):Int),1,bw n n hi - bw n 0 lo) s):wpAny (model prog w) A (Builtin.Slice.sliceApplied (.ref sl) (pure (n:Int))) Q E s:=by
 let⟨os,hos,hcs,hds⟩:=id hs;unfold Builtin.Slice.sliceApplied Builtin.Slice.sliceFields;refine zV (zV (qT hos hds (x:=vl) rfl (zV (qT hos hds (x:=vu) rfl (zV (qT hos hds (x:=.none) rfl (zW ?_)))))));refine zV (slicePart_none ?_);show wpAny _ _ (if ((1:Int) == 0)=true then _ else _) _ _ s;rw[yN (by decide)];refine zV (qc pl (zV (qc pu (zV (zW ?_)))));show wpAny _ _ (match Builtin.Slice.sliceAdjust lo hi 1 (n:Int) with|(lo,hi)=>pure (lo,(1:Int),Builtin.Slice.slicePlaces lo hi 1)) _ _ s;rw[zd lo hi n];show wpAny _ _ (pure (((bw n 0 lo:Nat):Int),(1:Int),Builtin.Slice.slicePlaces ((bw n 0 lo:Nat):Int) ((bw n n hi:Nat):Int) 1)) _ _ s;rw[Aj];exact zW h
def FU(xs:Array Value)(i k:Nat):((List.range k).filterMap λ(m:Nat)=>xs[((i:Int)+(m:Int) * 1).toNat]?).toArray=((xs.toList.drop i).take k).toArray:=by
 have e:(λ(m:Nat)=>xs[((i:Int)+(m:Int) * 1).toNat]?)=λm=>xs[i+m]?:=by
  funext m;have:((i:Int)+(m:Int) * 1).toNat=i+m:=by lia
  rw[this]
 rw[e];have:=pick_run xs i k;rw[List.filterMap_map] at this;have e2:((λx=>xs[x]?) ∘ λx=>i+x)=λm=>xs[i+m]?:=rfl;rw[e2] at this;rw[this]
def l4{items:Array Value}{vl:Value}{lo:Option Int}(ht:IsTup s.heap t items)(hs:s.heap.IsSliceOf sl vl vu .none)(pl:IsPart vl lo)(pu:IsPart vu hi)
  (hw:¬ (bw items.size 0 lo=0/\bw items.size items.size hi=items.size))
  (h:Q (.ref s.heap.objs.size) { s with heap:=s.heap.push { cls:=.type "tuple",data:=.seq ((items.toList.drop (bw items.size 0 lo)).take (bw items.size items.size hi - bw items.size 0 lo)).toArray } })
  (hsz:items.size<=sizeLine):wpAny (model prog w) A (getItem (.ref t) (.ref sl)) Q E s:=by
 have htake:sizeOk (.seq ((items.toList.drop (bw items.size 0 lo)).take (bw items.size items.size hi - bw items.size 0 lo)).toArray):=by
  show ((items.toList.drop (bw items.size 0 lo)).take (bw items.size items.size hi - bw items.size 0 lo)).toArray.size<=sizeLine;rw[zH,jV,qH,vX];lia
 have hj:bw items.size items.size hi<=items.size:=i6 _ _ (yM _) hi;let⟨os,hos,hcs,hds⟩:=id hs;have hTs:s.TypeIs (.ref sl) "slice":=⟨os,hos,hcs⟩
 unfold getItem
 try with_reducible refine xX ?_
 first|refine zV (zW ?_)|skip
 refine zV (wpAny_sequenceKey ht.typeIs (by decide) ?_);refine zV (qC (name:=Str.ofString "__getitem__") ht.typeIs jF
  (qV jF ht.typeIs entry_tuple_getitem ?_ (args_tuple_getitem _ _)))
 show wpAny _ _ (Builtin.Tuple.tupleItemsOf (.ref t) >>= _) _ _ s;refine zV (tupleItemsOf_ ht ?_);refine zV (wC hTs ?_);rw[yL (by decide)];refine zV (g8 hs pl pu ?_);have hno:¬ ((((bw items.size 0 lo:Nat):Int) == 0&&(1:Int) == 1&&(bw items.size items.size hi - bw items.size 0 lo) == items.size)=true):=by
  intro q;rw[zF,zF] at q;have q1:((bw items.size 0 lo:Nat):Int)=0:=eq_of_beq q.1.1;have q2:bw items.size items.size hi - bw items.size 0 lo=items.size:=eq_of_beq q.2;exact hw ⟨by lia,by lia⟩
 show wpAny _ _ (if (((bw items.size 0 lo:Nat):Int) == 0&&(1:Int) == 1&&(bw items.size items.size hi - bw items.size 0 lo) == items.size)=true then _ else _) _ _ s;rw[yN hno,FU]
 first
  | exact zV (m:=Builtin.Tuple.tupleExact _) (qL (zW ⟨_,rfl,zW h⟩) htake)
  | exact zV (m:=Builtin.Tuple.tupleExact _) (qL (zV (zW (zW ⟨_,rfl,zW h⟩))) htake)
  | exact zV (zV (m:=Builtin.Tuple.tupleExact _) (qL (zW (zW ⟨_,rfl,zW h⟩)) htake))
  | exact zV (zV (m:=Builtin.Tuple.tupleExact _) (qL (zW ⟨_,rfl,zW h⟩) htake))
end HT
namespace L2
open PySem PySem.Spec PyProof.Rows
abbrev TO:=St->Hp->(Option Int->Hp->Prop)->Prop
def PO(X:Cx)(e:Option Expr)(t:TO):Prop :=
 ∀ (pins:List (Addr×Obj)) (s:Shared) (σ:St) (H:Hp) (Q:Option Int->Hp->Prop),Inv X pins σ H s->t σ H Q ->
  wpAny (model X.prog X.w) X.A (evalPart e X.env) (λu s'=>∃o H',Inv X pins σ H' s'/\IsPart u o/\Q o H') X.xe s
def JS:TO:=λ_ H Q=>Q none H
def Ol(t:TE):TO:=λσ H Q=>t σ H λx H1=>∃i,x=.int i/\Q (some i) H1
def intsAre_of:∀ {us:List Value},aH (ns.map V.int) us->IntsAre us ns:=by
 induction ns with
 | nil=>intro us r;rw[yU] at r;cases r;exact .nil
 | cons n ns ih =>
  intro us r;rw[zI] at r;cases r with
  | cons r1 r2 =>
   let⟨t,e⟩:=r1;subst e;exact .cons n t (ih r2)
section
variable {lo hi:Option Expr}
def IP:PO X none JS:=by
 intro pins s σ H Q I h;rw[evalPart_none];exact zW ⟨none,H,I,.none,h⟩
def ui(h:PE X e te):PO X (some e) (Ol te):=by
 intro pins s σ H Q I hw;rw[evalPart_some];refine bR (h pins s σ H _ I hw) λu s1 ⟨x,H1,I1,r1,q1⟩=>?_;let⟨i,rfl,q⟩:=q1;let⟨t,rfl⟩:=r1;exact⟨some i,H1,I1,.int i t,q⟩
def IT(X:Cx)(r:V->Option Int->Option Int->Hp->VK->Prop):Prop :=
 ∀ (pins:List (Addr×Obj)) (s:Shared) (σ:St) (H:Hp) (x:V) (v vl vu:Value) (lo hi:Option Int) (sl:Addr) (Q:VK),Inv X pins σ H s->RelV x v->s.heap.IsSliceOf sl vl vu .none->IsPart vl lo->IsPart vu hi->r x lo hi H Q ->
  ∃T id,typeLookup (.type T) "__getitem__"=pure (some (.builtin id))/\s.TypeIs v T/\wpAny (model X.prog X.w) X.A (getItem v (.ref sl)) (EP X pins σ Q) X.xe s
def IT.or(h:IT X r)(h':IT X r'):IT X (λx lo hi H Q=>r x lo hi H Q\/r' x lo hi H Q):=by
 intro pins s σ H x v vl vu lo hi sl Q I rx hs pl pu q;rcases q with q|q
 ·exact h pins s σ H x v vl vu lo hi sl Q I rx hs pl pu q
 ·exact h' pins s σ H x v vl vu lo hi sl Q I rx hs pl pu q
def Rr(r:V->Option Int->Option Int->Hp->VK->Prop)(te:TE)(tl th:TO):TE:=λσ H Q=>te σ H λx H1=>tl σ H1 λl H2=>th σ H2 λu H3=>r x l u H3 Q
def wx(hr:IT X r)(he:PE X e te)(hl:PO X lo tl)(hu:PO X hi th):PE X (.Subscript e (.Slice lo hi none p2) pos) (Rr r te tl th):=by
 intro pins s σ H Q I h;refine Subscript_ (bR (he pins s σ H _ I h) λv s1 ⟨x,H1,I1,r1,q1⟩=>?_);refine wpAny_Slice (bR (hl pins s1 σ H1 _ I1 q1) λvl s2 ⟨l,H2,I2,pl,q2⟩=>bR (hu pins s2 σ H2 _ I2 q2) λvu s3 ⟨u,H3,I3,pu,q3⟩=>?_);rw[evalPart_none];refine zW ?_;have I4:Inv X pins σ H3 { s3 with heap:=s3.heap.push { cls:=.type "slice",data:=.fields #[vl,vu,.none] } }:=I3.kept (t':=s3.toks) λb ob q=>zU _ q;let⟨T,id,hT,ht,hg⟩:=hr pins { s3 with heap:=s3.heap.push { cls:=.type "slice",data:=.fields #[vl,vu,.none] } } σ H3 x v vl vu l u s3.heap.objs.size Q I4 r1 (Heap.IsSliceOf.new ..) pl pu q3;show wpAny (model X.prog X.w) X.A (subscriptTail e (.Slice lo hi none p2) v (.ref s3.heap.objs.size)) (EP X pins σ Q) X.xe { s3 with heap:=s3.heap.push { cls:=.type "slice",data:=.fields #[vl,vu,.none] } };exact tail_any (ops:=[.ref s3.heap.objs.size,v]) ht hT hg (by with_unfolding_all rfl)
def HW(xs:List V)(lo hi:Option Int):List V:=(xs.drop (HT.bw xs.length 0 lo)).take (HT.bw xs.length xs.length hi - HT.bw xs.length 0 lo)
def vd(xs:List V)(lo hi:Option Int):(HW xs lo hi).length<=xs.length:=by
 unfold HW;rw[jV,qH];lia
def Qq(K:W.Frag):V->Option Int->Option Int->Hp->VK->Prop:=λx lo hi H Q=>∃a xs,x=.ref a/\eD K H a xs /\
 ¬ (HT.bw xs.length 0 lo=0/\HT.bw xs.length xs.length hi=xs.length)/\∀p,H p=none->Q (.ref p) (upd H p (.tup (HW xs lo hi)))
def L3:IT X (Qq X.K):=by
 intro pins s σ H x v vl vu lo hi sl Q I rx hs pl pu h;let⟨a,xs,rfl,hx,hw,q⟩:=h;cases rx;let⟨its,r,ht,hz⟩:=I.tuple hx;have hlen:its.toArray.size=xs.length:=by rw[zH];exact r.length.symm
 refine⟨"tuple",_,PyProof.Rows.slot_tuple_getitem.lookup,ht.typeIs,?_⟩;refine HT.l4 ht hs pl pu (by rw[hlen];exact hw) ?_ (by rw[hlen];exact hz);rw[hlen];refine⟨.ref s.heap.objs.size,_,I.laid (t':=s.toks) (o:=.tup (HW xs lo hi)) (λb ob q=>zU _ q) (yM _) ?_,rfl,q _ (I.hok.fresh (yM _))⟩;exact⟨yD (vd xs lo hi) hz,_,(r.drop (HT.bw xs.length 0 lo)).take (HT.bw xs.length xs.length hi - HT.bw xs.length 0 lo),oa.new _ _⟩
def Om(K:W.Frag):R2:=λx y H Q=>∃a b xs ys,x=.ref a/\y=.ref b/\eD K H a xs/\eD K H b ys/\xs≠[]/\xs.length+ys.length<=sizeLine /\
 (ys=[]->Q (.ref a) H)/\(ys≠[]->∀p,H p=none->Q (.ref p) (upd H p (.tup (xs++ys))))
def aH.nil_iff(r:aH xs us):us=[]↔xs=[]:=by
 cases r with
 | nil=>simp
 | cons _ _=>simp
def IE:fT X (binaryOp .Add) (Om X.K):=by
 intro pins s σ H x y v u Q I rx ry h;let⟨a,b,xs,ys,rfl,rfl,ha,hb,hx,hz,q1,q2⟩:=h;cases rx;cases ry;let⟨its,r1,p1,_⟩:=I.tuple ha;let⟨its2,r2,p2,_⟩:=I.tuple hb;refine HT.Jl p1 p2 (λz=>hx (r1.nil_iff.mp z)) (λz=>⟨.ref a,H,I,rfl,q1 (r2.nil_iff.mp z)⟩) (λz=>?_) (by rw[<- r1.length,<- r2.length];exact hz);refine⟨.ref s.heap.objs.size,_,I.laid (t':=s.toks) (o:=.tup (xs++ys)) (λb ob q=>zU _ q) (yM _) ?_,rfl,q2 (λw=>z (r2.nil_iff.mpr w)) _ (I.hok.fresh (yM _))⟩;exact⟨by rw[zN];exact hz,_,r1.append r2,oa.new _ _⟩
end
def DQ(n:Nat)(i:Int):Option Nat:=if 0<=i then (if i < n then some i.toNat else none) else if -(n:Int)<=i then some (i+n).toNat else none
def oe(xs:List α)(i:Int):Option α:=(DQ xs.length i).bind λj=>xs[j]?
def Bb(h:DQ n i=some j):seqIndex? i n=some j/\j < n/\-(n:Int)<=i/\i < n:=by
 unfold DQ at h;by_cases h0:0<=i
 ·rw[yL h0] at h;by_cases h1:i < n
  ·rw[yL h1] at h;have e:i.toNat=j:=xD h;exact⟨by rw[seqIndex_of h0 h1,e],by lia,by lia,h1⟩
  ·rw[yN h1] at h;cases h
 ·rw[yN h0] at h;by_cases h1:-(n:Int)<=i
  ·rw[yL h1] at h;have e:(i+n).toNat=j:=xD h;exact⟨by rw[seqIndex_neg (by lia) h1,e],by lia,h1,by lia⟩
  ·rw[yN h1] at h;cases h
def tq(h:oe xs i=some v):∃j,seqIndex? i xs.length=some j/\xs[j]?=some v/\j < xs.length/\-(xs.length:Int)<=i/\i < xs.length:=by
 unfold oe at h;cases e:DQ xs.length i with
 | none=>rw[e] at h;cases h
 | some j =>
  rw[e] at h;let⟨h1,h2,h3,h4⟩:=Bb e;exact⟨j,h1,h,h2,h3,h4⟩
def BX{α:Type}{xs:List α}{j:Nat}{v:α}(h:xs[j]?=some v):oe xs (j:Int)=some v:=by
 have hj:j < xs.length:=(List.getElem?_eq_some_iff.mp h).1;have e:DQ xs.length (j:Int)=some j:=by
  unfold DQ;rw[yL (by lia),yL (by lia)];simp
 unfold oe;rw[e];exact h
def mh(b:Expr):Prop:=∀o i,subscripted b false o i=operate [o,i] (getItem o i)
def Hi(X:Cx)(r:R2):Prop :=
 ∀ (value slice:Expr) (pins:List (Addr×Obj)) (s:Shared) (σ:St) (H:Hp) (x y:V) (v u:Value) (Q:VK),Inv X pins σ H s->RelV x v->RelV y u->r x y H Q ->
  subscripted slice false v u=operate [v,u] (getItem v u)->wpAny (model X.prog X.w) X.A (subscriptTail value slice v u) (EP X pins σ Q) X.xe s
def Q0(X:Cx)(id:String)(r:V->List V->Hp->VK->Prop):Prop :=
 ∀ (pins:List (Addr×Obj)) (s:Shared) (σ:St) (H:Hp) (x:V) (xs:List V) (v:Value) (us:List Value) (Q:VK),Inv X pins σ H s->RelV x v->aH xs us->r x xs H Q ->
  wpAny (model X.prog X.w) X.A (call (.builtin id) (v::us)) (EP X pins σ Q) X.xe s
section
def Hi.or(h:Hi X r)(h':Hi X r'):Hi X (λx y H Q=>r x y H Q\/r' x y H Q):=by
 intro value slice pins s σ H x y v u Q I rx ry q hs;rcases q with q|q
 ·exact h value slice pins s σ H x y v u Q I rx ry q hs
 ·exact h' value slice pins s σ H x y v u Q I rx ry q hs
def Fo(hr:Hi X r)(ha:PE X a ta)(hb:PE X b tb)(hs:mh b):PE X (.Subscript a b pos) (Ob r ta tb):=by
 intro pins s σ H Q I h;exact Subscript_ (Nm ha hb I h λv u s2 x y H2 I2 rx ry q=>hr a b pins s2 σ H2 x y v u Q I2 rx ry q (hs _ _))
def OU(K:W.Frag):R2:=λx y H Q=>∃p xs i v,x=.ref p/\y=.int i/\gH K H p xs/\oe xs i=some v/\Q v H
def NV(K:W.Frag):R2:=λx y H Q=>∃p xs i v,x=.ref p/\y=.int i/\eD K H p xs/\oe xs i=some v/\Q v H
def Lk:R2:=λx y H Q=>∃z i c,x=.str z/\y=.int i/\z.length<=sizeLine/\oe z.cps.toList i=some c/\Q (.str ⟨#[c]⟩) H
def IS:Hi X (OU X.K):=by
 intro value slice pins s σ H x y v u Q I rx ry h hs;let⟨p,xs,i,z,rfl,rfl,hq,he,q⟩:=h;cases rx;let⟨t,rfl⟩:=ry;let⟨its,r,pl,hz⟩:=I.list hq;let⟨j,h1,h2,h3,h4,h5⟩:=tq he;let⟨w,ew,rw'⟩:=r.get h2;have hl:=r.length;have hn:=mT;have fin:EP X pins σ Q w s:=⟨z,H,I,rw',q⟩
 by_cases h0:0<=i
 ·have hj:i.toNat=j:=by
   rw[seqIndex_of h0 h5] at h1;exact xD h1
  exact item_listR pl.isList h0 (by lia) (by rw[hj];simpa using ew) fin hs
 ·have hj:(i+(its.toArray.size:Int)).toNat=j:=by
   rw[seqIndex_neg (by lia) h4] at h1;rw[zH,<- hl];exact xD h1
  exact subscriptTail_builtinR (x:=w) pl.isList.typeIs slot_list_getitem.lookup
   (wpAny_getItem_list_neg (Q:=λr s'=>r=w/\EP X pins σ Q r s') pl.isList (by lia) (by rw[zH]<;>lia) (by lia) (by rw[hj];simpa using ew) ⟨rfl,fin⟩) hs
def Aa:Hi X (NV X.K):=by
 intro value slice pins s σ H x y v u Q I rx ry h hs;let⟨p,xs,i,z,rfl,rfl,hq,he,q⟩:=h;cases rx;let⟨t,rfl⟩:=ry;let⟨its,r,pl,hz⟩:=I.tuple hq;let⟨j,h1,h2,h3,h4,h5⟩:=tq he;let⟨w,ew,rw'⟩:=r.get h2;have hl:=r.length;have hn:=mT;have fin:EP X pins σ Q w s:=⟨z,H,I,rw',q⟩
 exact subscriptTail_builtinR (x:=w) pl.typeIs slot_tuple_getitem.lookup
  (getItem_tuple (j:=j) (Q:=λr s'=>r=w/\EP X pins σ Q r s') pl (by lia) (by lia) (by rw[zH,<- hl];exact h1) (by simpa using ew) ⟨rfl,fin⟩) hs
def FI:Hi X Lk:=by
 intro value slice pins s σ H x y v u Q I rx ry h hs;let⟨z,i,c,rfl,rfl,hz,he,q⟩:=h;let⟨t,rfl⟩:=rx;let⟨t',rfl⟩:=ry;let⟨j,h1,h2,h3,h4,h5⟩:=tq he;have hl:z.cps.toList.length=z.length:=by simp[Str.length]
 rw[hl] at h1 h4 h5;have hn:=mT;exact tail_any (typeIs_str s z t) slot_str_getitem.lookup (getItem_str (c:=c) (by
  have e1:decide (i < -(2 ^ 63:Int))=false:=zZ (by lia);have e2:decide (i >= 2 ^ 63)=false:=zZ (by lia);rw[e1,e2,Bool.or_false]) (by rw[h1];simpa using h2) ⟨.str ⟨#[c]⟩,H,I.tok _,⟨_,rfl⟩,q⟩) hs
def QV(K:W.Frag):R2:=λx y H Q=>OU K x y H Q\/NV K x y H Q\/Lk x y H Q
def Nh:Hi X (QV X.K):=IS.or (Aa.or FI)
def yz(its:List Value)(n j:Nat)(u:Value):Obj.mapSeq (·.setIfInBounds j u) { cls:=.type "list",data:=.seq its.toArray n }={ cls:=.type "list",data:=.seq (its.set j u).toArray n }:=by
 simp[Obj.mapSeq]
def Inv.lst(I:Inv X pins σ H s)(h:H p=some (.lst xs)) :
  ∃ (its:List Value) (n:Nat),aH xs its/\s.heap.get? p=some { cls:=.type "list",data:=.seq its.toArray n }/\xs.length<=sizeLine:=by
 let⟨z,its,n,r,e⟩:=I.hok p _ h;exact⟨its,n,r,e,z⟩
def Inv.lstUpd{ys:List V}{its its':List Value}{n n':Nat}{f:Obj->Obj}(I:Inv X pins σ H s)(h:H p=some (.lst xs))
  (ho:s.heap.get? p=some { cls:=.type "list",data:=.seq its.toArray n }) (hf:f { cls:=.type "list",data:=.seq its.toArray n }={ cls:=.type "list",data:=.seq its'.toArray n' }) (r:aH ys its') (hz:ys.length<=sizeLine) (t:Nat) :
  Inv X pins σ (upd H p (.lst ys)) { s with heap:=s.heap.update p f,toks:=t }:=by
 have e:(s.heap.update p f).get? p=some { cls:=.type "list",data:=.seq its'.toArray n' }:=by
  rw[Heap.get?_update_self f ho (by rw[hf]<;>rfl),hf]
 refine I.write (x:=p) (e:=p) (by rw[h];trivial) (.inl rfl) (λb u hb q=>(xN _ _ (jM hb)).trans q) ⟨_,e⟩ ?_;exact⟨hz,its',n',r,e⟩
def N8:V->V->V->Hp->(Hp->Prop)->Prop:=λo i v H Q=>∃p xs k j,o=.ref p/\i=.int k/\H p=some (.lst xs)/\DQ xs.length k=some j/\Q (upd H p (.lst (xs.set j v)))
def set_list:Jz X N8:=by
 intro pins s σ H o i v ov iv u Q I ro ri rv h;let⟨p,xs,k,j,rfl,rfl,hp,hj,q⟩:=h;cases ro;let⟨t,rfl⟩:=ri;let⟨its,n,r,ho,hz⟩:=I.lst hp;let⟨h1,h2,h3,h4⟩:=Bb hj;have hl:=r.length;have hn:=mT;have I':Inv X pins σ (upd H p (.lst (xs.set j v))) { s with heap:=s.heap.update p (Obj.mapSeq (·.setIfInBounds j u)) } :=
  I.lstUpd hp ho (yz its n j u) (r.set rv j) (by rw[yC];exact hz) s.toks
 by_cases h0:0<=k
 ·have hk:k.toNat=j:=by
   rw[seqIndex_of h0 h4] at h1;exact xD h1
  exact W.ki_setAt ho h0 (by lia) (by rw[zH,<- hl];exact h4) (by rw[hk];exact⟨_,I',q⟩)
 ·have hk:(k+(its.toArray.size:Int)).toNat=j:=by
   rw[seqIndex_neg (by lia) h3] at h1;rw[zH,<- hl];exact xD h1
  exact W.ki_setBack ho (by lia) (by rw[zH,<- hl];exact h3) (by lia) (by rw[hk];exact⟨_,I',q⟩)
def tV:dq X (.builtin "len") (λxs H Q=>∃p ys,xs=[.ref p]/\(gH X.K H p ys\/eD X.K H p ys)/\Q (.int ys.length) H):=by
 intro pins s σ H xs us Q I r h;let⟨p,ys,rfl,hq,q⟩:=h;let⟨u,rfl,rx⟩:=vals1 r;cases rx;have hn:=mT;rcases hq with hq|hq
 ·let⟨its,r',pl,hz⟩:=I.list hq;have hlen:=r'.length;exact Calls.call_len_list pl.isList (by simp?[zH]<;>lia) ⟨.int ys.length,H,I.tok _,⟨s.toks+1,by rw[zH,hlen]⟩,q⟩
 ·let⟨its,r',pl,hz⟩:=I.tuple hq;have hlen:=r'.length;exact len_tuple pl (by simp?[zH]<;>lia) ⟨.int ys.length,H,I.tok _,⟨s.toks+1,by rw[zH,hlen]⟩,q⟩
def tY:dq X (.builtin "len") (λxs H Q=>∃z,xs=[.str z]/\z.length<=sizeLine/\Q (.int z.length) H):=by
 intro pins s σ H xs us Q I r h;let⟨z,rfl,hz,q⟩:=h;let⟨u,rfl,t,rfl⟩:=vals1 r;have hn:=mT;exact len_str (by lia) ⟨.int z.length,H,I.tok _,⟨_,rfl⟩,q⟩
def rh:dq X (.type "tuple") (λxs H Q=>∃p ys,xs=[.ref p]/\((gH X.K H p ys/\∀l,H l=none->Q (.ref l) (upd H l (.tup ys)))\/(eD X.K H p ys/\Q (.ref p) H))):=by
 intro pins s σ H xs us Q I r h;let⟨p,ys,rfl,h⟩:=h;let⟨u,rfl,rx⟩:=vals1 r;cases rx;rcases h with ⟨hq,q⟩|⟨hq,q⟩
 ·let⟨its,r',pl,hz⟩:=I.list hq;have hlen:=r'.length;refine call_tuple_list pl.isList (λh' kp=>?_) (by simp?[zH]<;>lia);have I1:Inv X pins σ H { s with heap:=h' }:=I.kept (t':=s.toks) kp;have I2:Inv X pins σ (upd H h'.objs.size (.tup ys)) { s with heap:=h'.push { cls:=.type "tuple",data:=.seq its.toArray } } :=
   I1.laid (t':=s.toks) (λb o e=>zU _ e) (yM _) (show c7 X.prog X.w _ _ _ (.tup ys) from ⟨hz,its,r',oa.new _ _⟩)
  exact⟨.ref h'.objs.size,_,I2,rfl,q _ (I1.hok.fresh (yM _))⟩
 ·let⟨its,r',pl,hz⟩:=I.tuple hq;exact call_tuple_same pl ⟨.ref p,H,I,rfl,q⟩
def QY(K:W.Frag)(T:String)(x:V)(H:Hp):Prop:=match x with
 | .str _=>T="str"
 | .int _=>T="int"
 | .ref p=>(T="list"/\∃xs,gH K H p xs)\/(T="tuple"/\∃xs,eD K H p xs) \/
   (T="dict"/\((∃kvs,H p=some (.dK kvs))\/∃kvs,H p=some (.dT kvs)))\/(T="set"/\∃S n,H p=some (.set S n))
 | _=>False
def LV(I:Inv X pins σ H s)(r:RelV x v)(ty:QY X.K T x H) :
  s.TypeIs v T/\∀a,v=.ref a->∃ob,s.heap.get? a=some ob/\ob.dict=none:=by
 cases x with
 | str z =>
  let⟨t,rfl⟩:=r;cases (show T="str" from ty);exact⟨typeIs_str s z t,λ_ e=>nomatch e⟩
 | int i =>
  let⟨t,rfl⟩:=r;cases (show T="int" from ty);exact⟨typeIs_int s i t,λ_ e=>nomatch e⟩
 | ref p =>
  cases r;rcases ty with ⟨rfl,xs,hq⟩|⟨rfl,xs,hq⟩|⟨rfl,hk⟩|⟨rfl,S,n,hk⟩
  ·let⟨its,_,pl,_⟩:=I.list hq;refine⟨pl.isList.typeIs,λa e=>?_⟩;cases e;let⟨o,n,e,c,hd,_⟩:=pl;exact⟨o,e,hd⟩
  ·rcases hq with hq|⟨o,its,n,hk,hc,hd,_⟩
   ·let⟨_,_,_,⟨o,e1,e2,_⟩,o2,e3,e4⟩:=hq.ok I.hok;exact⟨⟨o,e1,e2⟩,λa e=>by cases e;exact⟨o2,e3,e4⟩⟩
   ·exact⟨⟨o,I.kIn p o hk,hc⟩,λa e=>by cases e;exact⟨o,I.kIn _ o hk,hd⟩⟩
  ·have z:∃o,s.heap.get? p=some o/\o.ExactDict:=by
    rcases hk with ⟨kvs,hk⟩|⟨kvs,hk⟩
    ·let⟨_,_,_,_,o,_,_,e,ex,_⟩:=I.hok p _ hk;exact⟨o,e,ex⟩
    ·let⟨_,_,o,_,_,e,ex,_⟩:=I.hok p _ hk;exact⟨o,e,ex⟩
   let⟨o,e,ex⟩:=z;refine⟨⟨o,e,ex.1⟩,λa e2=>?_⟩;cases e2;exact⟨o,e,ex.2.1⟩
  ·let⟨o,_,_,_,e,ex,_⟩:=I.hok p _ hk;refine⟨⟨o,e,ex.1⟩,λa e2=>?_⟩;cases e2;exact⟨o,e,ex.2.1⟩
 | _=>exact False.elim ty
def Q9(K:W.Frag)(T:String)(r:V->List V->Hp->VK->Prop)(to:TE)(t:TA):TE:=λσ H Q=>to σ H λx H1=>QY K T x H1/\t σ H1 λxs H2=>r x xs H2 Q
variable {T id:String}
def nW(pa:PlainAttrs T)(slot:Slot T name id)(hty:typeOf (.builtin id)=pure (.type "method_descriptor"))(hm:Q0 X id r)(ho:PE X o to)(ha:PA X (e::es) t)
  (hbase:attributeBase o name X.env (eval o X.env)=eval o X.env:=by rfl)
  (hfew:((backTo cpos (starEach (e::es) X.env)).all (λx=>!x.1)&&(backToKw cpos (keywordEach [] X.env)).all (λx=>x.1.isSome)
   &&decide ((e::es).length+([]:List Keyword).length+(if ([]:List Keyword).isEmpty then 0 else 1) < 30))=true:=by rfl)
  (hline:(apos.endLine == cpos.line)=true:=by rfl) (hs:starEach (e::es) X.env=(false,eval e X.env)::starEach es X.env:=by rfl) (hplain:(backTo cpos (starEach es X.env)).any (·.1)=false:=by rfl) :
  PE X (.Call (.Attribute o name apos) (e::es) [] cpos) (Q9 X.K T r to t):=by
 intro pins s σ H Q I h;refine wpAny_Call_method_late hbase hfew hline rfl (bR (ho pins s σ H _ I h) λv s1 ⟨x,H1,I1,r1,ty,q1⟩=>?_);let⟨h1,h2⟩:=LV I1 r1 ty;refine⟨T,id,pa,slot,hty,h1,h2,?_⟩;have hA:=ha cpos pins s1 σ H1 _ I1 q1;rw[hs] at hA ⊢;refine Calls.callWith_builtin (by show (false||(backTo cpos (starEach es X.env)).any (·.1))=false;rw[hplain]<;>rfl) (Calls.evalArgs_plain ?_);exact bR hA λus s2 ⟨vs,H2,I2,r2,q2⟩=>hm pins s2 σ H2 x vs v us Q I2 r1 r2 q2
/- xs.append(e),list.index on a module's tuple .. are Q0 facts of 06m -/
end
def K5(X:Cx)(id:String)(r:V->List V->Hp->VK->Prop):Prop :=
 ∀ (pins:List (Addr×Obj)) (s:Shared) (σ:St) (H:Hp) (x:V) (xs:List V) (v:Value) (us:List Value) (Q:VK),Inv X pins σ H s->RelV x v->aH xs us->r x xs H Q ->
  wpAny (model X.prog X.w) X.A (call (.builtin id) (v::us)) (EP X pins σ Q) X.xe s
def aH.one:∀ {x:V}{us:List Value},aH [x] us->∃u,us=[u]/\RelV x u
 | _,_,.cons r .nil=>⟨_,rfl,r⟩
def aH.two:∀ {x y:V}{us:List Value},aH [x,y] us->∃u v,us=[u,v]/\RelV x u/\RelV y v
 | _,_,_,.cons r (.cons q .nil)=>⟨_,_,rfl,r,q⟩
def aH.reverse(h:aH xs us):aH xs.reverse us.reverse:=by
 induction h with
 | nil=>exact .nil
 | cons r t ih=>rw[kY,kY];exact aH.append ih (.cons r .nil)
def aH.rep(h:aH xs us):∀k:Nat,aH (List.replicate k xs).flatten (List.replicate k us).flatten
 | 0=>.nil
 | k+1=>by
  rw[xE,xE,qM,qM];exact aH.append h (aH.rep h k)
def foldl_rep(its:List Value):∀ (k:Nat) (acc:List Value),
  List.foldl (λx1 x2=>x1++x2) acc.toArray (List.replicate k its.toArray)=(acc++(List.replicate k its).flatten).toArray
 | 0,acc=>by simp
 | k+1,acc=>by
  have e:acc.toArray++its.toArray=(acc++its).toArray:=by simp
  have e2:(acc++its)++(List.replicate k its).flatten=acc++(List.replicate (k+1) its).flatten:=by
   rw[xE,qM,List.append_assoc]
  rw[<- e2,<- foldl_rep its k (acc++its),<- e,xE,List.foldl_cons]
section
variable {xs ys zs:List V}
def Inv.lset{its its':List Value}{n:Nat}{f:Array Value->Array Value}{t':Nat}(I:Inv X pins σ H s)(hH:H l=some (.lst xs))
  (e:s.heap.get? l=some { cls:=.type "list",data:=.seq its.toArray n }) (hf:f its.toArray=its'.toArray) (hv:aH ys its') (hz:ys.length<=sizeLine) :
  Inv X pins σ (upd H l (.lst ys)) { s with heap:=s.heap.update l (Obj.mapSeq f),toks:=t' }:=by
 have q:=PySem.IsL.update e f;rw[hf] at q;refine I.write (x:=l) (e:=l) (by rw[hH];exact trivial) (.inl rfl) (λb' u hb hu=>(xN s.heap (Obj.mapSeq f) (jM hb)).trans hu) ⟨_,q⟩ ?_;exact⟨hz,its',_,hv,q⟩
def Inv.lnew{t':Nat}(I:Inv X pins σ H s)(hv:aH ys its)(hz:ys.length<=sizeLine) :
  Inv X pins σ (upd H s.heap.objs.size (.lst ys)) { s with heap:=s.heap.push { cls:=.type "list",data:=.seq its.toArray },toks:=t' } :=
 I.laid (λ_ _ q=>zU _ q) (yM _) ⟨hz,its,0,hv,zX _ rfl⟩
def Inv.fresh(I:Inv X pins σ H s):H s.heap.objs.size=none:=I.hok.fresh (yM _)
def Inv.lstM(I:Inv X pins σ H s)(hH:H l=some (.lst xs)):xs.length<=sizeLine/\∃ (its:List Value) (n:Nat),aH xs its/\xs.length=its.length/\s.heap.get? l=some { cls:=.type "list",data:=.seq its.toArray n }:=by
 let⟨z,its,n,r,e⟩:=I.hok l _ hH;exact⟨z,its,n,r,r.length,e⟩
def Gq(h:n<=sizeLine):Builtin.List.listTooLong n=false:=by
 unfold Builtin.List.listTooLong;exact zZ (by lia)
end
def Ji:V->List V->Hp->VK->Prop:=λx vs H Q=>∃l xs y,x=.ref l/\vs=[y]/\H l=some (.lst xs)/\xs.length < sizeLine/\Q .non (upd H l (.lst (xs++[y])))
def se:K5 X "list.append" Ji:=by
 intro pins s σ H x vs v us Q I rx rv h;let⟨l,xs,y,rfl,rfl,hH,hz,q⟩:=h;cases rx;let⟨u,rfl,ru⟩:=rv.one;let⟨z,its,n,r,hl,e⟩:=I.lstM hH;refine qX F.slot_list_append ⟨_,e,rfl⟩ F.entry_list_append (F.args_list_append_2 _ _) (PySem.list_append l its.toArray n u (by rw[zH];lia)) ⟨e,?_⟩;refine⟨.non,_,I.lset (its':=its++[u]) hH e (by simp) (r.append (.cons ru .nil)) ?_,rfl,q⟩;rw[zN,xC];lia
def Kj:V->List V->Hp->VK->Prop:=λx vs H Q=>∃l b xs zs,x=.ref l/\vs=[.ref b]/\H l=some (.lst xs)/\H b=some (.lst zs)/\xs.length+zs.length<=sizeLine/\Q .non (upd H l (.lst (xs++zs)))
def CQ:K5 X "list.extend" Kj:=by
 intro pins s σ H x vs v us Q I rx rv h;let⟨l,b,xs,zs,rfl,rfl,hH,hB,hz,q⟩:=h;cases rx;let⟨u,rfl,ru⟩:=rv.one;cases ru;let⟨z,its,n,r,hl,e⟩:=I.lstM hH;let⟨z2,its2,n2,r2,hl2,e2⟩:=I.lstM hB;have hsz:its.toArray.size+its2.toArray.size<=sizeLine:=by rw[zH,zH];lia
 have hlong:¬ (!its.toArray.isEmpty&&Builtin.List.listTooLong (its.toArray.size+its2.toArray.size))=true:=by
  rw[Gq hsz,Bool.and_false];exact yZ
 refine qX F.slot_list_extend ⟨_,e,rfl⟩ F.entry_list_extend (F.args_list_extend_2 _ _)
  (AutoSeq1.list_extend_list_list_0 l its.toArray n b its2.toArray n2 hlong (by rw[zH];lia) (by lia)) ⟨e,e2,?_⟩
 refine⟨.non,_,I.lset (its':=its++its2) hH e (by simp) (r.append r2) ?_,rfl,q⟩;rw[zN];lia
def len_rep(xs:List α)(k:Nat):(List.replicate k xs).flatten.length=k * xs.length:=by
 induction k with
 | zero=>simp
 | succ k ih=>rw[xE,qM,zN,ih,Nat.succ_mul,Nat.add_comm]
end L2
namespace Att
open PySem PySem.W PySem.Calls PyProof.Rows
variable {n:Nat}
def ints_of_wellAll:∀ (ns:List Int) (vs:List Value),WellAll P h vs (ns.map WData.int)->IntsAre vs ns:=by
 intro ns
 induction ns with
 | nil =>
  intro vs w;rw[yU] at w;cases w;exact .nil
 | cons n ns ih =>
  intro vs w;rw[zI] at w;cases w with
  | cons a b =>
   cases a;exact .cons _ _ (ih _ b)
def script_of{l:OpenLaw}(hn:l.most=some n){P:Params}{h:Heap}{args:List WData}{vals:List Value}
  (hpre:l.row.toRowW.claim.pre args=true) (hwl:WellAll P h vals args) :
  ∃a vs ns,vals=[Value.ref a]/\args=[WData.list (ns.map WData.int)]/\h.get? a=some { cls:=.type "list",data:=.seq vs.toArray }/\IntsAre vs ns/\ns.length<=n:=by
 have hsh:WShape.hasAll [] args [.list .int]=true:=(pre_splitW hpre).1;have hc:l.pre.holds [] { args:=args }=true:=(pre_splitW hpre).2;let⟨d,r,rfl,h1,h2⟩:=hasAllW_cons hsh;obtain rfl:=hasAllW_nil h2;let⟨xs,rfl,h3⟩:=hasW_list h1;let⟨ns,rfl⟩:=items_int h3;have hlen:ns.length<=n:=by
  unfold OpenLaw.pre at hc;have h4:(WTm.not (.lt (.lit (.int (n:Int))) (.len (.arg 0)))).holds [] { args:=[.list (ns.map .int)] }=true:=by
   have h4:=(holds_andW hc).1;rw[hn] at h4;exact h4
  have h5:=condW_of h4 (w_not (w_lt w_lit (w_len_list (w_arg rfl))));rw[zD] at h5;refine Nat.le_of_not_lt λq=>?_;have q':(n:Int) < ((ns.length:Nat):Int):=by lia
  first
   | (rw[yA q'] at h5;exact absurd h5 (by decide))
   | (simp at h5;lia)
 cases hwl with
 | cons w1 w2 =>
  cases w2;cases w1 with
  | list ho hall=>exact⟨_,_,ns,rfl,rfl,ho,ints_of_wellAll ns _ hall,hlen⟩
def post_true(l:OpenLaw)(args:List WData):l.row.toRowW.claim.post args (.bool true) args=true :=
 postW_of (r:=l.row.toRowW) (X:=(true == true))
  (show WShape.has [] (.bool true) .bool=true by first|rfl|decide|simp[WShape.has,WShape.arms,WShape.armsAll])
  (show (WTm.eq .res (.lit (.bool true))).value [] { args:=args,res:=some (.bool true),after:=args }=some (.bool (true == true)) from w_eq_bool (w_res rfl) w_lit) rfl
def attach_call{l:OpenLaw}{q:Program}{loose:List Str}{XP:(Str->Option Value)->Heap->Prop}{YP:World->Heap->Prop}{d:DefRec}
  (hn:l.most=some n) (hdf:d.params.defaults=[])
  (call:∀ (w:World) (s₀ s₁:Shared) (mg mb:Str->Option Value) (fa:Addr) (o:Obj) (pm cd doc:Value) (a:Addr) (vs:List Value) (ns:List Int),
   Ground q loose [] XP w s₀ mg mb s₁.heap->YP w s₁.heap ->
   s₁.heap.get? fa=some o->o.data=.func (docDef d.name d.params d.body d.scope pm cd doc)->s₁.heap.CodeRec cd d.name->mg d.name=some (.ref fa) ->
   s₁.heap.get? a=some { cls:=.type "list",data:=.seq vs.toArray }->IntsAre vs ns->ns.length<=n->s₁.gens=#[] ->
   codeAny (model l.prog w) callerA (.call (.ref fa) ⟨[.ref a],[]⟩) (λr s'=>r=.ok (.ret (.bool true))/\OldK s₁.heap s'.heap/\s'.os=s₁.os/\AllBare s'.gens) s₁) :
  WalkO q loose XP YP l.row.toRowW d [] (λf vs=>PySem.call f vs):=by
 intro w s₀ s₁ mg mb G Y fa o pm cd doc dV kV ho hd hcd hD hmg hg args vals as hpre hlay hrd hwl hlo;obtain rfl:dV=.none:=Dflts.none hD hdf;obtain rfl:kV=.none:=Dflts.noKw hD;let⟨a,vs,ns,rfl,rfl,hobj,hints,hlen⟩:=script_of hn hpre hwl;refine enter_call (jR (call w s₀ s₁ mg mb fa o pm cd doc a vs ns G Y ho (fd_plain hd) hcd hmg hobj hints hlen hg) λr s' hq=>?_);let⟨rfl,h2,h3,h4⟩:=hq;exact⟨.inl ⟨.bool true,.bool true,[],rfl,λ_=>rfl,.bool true,post_true l _,λ_=>⟨List.Pairwise.nil,λ_ hm=>(nomatch hm)⟩⟩,h2,h3,h4⟩
section
variable {K:Frag}
end
end Att
namespace L2
open PySem PySem.Spec PyProof.Rows
variable {B:Prop}
def rz:∀ {vs:List Value}{ns:List Int},IntsAre vs ns->aH (ns.map V.int) vs
 | _,_,.nil=>.nil
 | _,_,.cons n t h=>.cons ⟨t,rfl⟩ (rz h)
abbrev NM:Ks:=λ_ _ _ _ _ _=>False
abbrev E0:XK:=λ_ _ _=>False
def OJ:z9 NM X E0:=λ_ _ _ _ _ _ _ h=>h.elim
structure IA(K:W.Frag)(x qual:Str)(st:Stmt)(f:Addr)(fd:FuncData):Prop where
 ex:∃ (oc:Value) (od:Option Addr) (kV doc pm:Value) (an:Option Addr) (cdv ct:Value) (osl:Array (Option Value)),
  fd=W.fnOf x qual (eY st) (bV st) (aK st) .none kV doc pm an cdv ct/\K.lookup f=some ⟨oc,od,.func fd,osl⟩/\W.codeIn K cdv qual=true
 kp:W.keepIn K (.ref f)=true
section
variable {K:W.Frag}
def IA.binds{st:Stmt}(F:IA K x qual st f fd)
  (h:∀ (kV doc pm:Value) (an:Option Addr) (cdv ct:Value) (us:List Value),us.length=ps.length->bindArgs (W.fnOf x qual (eY st) (bV st) (aK st) .none kV doc pm an cdv ct) ⟨us,[]⟩=pure (ps.zip us)):Binds K fd ps []:=by
 let⟨oc,od,kV,doc,pm,an,cdv,ct,osl,rfl,lk,hcd⟩:=F.ex;exact .all (h kV doc pm an cdv ct)
def uA{st:Stmt}{kV:Value}(l:K.lookup f=some ⟨oc,od,.func (W.fnOf x qual (eY st) (bV st) (aK st) .none kV doc pm an cdv ct),osl⟩)
  (c:W.codeIn K cdv qual=true) (k:W.keepIn K (.ref f)=true):IA K x qual st f (W.fnOf x qual (eY st) (bV st) (aK st) .none kV doc pm an cdv ct):=⟨⟨oc,od,kV,doc,pm,an,cdv,ct,osl,rfl,l,c⟩,k⟩
end
def tM{A B:Prop}(h:B):if false=true then A else B:=by
 rw[yN yZ];exact h
def uk{A B:Prop}(h:A):if true=true then A else B:=by
 rw[yL rfl];exact h
def aP(H H':Hp):Prop:=∀b o,H b=some o->H' b=some o
def aP.refl(H:Hp):aP H H:=λ_ _ h=>h
def aP.trans(a:aP H H1)(b:aP H1 H2):aP H H2:=λc o h=>b c o (a c o h)
def aP.free(e:aP H H')(h:H' l=Option.none):H l=Option.none:=by
 cases q:H l with
 | none=>rfl
 | some o =>
  rw[e l o q] at h;cases h
def aP.seq{K:W.Frag}(e:aP H H')(h:gH K H a xs):gH K H' a xs:=by
 rcases h with (h|⟨o,h⟩)|h
 ·exact .inl (.inl (e _ _ h))
 ·exact .inl (.inr ⟨o,e _ _ h⟩)
 ·exact .inr h
def bP:∀ (names:List (Str×NameKind)) (n:Nat) (acc:List (Str×Addr)),cellsFrom n names acc=cellsFrom n names []++acc
 | [],_,_=>rfl
 | (name,kind)::r,n,acc=>by
  unfold cellsFrom;split
  ·rw[bP r (n+1) ((name,n)::acc),bP r (n+1) [(name,n)]];simp
  ·exact bP r n acc
def iH:∀ {l m:List (Str×α)},(l++m).lookup x=some c->l.lookup x=some c\/(l.lookup x=none/\m.lookup x=some c)
 | [],_,h=>.inr ⟨rfl,h⟩
 | (k,v)::r,m,h=>by
  have ih:=@iH α x c r m;rw[xF,yB] at h;rw[yB];cases e:x == k with
  | true=>rw[e] at h;exact .inl h
  | false=>rw[e] at h;exact ih h
def iI:∀ {l m:List (Str×α)},l.lookup x=some c->(l++m).lookup x=some c
 | [],_,h=>by cases h
 | (k,v)::r,m,h=>by
  have ih:=@iI α x c r m;rw[yB] at h;rw[xF,yB];cases e:x == k with
  | true=>rw[e] at h;exact h
  | false=>rw[e] at h;exact ih h
def gP:∀ {l m:List (Str×α)},l.lookup x=none->(l++m).lookup x=m.lookup x
 | [],_,_=>rfl
 | (k,v)::r,m,h=>by
  have ih:=@gP α x r m;rw[yB] at h;rw[xF,yB];cases e:x == k with
  | true=>rw[e] at h;cases h
  | false=>rw[e] at h;exact ih h
def fQ:∀ (names:List (Str×NameKind)) (n:Nat) (x:Str) (c:Addr),(x,c)∈cellsFrom n names []->(x,NameKind.cell)∈names
 | [],_,_,_,h=>by cases h
 | (name,kind)::r,n,x,c,h=>by
  unfold cellsFrom at h;split at h
  ·rename_i hk;rw[bP] at h;rcases List.mem_append.mp h with h|h
   ·exact zC _ (fQ r _ x c h)
   ·have:(x,c)=(name,n):=by simpa using h
    cases this;have:kind=.cell:=by simpa using hk
    subst this;exact zE
  ·exact zC _ (fQ r n x c h)
def dN(env:Env):List (Str×NameKind)->List (Str×Addr)->List (Str×Addr)
 | [],acc=>acc
 | (n,k)::r,acc=>if k == .free then dN env r ((n,(env.cells.lookup n).getD 0)::acc) else dN env r acc
def lg(env:Env):∀ (names:List (Str×NameKind)) (acc:List (Str×Addr)),(∀x∈names,x.2=.free->∃c,env.cells.lookup x.1=some c) ->
  (forIn names acc (λ(p:Str×NameKind) (cs:List (Str×Addr))=>(if p.2 == .free then (do let a <- cellOf env p.1;pure (.yield ((p.1,a)::cs))) else pure (.yield cs):Sem (ForInStep (List (Str×Addr))))))=pure (dN env names acc)
 | [],acc,_=>rfl
 | (n,k)::r,acc,h=>by
  rw[List.forIn_cons];have hr:=λx hx=>h x (zC _ hx);unfold dN;by_cases hk:k=.free
  ·let⟨c,hc⟩:=h (n,k) zE hk;subst hk;have e1:cellOf env n=pure c:=by
    have hc':env.cells.lookup n=some c:=hc;unfold cellOf;rw[hc']
   have hc':env.cells.lookup n=some c:=hc;simp?[beq_self_eq_true,xH,e1,pure_bind,hc',qG];exact lg env r _ hr
  ·have hb:(k == NameKind.free)=false:=by simpa using hk
   simp?[hb,yO,qP,pure_bind];exact lg env r _ hr
def lz{env:Env}(h:∀x∈scope.names,x.2=.free->∃c,env.cells.lookup x.1=some c):closureFor scope env=pure (dN env scope.names []):=by
 have:=lg env scope.names [] h;unfold closureFor;exact (bind_pure _).trans this
def j4{env:Env}:∀ {names:List (Str×NameKind)}{acc:List (Str×Addr)},(∀x∈names,x.2=.free->∃c,env.cells.lookup x.1=some c)->(∀x c,(x,c)∈acc->env.cells.lookup x=some c) ->
  ∀x c,(x,c)∈dN env names acc->env.cells.lookup x=some c
 | [],acc,_,ha,x,c,hm=>ha x c hm
 | (n,k)::r,acc,h,ha,x,c,hm=>by
  unfold dN at hm;have hr:=λx hx=>h x (zC _ hx);split at hm
  ·rename_i hk;have hk':k=.free:=by simpa using hk
   let⟨c',hc⟩:=h (n,k) zE hk';have hc:env.cells.lookup n=some c':=hc;refine j4 hr (λy d hy=>?_) x c hm;rcases List.mem_cons.mp hy with e|hy
   ·cases e;rw[hc];rfl
   ·exact ha y d hy
  ·exact j4 hr ha x c hm
def fv{env:Env}:∀ {names:List (Str×NameKind)}{acc:List (Str×Addr)}{x:Str},(names.lookup x=some .free\/∃c,acc.lookup x=some c)->∃c,(dN env names acc).lookup x=some c
 | [],acc,x,h=>by
  rcases h with h|h
  ·cases h
  ·exact h
 | (n,k)::r,acc,x,h=>by
  unfold dN;split
  ·rename_i hk;refine fv ?_;rcases h with h|⟨c,h⟩
   ·rw[yB] at h;cases e:x == n with
    | true=>exact .inr ⟨_,by rw[yB,e]⟩
    | false=>rw[e] at h;exact .inl h
   ·refine .inr ?_;rw[yB];cases e:x == n with
    | true=>exact⟨_,rfl⟩
    | false=>exact⟨c,h⟩
  ·rename_i hk;refine fv ?_;rcases h with h|h
   ·rw[yB] at h;cases e:x == n with
    | true =>
     rw[e] at h;cases h;exact absurd rfl hk
    | false=>rw[e] at h;exact .inl h
   ·exact .inr h
def l5{env:Env}:∀ {names:List (Str×NameKind)}{x:Str}{k:NameKind},names.lookup x=some k ->
  (names.map λ(n,k)=>if (k == NameKind.free&&env.scope.kind == .function&&env.kindOf n == some .cell) then (n,NameKind.cell) else (n,k)).lookup x=some (if (k == NameKind.free&&env.scope.kind == .function&&env.kindOf x == some .cell) then NameKind.cell else k)
 | [],_,_,h=>by cases h
 | (n,k)::r,x,k',h=>by
  have ih:=@l5 env r x k';rw[zI];dsimp only;cases hx:x == n with
  | true =>
   have e:x=n:=by simpa using hx
   subst e;rw[yB,hx] at h;cases h;split<;>simp[yB, *]
  | false =>
   rw[yB,hx] at h;have ih:=ih h;split
   ·rw[yB,hx];exact ih
   ·rw[yB,hx];exact ih
def nX{env:Env}:∀ {names:List (Str×NameKind)}{x:Str},names.lookup x=none ->
  (names.map λ(n,k)=>if (k == NameKind.free&&env.scope.kind == .function&&env.kindOf n == some .cell) then (n,NameKind.cell) else (n,k)).lookup x=none
 | [],_,h=>rfl
 | (n,k)::r,x,h=>by
  have ih:=@nX env r x;rw[zI];dsimp only;cases hx:x == n with
  | true=>rw[yB,hx] at h;cases h
  | false =>
   rw[yB,hx] at h;split
   ·rw[yB,hx];exact ih h
   ·rw[yB,hx];exact ih h
def eC(X:Cx)(scope:Scope)(C:Addr):Env :=
 { scope:=relabel scope X.env,locals:=C,globals:=X.env.globals,cells:=cellsFrom (C+1) scope.names (dN X.env scope.names []),qual:=X.env.qual,func:=none,code:=X.env.code,frame:=X.env.frame,builtins:=X.env.builtins }
def aU(X:Cx)(scope:Scope)(N:List Str)(fp:List Addr)(s:Shared)(H:Hp):Cx :=
 { X with N:=N,s₀:=s,H₀:=H,env:=eC X scope s.heap.objs.size,outer:=X.stack,ex:=fp,fn:=λx=>decide (scope.names.lookup x=some .cell),pn:=[],xe:=λ_ _=>False }
def zq{M:Model}{A:Around}{E:Value->Shared->Prop}{globals:Addr}{cl:List (Str×Addr)}{qual:Str}{env:Env}
  (hQ:∀h',h'.Ns s.heap.objs.size (λ_=>none)->(∀b o,s.heap.get? b=some o->h'.get? b=some o)->CellsOk h' (s.heap.objs.size+1) (cellsFrom (s.heap.objs.size+1) scope.names []) ->
   Q { scope:=scope,locals:=s.heap.objs.size,globals:=globals,cells:=cellsFrom (s.heap.objs.size+1) scope.names cl,qual:=qual,func:=none,code:=env.code,frame:=env.frame,builtins:=env.builtins } { s with heap:=h' }) :
  wpAny M A (newFunctionEnv scope globals cl [] qual none .none (some env)) Q E s:=by
 simp?[newFunctionEnv,Option.isSome_some,xH];refine zV (wpAny_alloc ?_);refine zV (wpAny_layCells _ (λname kind cells=>by cases hkc:kind == NameKind.cell<;>simp[hkc]) _ _ _ _ ?_);have ok:=cellsFrom_ok scope.names (s.heap.push { cls:=.type "dict",data:=.dict #[] }) (s.heap.objs.size+1) [] ⟨λ_ _ hm=>(nomatch hm),List.Pairwise.nil⟩ (by rw[xJ];exact yM _);rw[xJ] at ok;rw[show ({ s with heap:=s.heap.push { cls:=.type "dict",data:=.dict #[] } }:Shared).heap.objs.size=s.heap.objs.size+1 from xJ ..];rw[List.forIn_nil];refine zV (zW (zW ?_));exact hQ _ ((Heap.Ns.new s.heap (.type "dict")).keeps (pushCells_keeps _ _)) (λb o e=>pushCells_keeps _ _ b o (zU _ e)) ok
section
variable {X:Cx}{pins:List (Addr×Obj)}{σ σ':St}{H:Hp}{s:Shared}{fp:List Addr}{scope:Scope}{N:List Str}{h4:Heap}
def ju(ok:X.Ok)(hfree:∀x∈scope.names,x.2=.free->X.env.kindOf x.1=some .cell\/X.env.kindOf x.1=some .free):∀x∈scope.names,x.2=.free->∃c,X.env.cells.lookup x.1=some c :=
 λx hx hk=>ok.has x.1 (hfree x hx hk)
def mV(h:scope.names.lookup x=some k):(eC X scope C).kindOf x=some k\/(k=.free/\(eC X scope C).kindOf x=some .cell):=by
 have q:=l5 (env:=X.env) h;have q':(eC X scope C).kindOf x=some (if (k == NameKind.free&&X.env.scope.kind == .function&&X.env.kindOf x == some .cell) then NameKind.cell else k):=q;rw[q'];split
 ·rename_i hc;have:k=.free:=by
   simp?[zF,beq_iff_eq] at hc;exact hc.1.1
  exact .inr ⟨this,rfl⟩
 ·exact .inl rfl
def ku(h:(eC X scope C).kindOf x=some k):scope.names.lookup x=some k\/(k=.cell/\scope.names.lookup x=some .free):=by
 cases e:scope.names.lookup x with
 | none =>
  have q:(eC X scope C).kindOf x=none:=nX (env:=X.env) e;rw[q] at h;cases h
 | some k' =>
  rcases mV (X:=X) (C:=C) e with q|⟨q,q'⟩
  ·rw[q] at h;cases h;exact .inl rfl
  ·rw[q'] at h;cases h;subst q;exact .inr ⟨rfl,rfl⟩
def Ej(I:Inv X pins σ H s)(hf:∀b∈fp,cq X pins H b)(hfl:∀b∈fp,b < s.heap.objs.size)(hk:scope.kind=.function)
  (hfree:∀x∈scope.names,x.2=.free->X.env.kindOf x.1=some .cell\/X.env.kindOf x.1=some .free)
  (hns:h4.Ns s.heap.objs.size (λ_=>none)) (hkeep:∀b o,s.heap.get? b=some o->h4.get? b=some o) (hco:CellsOk h4 (s.heap.objs.size+1) (cellsFrom (s.heap.objs.size+1) scope.names []))
  (hdup:∀ {x:Str},(x,NameKind.cell)∈scope.names->(x,NameKind.free)∈scope.names->False) (hcap:∀ (i:Nat) (x:Str) (v:V),N[i]?=some x->σ'[i]?=some (some v)->scope.names.lookup x=some .free/\∃j:Nat,X.N[j]?=some x/\σ[j]?=some (some v)) (hlen:σ'.length=N.length) (t':Nat) :
  Inv (aU X scope N fp s H) [] σ' H { s with heap:=h4,toks:=t' }:=by
 have hcl:=ju I.ok hfree;have clx:∀x c,(dN X.env scope.names []).lookup x=some c->X.env.cells.lookup x=some c:=λx c e=>j4 hcl (λ_ _ z=>by cases z) x c (mem_of_lookup e);have look:∀x c,(eC X scope s.heap.objs.size).cells.lookup x=some c->(x,c)∈cellsFrom (s.heap.objs.size+1) scope.names []\/X.env.cells.lookup x=some c:=λx c e=>by
  have e:(cellsFrom (s.heap.objs.size+1) scope.names (dN X.env scope.names [])).lookup x=some c:=e;rw[bP] at e;rcases iH e with q|⟨_,q⟩
  ·exact .inl (mem_of_lookup q)
  ·exact .inr (clx x c q)
 have old:∀x c,X.env.cells.lookup x=some c->c < s.heap.objs.size:=λx c e=>let ⟨_,q⟩:=I.cell x c e;q.lt;have new:∀x c,(x,c)∈cellsFrom (s.heap.objs.size+1) scope.names []->s.heap.objs.size < c:=λx c e=>(hco.empty x c e).2;refine⟨⟨I.ok.mod,?_,I.ok.glob,I.ok.blt,yM _,?_,?_,?_,I.ok.hd,I.ok.frames,.inl rfl,?_,I.bs,yD I.ok.bsz I.sz,?_,?_,I.stack,I.stkFree⟩,rfl,I.bare,Un.kept hkeep,⟨_,hns,?_⟩,?_,I.hok.fresh (yM _),?_,
  λp hp=>absurd (show p∈([]:List (Addr×Obj)) from hp) (by simp),I.hok.kept hkeep,hlen⟩
 ·show (relabel scope X.env).kind=_;exact hk
 ·intro x y c e1 e2;rcases look x c e1 with a|a<;>rcases look y c e2 with b|b
  ·exact name_of_addr hco.apart a b
  ·exact absurd (wG (new x c a) (old y c b)) (qE _)
  ·exact absurd (wG (new y c b) (old x c a)) (qE _)
  ·exact I.ok.inj x y c a b
 ·intro x hx;show ∃c,(cellsFrom (s.heap.objs.size+1) scope.names (dN X.env scope.names [])).lookup x=some c;refine Option.isSome_iff_exists.mp (W.cellsFrom_some _ _ _ ?_);rcases hx with hx|hx
  ·rcases ku hx with q|⟨_,q⟩
   ·exact .inl q
   ·exact .inr (Option.isSome_iff_exists.mpr (fv (.inl q)))
  ·rcases ku hx with q|⟨q,_⟩
   ·exact .inr (Option.isSome_iff_exists.mpr (fv (.inl q)))
   ·cases q
 ·intro x c hfn e;have hfn:scope.names.lookup x=some .cell:=yQ hfn;have e:(cellsFrom (s.heap.objs.size+1) scope.names (dN X.env scope.names [])).lookup x=some c:=e;let⟨c',hc'⟩:=o5 (n:=s.heap.objs.size+1) hfn;rw[bP,iI hc'] at e;cases e;exact jS (new x c (mem_of_lookup hc'))
 ·intro b hb;refine⟨yR (hfl b hb),λx c e z=>?_⟩;rcases look x c e with a|a
  ·exact absurd (wG (new x c a) (by rw[z];exact hfl b hb)) (qE _)
  ·exact (hf b hb).2.2.2.2.1 x c a z
 ·intro b o e hb;let⟨f0,f1,f2,f3,f4,f5⟩:=hf b hb;rcases f3 with z|z
  ·exact I.ok.noex b o e z
  ·exact absurd (zP (zY (I.ok.bs b o e).1) z) (qE _)
 ·intro b hb hz;let⟨f0,f1,f2,f3,f4,f5⟩:=hf b hb;rcases List.mem_cons.mp (I.stkSub b hz) with z|z
  ·exact f1 z
  ·exact f2 z
 ·intro i x v e1 e2 e3;let⟨hfr,j,hj,hv⟩:=hcap i x v e1 e2;have hm:(x,NameKind.free)∈scope.names:=mem_of_lookup hfr;let⟨m,hn,hl⟩:=I.loc;have kx:=hfree _ hm rfl;let⟨u,ru,lk⟩:=hl j x v hj hv (kx.elim (λk=>.inr (.inl k)) λk=>.inr (.inr k));refine⟨u,ru,.inr ⟨?_,?_⟩⟩
  ·rcases mV (X:=X) (C:=s.heap.objs.size) hfr with q|⟨_,q⟩
   ·exact .inr q
   ·exact .inl q
  ·rcases lk with ⟨k,_⟩|⟨_,c,ec,ic⟩
   ·have k:X.env.kindOf x=some .local:=k;rcases kx with k'|k'<;>· rw[k] at k';cases k'
   ·let⟨c',hc'⟩:=fv (env:=X.env) (acc:=[]) (.inl hfr);have e':=clx x c' hc';rw[ec] at e';cases e';refine⟨c,?_,ic.keeps hkeep⟩;show (cellsFrom (s.heap.objs.size+1) scope.names (dN X.env scope.names [])).lookup x=some c;rw[bP];cases eo:(cellsFrom (s.heap.objs.size+1) scope.names []).lookup x with
    | none=>rw[gP eo];exact hc'
    | some d =>
     have hcm:=fQ _ _ _ _ (mem_of_lookup eo);exact (hdup hcm hm).elim
 ·intro x c e;rcases look x c e with a|a
  ·exact⟨_,(hco.empty x c a).1⟩
  ·let⟨v,q⟩:=I.cell x c a;exact⟨v,q.keeps hkeep⟩
 ·intro x c e;rcases look x c e with a|a
  ·exact I.hok.fresh (jS (new x c a))
  ·exact I.freeC x c a
end
abbrev v9(ifs:List Expr)(env:Env):Sem Bool:=forIn ifs true λc r=>if r=true then do let ok <- isTrue c env (eval c env);pure (ForInStep.yield ok) else pure (ForInStep.yield r)
def NS(X:Cx)(ifs:List Expr)(t:TT):Prop :=
 ∀ (pins:List (Addr×Obj)) (s:Shared) (σ:St) (H:Hp) (Q:Bool->Hp->Prop),Inv X pins σ H s->t σ H Q->wpAny (model X.prog X.w) X.A (v9 ifs X.env) (TP X pins σ Q) X.xe s
def IL:NS X [] (λ_ H Q=>Q true H):=λ_ _ _ H _ I h=>wpAny_tests_nil ⟨H,I,h⟩
def HB(h:PT X c t):NS X [c] t:=λpins s σ H Q I q=>wpAny_tests_one (h pins s σ H Q I q)
def tQ{R:Result->Shared->Prop}{elt target iter:Expr}{ifs:List Expr}{scope:Scope}{pos:Pos}{acc:Value}{env:Env}(I:Nat->Shared->Prop)
  (turn:∀n s,I n s->wpAny (model prog w) A (pyNext it) (λr s₁=>match r with
   | none=>R (.ok .next) s₁
   | some v=>wpAny (model prog w) A (letOwnedTupleGo target it v) (λ_ s₁'=>wpAny (model prog w) A (assign target env v) (λ_ s₂ =>
     wpAny (model prog w) A (v9 ifs env) (λok s₃ =>
      if ok=true then wpAny (model prog w) A (eval elt env) (λx s₄ =>
       wpAny (model prog w) A (call (.builtin "list.append") [acc,x]) (λ_ s₅=>∃m,m < n/\I m s₅) (λ_ _=>False) s₄) (λ_ _=>False) s₃
      else ∃m,m < n/\I m s₃) (λ_ _=>False) s₂) (λ_ _=>False) s₁') (λ_ _=>False) s₁) (λ_ _=>False) s)
  (n:Nat) (h:I n s) :
  codeAny (model prog w) A (.compLoop (.ListComp elt [⟨target,iter,ifs,0⟩] scope pos) 0 it acc env) R s:=by
 refine codeAny_loop rfl I (λn s hI=>?_) n h;show wpAny _ A ((compTurn (.ListComp elt [⟨target,iter,ifs,0⟩] scope pos) 0 it acc env).onRaise (λx=>do noteFrame x env;theTreesLotGoes x)) _ _ s;refine wpAny_noted ?_;rw[compTurn_list];refine zV (vA (zV (xA (turn n s hI) (λr s₁ h₁=>?_) λ_ _ h'=>h'.elim)));cases r with
 | none=>exact zW h₁
 | some v =>
  refine zV (xA h₁ (λ_ s₁' h₁'=>?_) λ_ _ h'=>h'.elim);refine zV (xA h₁' (λ_ s₂ h₂=>zV (xA h₂ (λok s₃ h₃=>?_) λ_ _ h'=>h'.elim)) λ_ _ h'=>h'.elim);cases ok with
  | false=>exact zW ⟨rfl,h₃⟩
  | true =>
   exact zV (zV (xA h₃ (λx s₄ h₄=>zV (xA h₄ (λ_ s₅ h₅=>zW (zW ⟨rfl,h₅⟩)) λ_ _ h'=>h'.elim)) λ_ _ h'=>h'.elim))
def Cd(X:Cx)(pins:List (Addr×Obj))(σ:St)(Q:VK)(acc:Value)(C:Addr)(r:Result)(s5:Shared):Prop :=
 ∃ (D:Addr) (H5:Hp) (m:Str->Option Value),acc=.ref D/\r=.ok .next/\Inv X pins σ H5 s5/\s5.heap.Ns C m/\cq X pins H5 C/\Q (.ref D) H5
def D3(J:It)(g:TG)(tt:TT)(te:TE)(D:Addr)(σ0:St)(H0:Hp)(Q:VK):Prop :=
 ∃W:Nat->Nat->St->Hp->Prop,(∃m,W 0 m σ0 H0)/\∀i m σ H,W i m σ H ->
  (J.stop i H/\Q (.ref D) H)\/(J.go i H/\∀x H',J.yld i H x H'->g x σ H' λσ2 H2=>tt σ2 H2 λb H3 =>
   if b=true then te σ2 H3 λv H4=>∃ys,H4 D=some (.lst ys)/\ys.length < sizeLine/\∃m',m' < m/\W (i+1) m' σ2 (upd H4 D (.lst (ys++[v])))
   else ∃m',m' < m/\W (i+1) m' σ2 H3)
section
variable {X:Cx}{pins:List (Addr×Obj)}{σ σ':St}{H:Hp}{s:Shared}{scope:Scope}{N:List Str}
 {tg iter elt:Expr}{ifs:List Expr}{pos:Pos}{g:TG}{tt:TT}{te:TE}
def rF(hc:X.calm=true)(I:Inv X pins σ H s)(T:Turn X.prog X.w X.K tg J fp it tn)(st:tn 0 s.heap)(hf:∀b∈fp,cq X pins H b)(hk:scope.kind=.function)
  (hfree:∀x∈scope.names,x.2=.free->X.env.kindOf x.1=some .cell\/X.env.kindOf x.1=some .free) (hdup:∀ {x:Str},(x,NameKind.cell)∈scope.names->(x,NameKind.free)∈scope.names->False)
  (hcap:∀ (i:Nat) (x:Str) (v:V),N[i]?=some x->σ'[i]?=some (some v)->scope.names.lookup x=some .free/\∃j:Nat,X.N[j]?=some x/\σ[j]?=some (some v)) (hlen:σ'.length=N.length)
  (hY:∀fp s H,PG (aU X scope N fp s H) tg g/\NS (aU X scope N fp s H) ifs tt/\PE (aU X scope N fp s H) elt te)
  (hrd:∀D,H D=none->D3 J g tt te D σ' (upd H D (.lst [])) Q) {E:Value->Shared->Prop} :
  wpAny (model X.prog X.w) X.A (newList []) (λacc s₃=>wpAny (model X.prog X.w) X.A (newFunctionEnv scope X.env.globals (dN X.env scope.names []) [] X.env.qual none .none (some X.env)) (λcenv s₄ =>
   codeAny (model X.prog X.w) X.A (.compStart (.ListComp elt [⟨tg,iter,ifs,0⟩] scope pos) 0 (.ref it) acc { cenv with scope:=relabel scope X.env }) (Cd X pins σ Q acc cenv.locals) s₄) E s₃) E s:=by
 refine qL ?_;have hfl:∀b∈fp,b < s.heap.objs.size:=λb hb=>let ⟨o,e,_⟩:=T.obj _ _ st b hb;zY e;have I3:=I.lnew (ys:=[]) (its:=[]) (t':=s.toks) .nil (xV _);have hD:H s.heap.objs.size=none:=I.fresh;let⟨W,⟨m0,w0⟩,turn⟩:=hrd _ hD;generalize e3:({ s with heap:=s.heap.push { cls:=.type "list",data:=.seq ([]:List Value).toArray },toks:=s.toks }:Shared)=s3 at I3;have e3h:s3.heap=s.heap.push { cls:=.type "list",data:=.seq ([]:List Value).toArray }:=by rw[<- e3]
 generalize hH3:upd H s.heap.objs.size (.lst [])=H3 at I3 w0 turn;have hlt:s.heap.objs.size < s3.heap.objs.size:=by rw[e3h,xJ];exact kL _
 have hk3:∀b o,s.heap.get? b=some o->s3.heap.get? b=some o:=λb o e=>by rw[e3h];exact zU _ e
 generalize s.heap.objs.size=D at *;have f3:∀b∈fp,cq X pins H3 b:=λb hb=>by
  let⟨f0,f⟩:=hf b hb;refine⟨?_,f⟩;rw[<- hH3,ax (yR (hfl b hb))];exact f0
 have st3:tn 0 s3.heap:=T.keep _ _ _ st λb _ o e=>hk3 b o e;refine zq λh4 hns hkp hco=>?_;dsimp only;have I4:=Ej (N:=N) (σ':=σ') (fp:=fp) I3 f3 (λb hb=>wG (hfl b hb) hlt) hk hfree hns hkp hco hdup hcap hlen s3.toks;have fC:∀H',H' s3.heap.objs.size=none->cq X pins H' s3.heap.objs.size:=λH' hn=>I3.fpOk (yM _) hn;let⟨hg,htt,hte⟩:=hY fp s3 H3;have efp:∀b∈fp,∀H':Hp,H' b=none->cq (aU X scope N fp s3 H3) [] H' b:=λb hb H' hn=>by
  refine⟨hn,(I4.ok.exf b hb).1,I4.ok.exfs b hb,.inl hb,(I4.ok.exf b hb).2,λp hp=>?_⟩;cases hp
 have loop:codeAny (model X.prog X.w) X.A (.compLoop (.ListComp elt [⟨tg,iter,ifs,0⟩] scope pos) 0 (.ref it) (.ref D) (eC X scope s3.heap.objs.size)) (Cd X pins σ Q (.ref D) s3.heap.objs.size) { s3 with heap:=h4 }:=by
  refine tQ (λn s'=>∃i σ' H',Inv (aU X scope N fp s3 H3) [] σ' H' s'/\tn i s'.heap/\(∀b∈fp,H' b=none)/\W i n σ' H') ?_ m0
   ⟨0,σ',H3,I4,T.keep _ _ _ st3 λb _ o e=>hkp b o e,λb hb=>(f3 b hb).1,w0⟩
  rintro n s5 ⟨i,σ5,H5,I5,st5,fr5,w5⟩;rcases turn i n σ5 H5 w5 with ⟨stop,q⟩|⟨go,step⟩
  ·refine bR (T.done (aU X scope N fp s3 H3) rfl rfl rfl hc i [] s5 σ5 H5 _ I5 (λb hb=>efp b hb H5 (fr5 b hb)) st5 stop) λr s6 ⟨hr,I6⟩=>?_;subst hr;let⟨m,hn6,_⟩:=I6.loc;refine⟨D,H5,m,rfl,rfl,I3.call' I6.os I6.base I6.hok I6.bare (λb hb=>?_),hn6,fC H5 I6.free,q⟩;let⟨f0,f1,f2,f4,f5,f6⟩:=f3 b hb;exact⟨f4,f1,f5,f6⟩
  ·refine bR (T.item (aU X scope N fp s3 H3) rfl rfl rfl hc i [] s5 σ5 H5 _ I5 (λb hb=>efp b hb H5 (fr5 b hb)) st5 go) λr s6 ⟨u,hr,h6⟩=>?_;subst hr;refine bR h6 λ_ s7 ⟨x,H7,I7,r7,y7,st7,fr7⟩=>?_;have I7':=I7.pinned (λb hb=>efp b hb H7 (fr7 b hb)) (T.obj _ _ st7);have again:∀ {pl:List (Addr×Obj)}{σ9:St}{H9:Hp}{s9:Shared}{n':Nat},Inv (aU X scope N fp s3 H3) ([]++nh fp s7.heap) σ9 H9 s9->W (i+1) n' σ9 H9->∃i σ' H',Inv (aU X scope N fp s3 H3) [] σ' H' s9/\tn i s9.heap/\(∀b∈fp,H' b=none)/\W i n' σ' H':=λ{pl σ9 H9 s9 n'} I9 w9=>by
    refine⟨i+1,σ9,H9,I9.unpinned,T.keep _ _ _ st7 λb hb o e=>(I9.pin (b,o) (yE _ (yE _ (cZ hb e)))).1,λb hb=>?_,w9⟩;let⟨o,e,d⟩:=T.obj _ _ st7 b hb;exact (I9.pin (b,o) (yE _ (yE _ (cZ hb e)))).2.1
   refine bR (hg _ s7 σ5 H7 x u _ I7' r7 (step x H7 y7)) λ_ s8 ⟨σ8,H8,I8,q8⟩=>?_;refine bR (htt _ s8 σ8 H8 _ I8 q8) λok s9 ⟨H9,I9,q9⟩=>?_;cases ok with
   | false =>
    rw[yN (by decide)] at q9;rw[yN (by decide)];let⟨m',hm,w9⟩:=q9;exact⟨m',hm,again (pl:=[]) I9 w9⟩
   | true =>
    rw[yL rfl] at q9;rw[yL rfl];refine bR (hte _ s9 σ8 H9 _ I9 q9) λy s10 ⟨v,H10,I10,r10,ys,hD10,hz,m',hm,w10⟩=>?_;refine bR (se (X:=aU X scope N fp s3 H3) _ s10 σ8 H10 (.ref D) [v] (.ref D) [y] (λ_ H'=>W (i+1) m' σ8 H') I10 rfl (.cons r10 .nil) ⟨D,ys,v,rfl,rfl,hD10,hz,w10⟩) λ_ s11 ⟨_,H11,I11,_,w11⟩=>?_;exact⟨m',hm,again (pl:=[]) I11 w11⟩
 exact codeAny_compStart_list loop (T.self _ 0 _ _ _ (T.keep _ _ _ st3 λb _ o e=>hkp b o e) loop)
end
def Ha(wi:TI)(g:TG)(tt:TT)(te:TE)(caps:St->St):TE:=λσ H Q=>wi σ H λJ H1=>∀D,H1 D=none->D3 J g tt te D (caps σ) (upd H1 D (.lst [])) Q
structure ip(X:Cx)(scope:Scope)(N:List Str)(caps:St->St):Prop where
 kind:scope.kind=.function
 free:∀x∈scope.names,x.2=.free->X.env.kindOf x.1=some .cell\/X.env.kindOf x.1=some .free
 dup:∀ {x:Str},(x,NameKind.cell)∈scope.names->(x,NameKind.free)∈scope.names->False
 loc:∀x∈scope.names,x.2=.local -> scope.names.lookup x.1=some .local
 cap:∀ (σ:St) (i:Nat) (x:Str) (v:V),N[i]?=some x->(caps σ)[i]?=some (some v)->scope.names.lookup x=some .free/\∃j:Nat,X.N[j]?=some x/\σ[j]?=some (some v)
 len:∀σ:St,(caps σ).length=N.length
section
variable {X:Cx}{scope:Scope}{N:List Str}{caps:St->St}{tg iter elt:Expr}{ifs:List Expr}{pos:Pos}{wi:TI}{g:TG}{tt:TT}{te:TE}
def IZ(hc:X.calm=true)(S:ip X scope N caps)(hi:PI X tg iter wi)
  (hY:∀fp s H,PG (aU X scope N fp s H) tg g/\NS (aU X scope N fp s H) ifs tt/\PE (aU X scope N fp s H) elt te)
  (hs:∀x,foldedSetIterable iter X.env x=pure x:=by intro _;rfl):PE X (.ListComp elt [⟨tg,iter,ifs,0⟩] scope pos) (Ha wi g tt te caps):=by
 intro pins s σ H Q I h;rw[eval_ListComp];refine wpAny_comprehension_free (use:=none) rfl hs (lz (ju I.ok S.free)) S.kind S.loc (bR (hi pins s σ H _ I h) λv s1 h1=>bR h1 λitv s2 h2=>?_);let⟨it,fp,tn,J,H2,e,I2,T,st2,f2,rd⟩:=h2;subst e;refine bR (rF (iter:=iter) (pos:=pos) (E:=X.xe) hc I2 T st2 f2 S.kind S.free S.dup (S.cap σ) (S.len σ) hY rd) λacc s3 h3=>bR h3 λcenv s4 h4=>?_;refine jR h4 λr s5 h5=>?_;let⟨D,H5,m,rfl,rfl,I5,hn,fC,q⟩:=h5;refine⟨m,hn,λh' sb=>?_⟩;let⟨f0,f1,f2',f3,f4,f5⟩:=fC;exact⟨.ref D,H5,I5.turned (t':=s5.toks) (λb o hb e=>(sb.2 b hb).trans e) f0 f1 f3 f4 f5,rfl,q⟩
def Ig(hc:X.calm=true)(S:ip X scope N caps)(hi:PI X tg iter wi)
  (hY:∀fp s H,PG (aU X scope N fp s H) tg g/\NS (aU X scope N fp s H) ifs tt/\PE (aU X scope N fp s H) elt te)
  (hN:X.N.Nodup) (hiy:X.N[i]?=some y) (hy:X.env.scope.names.lookup y=some .local)
  (hsw:swapsWith (.ListComp elt [⟨tg,iter,ifs,0⟩] scope pos) (some (.Name y py)) spos.line X.env=pure true)
  (hs:∀x,foldedSetIterable iter X.env x=pure x:=by intro _;rfl):PS X (.Assign [.Name y py] (.ListComp elt [⟨tg,iter,ifs,0⟩] scope pos) spos) (EH (Ha wi g tt te caps) (u9 i)):=by
 intro pins s σ H D I h;rw[exec_Assign_Name_used _ _ _ _ hsw];refine zV (vA (zV ?_));show wpAny _ X.A (do let _ <- comprehension (.ListComp elt [⟨tg,iter,ifs,0⟩] scope pos) scope X.env _ (newList []) false (eval iter X.env) (some (assign (.Name y py) X.env))) _ _ s;refine zV (xA (wpAny_comprehension_free (use:=some (assign (.Name y py) X.env)) (Q:=λ_ s'=>SP X pins D .next s') rfl hs (lz (ju I.ok S.free)) S.kind S.loc
  (bR (hi pins s σ H _ I h) λv s1 h1=>bR h1 λitv s2 h2=>?_)) (λ_ s' hq=>zW (zW hq)) λ_ _ e=>e)
 let⟨it,fp,tn,J,H2,e,I2,T,st2,f2,rd⟩:=h2;subst e;refine bR (rF (iter:=iter) (pos:=pos) (E:=X.xe) hc I2 T st2 f2 S.kind S.free S.dup (S.cap σ) (S.len σ) hY rd) λacc s3 h3=>bR h3 λcenv s4 h4=>?_;refine jR h4 λr s5 h5=>?_;let⟨D',H5,m,rfl,rfl,I5,hn,fC,q⟩:=h5;show wpAny _ X.A (assign (.Name y py) X.env (.ref D')) _ _ _;refine wpAny_assign_Name (sr (v:=.ref D') I5 hN hiy (.inl hy) rfl (λs6 I6 ⟨a,sa,ha⟩=>?_) (.inr hy));let⟨f0,f1,f2',f3,f4,f5⟩:=fC;have hne:cenv.locals≠a:=by
  rcases ha with z|z
  ·rw[z];exact f1
  ·exactλw=>f4 y a z w.symm
 refine⟨m,hn.sameBut sa hne,λh' sb=>?_⟩;exact⟨_,H5,I6.turned (t':=s6.toks) (λb o hb e=>(sb.2 b hb).trans e) f0 f1 f3 f4 f5,q⟩
end
abbrev P1(X:Cx)(qual:Str)(scope:Scope)(f c L:Addr):Env:=W.envX qual scope L f (.ref c) (dN X.env scope.names [])
def gm(X:Cx)(A:Around)(qual:Str)(scope:Scope)(N:List Str)(f c:Addr)(s:Shared)(H:Hp):Cx where
 prog:=X.prog
 w:=X.w
 K:=X.K
 mg:=X.mg
 base:=X.base
 A:=A.deeper (P1 X qual scope f c s.heap.objs.size)
 N:=N
 s₀:=s
 H₀:=H
 env:=P1 X qual scope f c s.heap.objs.size
 outer:=X.stack
 stack:=P1 X qual scope f c s.heap.objs.size::X.stack
 ex:=[]
 fn:=λ_=>false
 calm:=true
 pn:=[]
 xe:=λ_ _=>False
def Jg(I:Inv X pins σ H s)(hd:A.handled=none)(hA:A.frames=some X.stack)(S:ip X scope N caps)(hnc:∀x∈scope.names,x.2≠.cell)(hN0:N[0]?=some p)(hp:scope.names.lookup p=some .local)(hNd:N.Nodup)(r:RelV v u)
  (hns:h1.Ns s.heap.objs.size (λx=>[(p,u)].reverse.lookup x)) (hkeep:∀b o,s.heap.get? b=some o->h1.get? b=some o) (t':Nat) :
  Inv (gm X A qual scope N f c s H) [] ((caps σ).set 0 (some v)) H { s with heap:=h1,toks:=t' }:=by
 have hcl:=ju I.ok S.free;have clx:∀x c,(dN X.env scope.names []).lookup x=some c->X.env.cells.lookup x=some c:=λx c e=>j4 hcl (λ_ _ z=>by cases z) x c (mem_of_lookup e);have noA:∀b:Addr,b∉(gm X A qual scope N f c s H).ex:=λb z=>absurd (show b∈([]:List Addr) from z) (by simp);refine⟨⟨I.ok.mod,S.kind,rfl,rfl,yM _,λx y d e1 e2=>I.ok.inj x y d (clx x d e1) (clx y d e2),λx hx=>?_,λx d z=>?_,λ_=>hd,Around.frames_deeper hA,.inr ⟨rfl,rfl⟩,λb z=>absurd z (noA b),I.bs,yD I.ok.bsz I.sz,λb _ _=>noA b,λb z=>absurd z (noA b),I.stack,I.stkFree⟩,
  rfl,I.bare,Un.kept hkeep,⟨_,hns,λi x w e1 e2 e3=>?_⟩,λx d e=>?_,I.hok.fresh (yM _),λx d e=>I.freeC x d (clx x d e),λq hq=>absurd (show q∈([]:List (Addr×Obj)) from hq) (by simp),I.hok.kept hkeep,?_⟩
 ·rcases hx with hx|hx
  ·exact absurd rfl (hnc _ (mem_of_lookup (show scope.names.lookup x=some .cell from hx)))
  ·exact fv (.inl hx)
 ·cases z
 ·cases i with
  | zero =>
   have e1:N[0]?=some x:=e1;rw[hN0] at e1;cases e1;have hl:0 < (caps σ).length:=by rw[S.len];exact (List.getElem?_eq_some_iff.mp hN0).1
   rw[vK hl] at e2;cases e2;exact⟨u,r,.inl ⟨hp,by simp⟩⟩
  | succ i =>
   have e2':(caps σ)[i+1]?=some (some w):=by
    rw[kO (by lia)] at e2;exact e2
   let⟨hfr,j,hj,hv⟩:=S.cap σ (i+1) x w e1 e2';have hm:(x,NameKind.free)∈scope.names:=mem_of_lookup hfr;let⟨m,hn,hl⟩:=I.loc;have kx:=S.free _ hm rfl;let⟨u',ru,lk⟩:=hl j x w hj hv (kx.elim (λk=>.inr (.inl k)) λk=>.inr (.inr k));refine⟨u',ru,.inr ⟨.inr hfr,?_⟩⟩;rcases lk with ⟨k,_⟩|⟨_,c',ec,ic⟩
   ·have k:X.env.kindOf x=some .local:=k;rcases kx with k'|k'<;>· rw[k] at k';cases k'
   ·let⟨c'',hc'⟩:=fv (env:=X.env) (acc:=[]) (.inl hfr);have e':=clx x c'' hc';rw[ec] at e';cases e';exact⟨c',hc',ic.keeps hkeep⟩
 ·let⟨w,q⟩:=I.cell x d (clx x d e);exact⟨w,q.keeps hkeep⟩
 ·rw[yC];exact S.len σ
def xq(I:Inv X pins σ H s)(hr:eF (k+1) A)(hA:A.frames=some X.stack)(S:ip X scope N caps)(hnc:∀x∈scope.names,x.2≠.cell)
  (hN0:N[0]?=some p) (hp:scope.names.lookup p=some .local) (hNd:N.Nodup) (hco:scope.isCoroutine=false) (hgen:scope.isGenerator=false)
  (hf:s.heap.get? f=some (W.kla_obj name qual params body scope (dN X.env scope.names []) pm c ctv)) (hcod:H c=some (.cod qual)) (hb:bindArgs (W.kla_fn name qual params body scope (dN X.env scope.names []) pm (.ref c) ctv) ⟨[u],[]⟩=pure [(p,u)])
  (r:RelV v u) (hY:PE (gm X A qual scope N f c s H) body te) (q:te ((caps σ).set 0 (some v)) H Q) :
  wpAny (model X.prog X.w) A (call (.ref f) [u]) (EP X pins σ Q) (λ_ _=>False) s:=by
 have hcd:s.heap.CodeRec (.ref c) qual:=I.hok c _ hcod;refine wpAny_call (W.kla_callFunE hr.depth hf rfl hco hgen rfl hcd ?_);rw[hb];refine zW (wpAny_newFunctionEnv hnc (λy hy=>?_) (λh1 hns hsb=>⟨?_,?_⟩) S.kind)
 ·rw[List.mem_singleton.mp hy];exact hp
 ·exact I.nolimit.fresh _ hsb
 ·have hk1:∀b o,s.heap.get? b=some o->h1.get? b=some o:=λb o e=>hsb.extBut b o (yR (zY e)) (zU _ e);have I1:=Jg (qual:=qual) (f:=f) (c:=c) I hr.hd hA S hnc hN0 hp hNd r hns hk1 (s.toks+[(p,u)].length);refine W.kla_codeExpr (xA (hY [] _ _ H Q I1 q) (λw s' ⟨v',H',I',r',q'⟩=>?_) λe s' h=>False.elim h);exact⟨v',H',I.call' I'.os I'.base I'.hok I'.bare (λb z=>absurd (show b∈([]:List Addr) from z) (by simp)),r',q'⟩
def zc{pos:Pos}(l:List Value)(h:TriplesOk l)(e:codeAmong pos' (l++[rawInt pos.line,rawInt pos.col,c])=some v):codeAmong pos' l=some v\/v=c:=by
 fun_induction TriplesOk l with
 | case1 =>
  simp?[xO,codeAmong,rawInt] at e;split at e
  ·cases e;exact .inr rfl
  ·cases e
 | case2 a t b u x rest ih =>
  simp?[xF,codeAmong] at e ⊢;split at e
  ·rename_i hc;rw[yL hc];exact .inl e
  ·rename_i hc;rw[yN hc];exact ih h e
 | case3 l h1 h2=>exact h.elim
def xn(I:Inv X pins σ H s)(S:ip X scope N caps)(hq:X.env.qual++"<lambda>"=qual)(hcode:X.env.code=.ref c)(C:W.CodeHd X.base c P)(hT:H P=some (.tab qual))(hB:Pu X.mg X.base)
  (hdef:defaultsOf params X.env=([],[]))
  (h:∀ (f c':Addr) (pm ctv:Value) (s':Shared) (H':Hp),Inv X pins σ H' s'->s'.heap.get? f=some (W.kla_obj "<lambda>" qual params body scope (dN X.env scope.names []) pm c' ctv)->H' f=none->H' c'=some (.cod qual)->aP H H'->cq X pins H' f->(∀b,H' b≠none->H b≠none\/H' b=some (.cod qual))->Q (.ref f) s') :
  wpAny (model X.prog X.w) X.A (eval (.Lambda params body scope lpos) X.env) Q X.xe s:=by
 have hcl:=lz (ju I.ok S.free);have hCs:=C.keeps I.bk;have hg:s.heap.Ns mainGlobals X.mg:=by
  let⟨o,es,ep,e,r⟩:=I.ok.mod.glob;exact⟨o,es,ep,I.bk _ _ e,r⟩
 have hPn:X.base.get? P=none:=by
  cases e:X.base.get? P with
  | none=>rfl
  | some o=>rw[(I.bs P o e).2] at hT;cases hT
 let⟨ps,hP,ht,hco⟩:=I.hok P _ hT;have hb:s.heap.BuiltinsAt X.mg P:=by
  let⟨bm,o,b1,b2,b3,b4,b5⟩:=hB;exact⟨bm,o,b1,b2,b3,(λz=>by rw[z,hPn] at b4;cases b4),I.bk _ _ b4,b5⟩
 refine W.kla_eval hdef ?_;rw[hq];cases hf:codeAmong lpos ps.toList with
 | some cv =>
  let⟨c',rfl,hc'⟩:=hco lpos cv hf;refine W.kla_makeFunctionHit hcl I.ok.glob hg hcode hCs hP ht hf hb λctv h' tk kp hz=>?_;have kp2:∀b o,s.heap.get? b=some o->(h'.push (W.kla_obj "<lambda>" qual params body scope (dN X.env scope.names []) ((X.mg "__name__").getD .none) c' ctv)).get? b=some o:=λb o e=>zU _ (kp b o e);have hn:H h'.objs.size=none:=I.hok.fresh hz;exact h _ c' _ ctv _ H (I.kept (t':=tk) kp2) (zX _ rfl) hn hc' (.refl _) (I.fpOk hz hn) λb z=>.inl z
 | none =>
  have hgP:mainGlobals≠P:=λz=>by
   let⟨o,es,ep,e,r⟩:=I.ok.mod.glob;rw[z,hPn] at e;cases e
  refine W.kla_makeFunction hcl I.ok.glob hg hcode hCs hP ht hf hgP hb λc' ctv h' tk hx hc1 hc2 hcr hP'=>?_;have hn:H c'=none:=I.hok.fresh hc1;have hz:s.heap.objs.size<=h'.objs.size:=jS (qZ hc1 hc2);have nP:∀ {b:Addr}{u:HO},H b=some u->(∀q,u≠.tab q)->b≠P:=λ{b u} e hne z=>by subst z;rw[hT] at e;cases e;exact hne _ rfl
  have kp:∀b o,b≠P->s.heap.get? b=some o->(h'.push (W.kla_obj "<lambda>" qual params body scope (dN X.env scope.names []) ((X.mg "__name__").getD .none) c' ctv)).get? b=some o:=λb o hb e=>zU _ (hx b o hb e);have hPc:P≠c':=λz=>by rw[<- z,hT] at hn;cases hn
  have up:∀b u,H b=some u->upd H c' (.cod qual) b=some u:=λb u e=>by rw[ax (aF e hn)];exact e
  have un:Un X.fs [] H (upd H c' (.cod qual)) s.heap (h'.push (W.kla_obj "<lambda>" qual params body scope (dN X.env scope.names []) ((X.mg "__name__").getD .none) c' ctv)):=by
   refine⟨λb o e n _ _=>kp b o (λz=>by rw[z,hT] at n;cases n) e,λb o e n _ _=>⟨o.slots,kp b o (λz=>by rw[z,hT] at n;cases n) e⟩,λb o e n _=>?_,λb o e _=>?_,λb xs e=>up b _ e,λb o u e=>up b _ e,⟨λb u e _=>up b u e,λb q ps' e z=>?_⟩⟩
   ·rw[ax (yR (zP (zY e) hc1))];exact n
   ·by_cases hb:b=P
    ·subst hb;exact⟨_,zU _ hP'⟩
    ·exact⟨o,kp b o hb e⟩
   ·by_cases hb:b=P
    ·subst hb;rw[hP] at z;cases z;exact⟨_,zU _ hP'⟩
    ·exact⟨#[],by rw[Array.append_empty];exact kp b _ hb z⟩
  have hok:oz X.prog X.w (upd H c' (.cod qual)) (h'.push (W.kla_obj "<lambda>" qual params body scope (dN X.env scope.names []) ((X.mg "__name__").getD .none) c' ctv)):=by
   intro b u e;by_cases hbc:b=c'
   ·subst hbc;rw[aG] at e;cases e;let⟨c0,oc,vs,t,e0,e1,r⟩:=hcr;exact⟨c0,oc,vs,t,e0,zU _ e1,r⟩
   ·rw[ax hbc] at e;by_cases hb:b=P
    ·subst hb;rw[hT] at e;cases e;refine⟨_,zU _ hP',?_,λpos v hv=>?_⟩
     ·have:=TriplesOk_snoc lpos.line lpos.col (.ref c') ps.toList ht;simpa using this
     ·have hv':codeAmong pos (ps.toList++[rawInt lpos.line,rawInt lpos.col,.ref c'])=some v:=by simpa using hv
      rcases zc ps.toList ht hv' with z|z
      ·let⟨c0,z1,z2⟩:=hco pos v z;exact⟨c0,z1,up _ _ z2⟩
      ·exact⟨c',z,aG⟩
    ·exact (I.hok b u e).stay (λd o hd eo=>kp d o (by
      rcases hd with rfl|hd
      ·exact hb
      ·exact nP hd λq z=>by cases z) eo) (λd hd=>up d _ hd) λd o hd _=>up d _ hd
  have I':=I.un (t':=tk) un hok;have hnf:upd H c' (.cod qual) h'.objs.size=none:=by
   rw[ax (jI hc2)];exact I.hok.fresh hz
  refine h _ c' _ ctv _ _ I' (zX _ rfl) hnf aG up (I.fpOk hz hnf) λb z=>?_;by_cases hbc:b=c'
  ·subst hbc;exact .inr aG
  ·rw[ax hbc] at z;exact .inl z
end L2
namespace Dl
open PySem L2 PySem.Spec PyProof.Rows
abbrev D:=PyData
def dE(ks:List (Str×List Int)):List (D×D):=ks.map λp=>(.str p.1,.tuple (p.2.map PyData.int))
abbrev dD(ks:List (Str×List Int)):D:=.dict (dE ks)
def fE(K:W.Frag)(H:Hp):List (Str×List Int)->List (dG×V)->Prop
 | [],us=>us=[]
 | p::r,us=>∃b t,us=(Sum.inr p.1,V.ref b)::t/\eD K H b (p.2.map V.int)/\fE K H r t
mutual
def Rep(K:W.Frag)(H:Hp):D->V->Prop
 | .none,v=>v=.non
 | .bool b,v=>v=.bl b
 | .int i,v=>v=.int i
 | .str x,v=>v=.str x
 | .tuple ds,v=>∃a vs,v=.ref a/\eD K H a vs/\au K H ds vs
 | .list ds,v=>∃a vs,v=.ref a/\gH K H a vs/\au K H ds vs
 | .dict l,v=>∃a ks us,v=.ref a/\l=dE ks/\H a=some (.dK us)/\fE K H ks us
def au(K:W.Frag)(H:Hp):List D->List V->Prop
 | [],vs=>vs=[]
 | d::ds,vs=>∃v r,vs=v::r/\Rep K H d v/\au K H ds r
end
def ay{K:W.Frag}(e:aP H H')(h:eD K H a xs):eD K H' a xs:=by
 rcases h with (h|⟨o,h⟩)|h
 ·exact .inl (.inl (e _ _ h))
 ·exact .inl (.inr ⟨o,e _ _ h⟩)
 ·exact .inr h
def fE.mono{K:W.Frag}{H H':Hp}(e:aP H H'):∀ {ks:List (Str×List Int)}{us:List (dG×V)},fE K H ks us->fE K H' ks us
 | [],_,h=>h
 | p::r,us,⟨b,t,h1,h2,h3⟩=>⟨b,t,h1,ay e h2,fE.mono e h3⟩
mutual
theorem Rep.mono{K:W.Frag}{H H':Hp}(e:aP H H'):∀ {d:D}{v:V},Rep K H d v->Rep K H' d v
 | .none,_,h=>h
 | .bool _,_,h=>h
 | .int _,_,h=>h
 | .str _,_,h=>h
 | .tuple ds,_,h=>by
  simp?[Rep] at h ⊢;let⟨a,vs,rfl,q,r⟩:=h;exact⟨a,vs,rfl,ay e q,au.mono e r⟩
 | .list ds,_,h=>by
  simp?[Rep] at h ⊢;let⟨a,vs,rfl,q,r⟩:=h;exact⟨a,vs,rfl,e.seq q,au.mono e r⟩
 | .dict l,_,h=>by
  simp?[Rep] at h ⊢;let⟨a,ks,us,h1,h2,h3,h4⟩:=h;exact⟨a,ks,us,h1,h2,e _ _ h3,h4.mono e⟩
theorem au.mono{K:W.Frag}{H H':Hp}(e:aP H H'):∀ {ds:List D}{vs:List V},au K H ds vs->au K H' ds vs
 | [],_,h=>h
 | d::ds,_,h=>by
  simp?[au] at h ⊢;let⟨v,r,rfl,a,b⟩:=h;exact⟨v,r,rfl,Rep.mono e a,au.mono e b⟩
end
section
variable {K:W.Frag}
def au.nil:au K H [] []:=by simp[au]
def au.cons(a:Rep K H d v)(b:au K H ds vs):au K H (d::ds) (v::vs):=by
 simp?[au];exact⟨v,vs,rfl,a,b⟩
def au.cons_inv(h:au K H (d::ds) vs):∃v r,vs=v::r/\Rep K H d v/\au K H ds r:=by simpa only[au] using h
def au.nil_inv(h:au K H [] vs):vs=[]:=by simpa only[au] using h
def au.length:∀ {ds:List D}{vs:List V},au K H ds vs->vs.length=ds.length
 | [],_,h=>by rw[h.nil_inv];rfl
 | d::ds,_,h=>by let⟨v,r,rfl,_,b⟩:=h.cons_inv;simp[au.length b]
def au.get:∀ {ds:List D}{vs:List V}{i:Nat}{v:V},au K H ds vs->vs[i]?=some v->∃d,ds[i]?=some d/\Rep K H d v
 | [],_,i,v,h,e=>by rw[h.nil_inv] at e;simp at e
 | d::ds,_,i,v,h,e=>by
  let⟨v',r,rfl,a,b⟩:=h.cons_inv;cases i with
  | zero=>simp at e;subst e;exact⟨d,rfl,a⟩
  | succ i=>simp at e;let⟨d',h1,h2⟩:=au.get b e;exact⟨d',by simpa using h1,h2⟩
def au.getD:∀ {ds:List D}{vs:List V}{i:Nat}{d:D},au K H ds vs->ds[i]?=some d->∃v,vs[i]?=some v/\Rep K H d v
 | [],_,i,d,h,e=>by simp at e
 | d::ds,_,i,d',h,e=>by
  let⟨v',r,rfl,a,b⟩:=h.cons_inv;cases i with
  | zero=>simp at e;subst e;exact⟨v',rfl,a⟩
  | succ i=>simp at e;let⟨v,h1,h2⟩:=au.getD b e;exact⟨v,by simpa using h1,h2⟩
def au.append:∀ {ds es:List D}{vs us:List V},au K H ds vs->au K H es us->au K H (ds++es) (vs++us)
 | [],_,_,_,h,g=>by rw[h.nil_inv];exact g
 | d::ds,_,_,_,h,g=>by let⟨v,r,rfl,a,b⟩:=h.cons_inv;exact au.cons a (au.append b g)
def au.take:∀ {ds:List D}{vs:List V}(n:Nat),au K H ds vs->au K H (ds.take n) (vs.take n)
 | [],_,n,h=>by rw[h.nil_inv];simp[au]
 | d::ds,_,0,h=>by simp[au]
 | d::ds,_,n+1,h=>by let⟨v,r,rfl,a,b⟩:=h.cons_inv;exact au.cons a (au.take n b)
def au.drop:∀ {ds:List D}{vs:List V}(n:Nat),au K H ds vs->au K H (ds.drop n) (vs.drop n)
 | [],_,n,h=>by rw[h.nil_inv];simp[au]
 | d::ds,_,0,h=>h
 | d::ds,_,n+1,h=>by let⟨v,r,rfl,a,b⟩:=h.cons_inv;exact au.drop n b
def au.reverse:∀ {ds:List D}{vs:List V},au K H ds vs->au K H ds.reverse vs.reverse
 | [],_,h=>by rw[h.nil_inv];simp[au]
 | d::ds,_,h=>by
  let⟨v,r,rfl,a,b⟩:=h.cons_inv;rw[kY,kY];exact au.append (au.reverse b) (au.cons a au.nil)
end
structure bF(HF H HF' H':Hp):Prop where
 hh:aP H H'
 ff:aP HF HF'
 fh:aP HF' H'
 nw:∀a o,HF' a=some o->HF a=some o\/H a=none
def bF.refl(s:aP HF H):bF HF H HF H:=⟨.refl _,.refl _,s,λ_ _ e=>.inl e⟩
def bF.trans(a:bF HF H HF1 H1)(b:bF HF1 H1 HF2 H2):bF HF H HF2 H2 :=
 ⟨a.hh.trans b.hh,a.ff.trans b.ff,b.fh,λx o e=>(b.nw x o e).elim (λz=>a.nw x o z) λz=>.inr (a.hh.free z)⟩
def bL(h:H p=none):aP H (upd H p o):=λb u e=>by rw[ax (aF e h)];exact e
def bF.new(s:aP HF H)(h:H p=none):bF HF H (upd HF p o) (upd H p o):=by
 have hf:HF p=none:=s.free h;refine⟨bL h,bL hf,λb u e=>?_,λb u e=>?_⟩
 ·by_cases hb:b=p
  ·subst hb;rw[aG] at e ⊢;exact e
  ·rw[ax hb] at e ⊢;exact s b u e
 ·by_cases hb:b=p
  ·subst hb;exact .inr h
  ·rw[ax hb] at e;exact .inl e
def bF.own(s:aP HF H)(h:H p=none):bF HF H HF (upd H p o) :=
 ⟨bL h,.refl _,λb u e=>by rw[ax (aF (s b u e) h)];exact s b u e,λ_ _ e=>.inl e⟩
def bF.freeze(g:bF HF H HF1 H1)(h:H p=none)(h1:H1 p=some o)(hf:HF1 p=none):bF HF H (upd HF1 p o) H1 :=
 ⟨g.hh,g.ff.trans (bL hf),λb u e=>by
  by_cases hb:b=p
  ·subst hb;rw[aG] at e;rw[h1,<- e]
  ·rw[ax hb] at e;exact g.fh b u e,λb u e=>by
  by_cases hb:b=p
  ·subst hb;exact .inr h
  ·rw[ax hb] at e;exact g.nw b u e⟩
def iV:List Str:=["ways_of","turned_order","fairest"]
def fH(K:W.Frag)(HF:Hp):Prop:=∀ (f:Addr) (oc:Value) (od:Option Addr) (fd:FuncData) (sl:Array (Option Value)) (c P:Addr),K.lookup f=some ⟨oc,od,.func fd,sl⟩->fd.qualname∈iV->fd.code=.ref c->W.codeHdIn K c P=true->HF P=some (.tab (fd.qualname++".<locals>."++"<lambda>"))
def fH.mono{K:W.Frag}(h:fH K HF)(e:aP HF HF'):fH K HF':=λf oc od fd sl c P a b d q=>e _ _ (h f oc od fd sl c P a b d q)
abbrev Env:=List (Option D)
structure cB(K:W.Frag)(HF:Hp)(ρ:Env)(σ:L2.St):Prop where
 get:∀ (i:Nat) (d:D),ρ[i]?=some (some d)->∃v,σ[i]?=some (some v)/\Rep K HF d v
 len:ρ.length<=σ.length
 tb:fH K HF
def cB.mono{K:W.Frag}(h:cB K HF ρ σ)(e:aP HF HF'):cB K HF' ρ σ:=⟨λi d q=>let ⟨v,a,b⟩:=h.get i d q;⟨v,a,b.mono e⟩,h.len,h.tb.mono e⟩
def tD(K:W.Frag)(f:Env->Option D):TE:=λσ H Q=>∃HF ρ d,aP HF H/\cB K HF ρ σ/\f ρ=some d/\∀v H' HF',bF HF H HF' H'->Rep K HF' d v->Q v H'
def DE(X:Cx)(e:Expr)(f:Env->Option D):Prop:=PE X e (tD X.K f)
def tF(K:W.Frag)(f:Env->Option (List D)):TE:=λσ H Q=>∃HF ρ ds,aP HF H/\cB K HF ρ σ/\f ρ=some ds /\
 ∀a vs H' HF',bF HF H HF' H'->H a=none->HF' a=none->H' a=some (.lst vs)->au K HF' ds vs->Q (.ref a) H'
def DF(X:Cx)(e:Expr)(f:Env->Option (List D)):Prop:=PE X e (tF X.K f)
def Lw(K:W.Frag)(f:Env->Option Bool):TT:=λσ H Q=>∃HF ρ b,aP HF H/\cB K HF ρ σ/\f ρ=some b/\∀H' HF',bF HF H HF' H'->Q b H'
def DT(X:Cx)(e:Expr)(f:Env->Option Bool):Prop:=PT X e (Lw X.K f)
def PN(K:W.Frag)(f:Env->Option (List D)):TA:=λσ H Q=>∃HF ρ ds,aP HF H/\cB K HF ρ σ/\f ρ=some ds/\∀vs H' HF',bF HF H HF' H'->au K HF' ds vs->Q vs H'
def DA(X:Cx)(es:List Expr)(f:Env->Option (List D)):Prop:=PA X es (PN X.K f)
def aN(h:PE X e t)(i:∀σ H Q,t' σ H Q->t σ H Q):PE X e t':=λpins s σ H Q I q=>h pins s σ H Q I (i σ H Q q)
def ub(h:PT X e t)(i:∀σ H Q,t' σ H Q->t σ H Q):PT X e t':=λpins s σ H Q I q=>h pins s σ H Q I (i σ H Q q)
def ES(h:PA X e t)(i:∀σ H Q,t' σ H Q->t σ H Q):PA X e t':=λpos pins s σ H Q I q=>h pos pins s σ H Q I (i σ H Q q)
def bs(h:x.bind f=some b):∃a,x=some a/\f a=some b:=by
 cases x with
 | none=>cases h
 | some a=>exact⟨a,rfl,h⟩
def DF.de(h:DF X e f):DE X e (λρ=>(f ρ).map PyData.list):=aN h λσ H Q ⟨HF,ρ,d,sm,eo,hf,q⟩=>by
 have hf:(f ρ).map PyData.list=some d:=hf;cases e1:f ρ with
 | none=>rw[e1] at hf;cases hf
 | some ds =>
  rw[e1] at hf;obtain rfl:PyData.list ds=d:=xD hf;refine⟨HF,ρ,ds,sm,eo,e1,λa vs H' HF' g ha hf' h' r=>q _ _ (upd HF' a (.lst vs)) (g.freeze ha h' hf') ?_⟩;simp?[Rep];exact⟨a,vs,rfl,.inl (.inl aG),r.mono (bL hf')⟩
def ab(i:Nat):Env->Option D:=λρ=>(ρ[i]?).getD none
def ND(i:Nat)(hN:X.N[i]?=some x)(hv:AV X.env.scope x)(hd:(x == ("__debug__":Str))=false:=by decide)(hcd:(x == ("__classdict__":Str))=false:=by decide):DE X (.Name x pos) (ab i) :=
 aN (fF hN hv hd hcd) λσ H Q ⟨HF,ρ,d,sm,eo,hf,q⟩=>by
  have hf:(ρ[i]?).getD none=some d:=hf;cases e:ρ[i]? with
  | none=>rw[e] at hf;cases hf
  | some o =>
   rw[e] at hf;have hf:o=some d:=hf;subst hf;let⟨v,a,b⟩:=eo.get i d e;exact⟨v,a,q v H HF (.refl sm) b⟩
def fC(d:D):Env->Option D:=λ_=>some d
def LB{i j pos}:DE X (.Constant (.int i) j pos) (fC (.int i)):=aN Ay λσ H Q ⟨HF,ρ,d,sm,eo,hf,q⟩=>by cases hf;exact q _ H HF (.refl sm) (by simp[Rep])
def Oz{b j pos}:DE X (.Constant (.bool b) j pos) (fC (.bool b)):=aN OP λσ H Q ⟨HF,ρ,d,sm,eo,hf,q⟩=>by cases hf;exact q _ H HF (.refl sm) (by simp[Rep])
def Le{j pos}:DE X (.Constant .none j pos) (fC .none):=aN MG λσ H Q ⟨HF,ρ,d,sm,eo,hf,q⟩=>by cases hf;exact q _ H HF (.refl sm) (by simp[Rep])
def Nc{x j pos}:DE X (.Constant (.str x) j pos) (fC (.str x)):=aN Mo λσ H Q ⟨HF,ρ,d,sm,eo,hf,q⟩=>by cases hf;exact q _ H HF (.refl sm) (by simp[Rep])
def JT(hg:Gl X x)(hm:X.mg x=some (.int i t))(hd:(x == ("__debug__":Str))=false:=by decide):DE X (.Name x pos) (fC (.int i)) :=
 aN (BV (v:=.int i) hg hm ⟨t,rfl⟩ hd) λσ H Q ⟨HF,ρ,d,sm,eo,hf,q⟩=>by cases hf;exact q _ H HF (.refl sm) (by simp[Rep])
def dF(K:W.Frag)(r:R2)(g:D->D->Option D):Prop:=∀HF H x y v1 v2 d Q,aP HF H->Rep K HF x v1->Rep K HF y v2->g x y=some d->(∀v H' HF',bF HF H HF' H'->Rep K HF' d v->Q v H')->r v1 v2 H Q
def f2(g:D->D->Option D)(f1 f2:Env->Option D):Env->Option D:=λρ=>(f1 ρ).bind λx=>(f2 ρ).bind λy=>g x y
def Dc{X:Cx}{fa fb:Env->Option D}(hr:dF X.K r g):∀σ H Q,tD X.K (f2 g fa fb) σ H Q->Ob r (tD X.K fa) (tD X.K fb) σ H Q:=λσ H Q ⟨HF,ρ,d,sm,eo,hf,q⟩=>by
 let⟨x,hx,hf⟩:=bs hf;let⟨y,hy,hg⟩:=bs hf;exact⟨HF,ρ,x,sm,eo,hx,λv1 H1 HF1 g1 r1=>⟨HF1,ρ,y,g1.fh,eo.mono g1.ff,hy,λv2 H2 HF2 g2 r2=>hr HF2 H2 x y v1 v2 d Q g2.fh (r1.mono g2.ff) r2 hg λv H' HF' g3 r3=>q v H' HF' ((g1.trans g2).trans g3) r3⟩⟩
def r8(ho:fT X (binaryOp op) r)(hr:dF X.K r g)(ha:DE X a fa)(hb:DE X b fb):DE X (.BinOp a op b pos) (f2 g fa fb):=aN (Ko ho ha hb) (Dc hr)
def gF(ho:fT X (compareOp op) r)(hr:dF X.K r g)(ha:DE X a fa)(hb:DE X b fb)(hm:behindInMarks op b=false):DE X (.Compare a [op] [b] pos) (f2 g fa fb):=aN (JJ ho ha hb hm) (Dc hr)
def uU(C:Int->Int->Prop)[∀i j,Decidable (C i j)](g:Int->Int->D):D->D->Option D
 | .int i,.int j=>if C i j then some (g i j) else none
 | _,_=>none
def FF{K:W.Frag}{C:Int->Int->Prop}[∀i j,Decidable (C i j)]{gi:Int->Int->Int}:dF K (rI C λi j=>.int (gi i j)) (uU C λi j=>.int (gi i j)):=by
 intro HF H x y v1 v2 d Q sm r1 r2 hg q;cases x<;>cases y<;>simp?[uU] at hg<;>try cases hg
 rename_i i j;simp?[Rep] at r1 r2;by_cases hc:C i j
 ·rw[yL hc] at hg;cases hg;exact⟨i,j,r1,r2,hc,q _ H HF (.refl sm) (by simp[Rep])⟩
 ·rw[yN hc] at hg;cases hg
def Eb{K:W.Frag}{gi:Int->Int->Int}:dF K (HI λi j=>.int (gi i j)) (uU (λ_ _=>True) λi j=>.int (gi i j)):=by
 intro HF H x y v1 v2 d Q sm r1 r2 hg q;cases x<;>cases y<;>simp?[uU] at hg<;>try cases hg
 rename_i i j;simp?[Rep] at r1 r2;exact⟨i,j,r1,r2,q _ H HF (.refl sm) (by simp[Rep])⟩
def jr{K:W.Frag}{gi:Int->Int->Bool}:dF K (HI λi j=>.bl (gi i j)) (uU (λ_ _=>True) λi j=>.bool (gi i j)):=by
 intro HF H x y v1 v2 d Q sm r1 r2 hg q;cases x<;>cases y<;>simp?[uU] at hg<;>try cases hg
 rename_i i j;simp?[Rep] at r1 r2;exact⟨i,j,r1,r2,q _ H HF (.refl sm) (by simp[Rep])⟩
noncomputable instance (i j:Int):Decidable (rg i j):=by unfold rg;infer_instance
noncomputable instance (i j:Int):Decidable (Ih i j):=by unfold Ih;infer_instance
section
variable {X:Cx}{a b c:Expr}{fa fb fc:Env->Option D}{pos:Pos}{rest:List Expr}
def kj(fa fb:Env->Option D):Env->Option D:=λρ=>(fa ρ).bind fun|.bool true=>fb ρ|.bool false=>some (.bool false)|_=>none
def Qm(fa fb:Env->Option D):Env->Option D:=λρ=>(fa ρ).bind fun|.bool true=>some (.bool true)|.bool false=>fb ρ|_=>none
def OO:D->Option D|.bool b=>some (.bool (!b))|_=>none
def Qg(fa:Env->Option D):Env->Option D:=λρ=>(fa ρ).bind OO
def La{op}(h:DE X a fa):DE X (.BoolOp op [a] pos) fa:=LX h
def MR(ha:DE X a fa)(hb:DE X (.BoolOp .And (b::rest) pos) fb):DE X (.BoolOp .And (a::b::rest) pos) (kj fa fb):=aN (K7 ha hb) λσ H Q ⟨HF,ρ,d,sm,eo,hf,q⟩=>by
 let⟨x,hx,hf⟩:=bs hf;refine⟨HF,ρ,x,sm,eo,hx,λv1 H1 HF1 g1 r1=>?_⟩;cases x<;>try cases hf
 rename_i k;simp?[Rep] at r1;refine⟨k,r1,?_⟩;cases k with
 | true=>exact uk ⟨HF1,ρ,d,g1.fh,eo.mono g1.ff,hf,λv H' HF' g r=>q v H' HF' (g1.trans g) r⟩
 | false=>cases hf;exact tM (q _ H1 HF1 g1 (by simp[Rep]))
def OF(ha:DE X a fa)(hb:DE X (.BoolOp .Or (b::rest) pos) fb):DE X (.BoolOp .Or (a::b::rest) pos) (Qm fa fb):=aN (F1 ha hb) λσ H Q ⟨HF,ρ,d,sm,eo,hf,q⟩=>by
 let⟨x,hx,hf⟩:=bs hf;refine⟨HF,ρ,x,sm,eo,hx,λv1 H1 HF1 g1 r1=>?_⟩;cases x<;>try cases hf
 rename_i k;simp?[Rep] at r1;refine⟨k,r1,?_⟩;cases k with
 | false=>exact tM ⟨HF1,ρ,d,g1.fh,eo.mono g1.ff,hf,λv H' HF' g r=>q v H' HF' (g1.trans g) r⟩
 | true=>cases hf;exact uk (q _ H1 HF1 g1 (by simp[Rep]))
def gB:D->Option Bool|.bool b=>some b|_=>none
def fB(f:Env->Option D):Env->Option Bool:=λρ=>(f ρ).bind gB
def z7:∀σ H (Q:Bool->Hp->Prop),Lw X.K (fB f) σ H Q->tD X.K f σ H λx H1=>∃c,x=.bl c/\Q c H1:=λσ H Q ⟨HF,ρ,k,sm,eo,hf,q⟩=>by
 let⟨x,hx,hf⟩:=bs hf;refine⟨HF,ρ,x,sm,eo,hx,λv1 H1 HF1 g1 r1=>?_⟩;cases x<;>try cases hf
 simp?[Rep] at r1;exact⟨_,r1,q H1 HF1 g1⟩
def NG(h:DE X a f)(he:∀whole,isTrue a X.env whole=(do let v <- whole;standAt a.pos;holding [v] (truthy v)):=by intro _;rfl):DT X a (fB f):=ub (M4 h he) z7
def gp(ho:fT X (compareOp op) r)(hr:dF X.K r g)(ha:DE X a fa)(hb:DE X b fb)(hm:behindInMarks op b=false):DT X (.Compare a [op] [b] pos) (fB (f2 g fa fb)) :=
 ub (Bp ho ha hb hm) λσ H Q h=>Dc hr σ H _ (z7 σ H Q h)
def nY(fa fb:Env->Option Bool):Env->Option Bool:=λρ=>(fa ρ).bind fun|true=>fb ρ|false=>some false
def ki(fa fb:Env->Option Bool):Env->Option Bool:=λρ=>(fa ρ).bind fun|true=>some true|false=>fb ρ
def bG(fa:Env->Option Bool):Env->Option Bool:=λρ=>(fa ρ).map (!·)
variable {ta tb:Env->Option Bool}
def DW(X:Cx)(e:Expr)(f:Env->Option Bool):Prop:=PW X e (Lw X.K f)
def D4(h:PW X e t)(i:∀σ H Q,t' σ H Q->t σ H Q):PW X e t':=λwh pins s σ H Q I q=>h wh pins s σ H Q I (i σ H Q q)
def DW.dt(h:DW X a ta):DT X a ta:=PW.pt h
def Hy(ha:DT X a ta):DW X (.BoolOp .And [a] pos) ta:=Jm ha
def Lq(ha:DT X a ta):DW X (.BoolOp .Or [a] pos) ta:=Md ha
def L8(ha:DT X a ta)(hb:DW X (.BoolOp .And (b::rest) pos) tb):DW X (.BoolOp .And (a::b::rest) pos) (nY ta tb):=D4 (Mb ha hb) λσ H Q ⟨HF,ρ,d,sm,eo,hf,q⟩=>by
 let⟨x,hx,hf⟩:=bs hf;refine⟨HF,ρ,x,sm,eo,hx,λH1 HF1 g1=>?_⟩;cases x with
 | true=>exact uk ⟨HF1,ρ,d,g1.fh,eo.mono g1.ff,hf,λH' HF' g=>q H' HF' (g1.trans g)⟩
 | false=>cases hf;exact tM (q H1 HF1 g1)
def Od(ha:DT X a ta)(hb:DW X (.BoolOp .Or (b::rest) pos) tb):DW X (.BoolOp .Or (a::b::rest) pos) (ki ta tb):=D4 (OQ ha hb) λσ H Q ⟨HF,ρ,d,sm,eo,hf,q⟩=>by
 let⟨x,hx,hf⟩:=bs hf;refine⟨HF,ρ,x,sm,eo,hx,λH1 HF1 g1=>?_⟩;cases x with
 | false=>exact tM ⟨HF1,ρ,d,g1.fh,eo.mono g1.ff,hf,λH' HF' g=>q H' HF' (g1.trans g)⟩
 | true=>cases hf;exact uk (q H1 HF1 g1)
def LC(ha:DT X a ta):DT X (.UnaryOp .Not a pos) (bG ta):=ub (LG ha) λσ H Q ⟨HF,ρ,d,sm,eo,hf,q⟩=>by
 have hf:(ta ρ).map (!·)=some d:=hf;cases e:ta ρ with
 | none=>rw[e] at hf;cases hf
 | some k=>rw[e] at hf;cases hf;exact⟨HF,ρ,k,sm,eo,e,λH1 HF1 g1=>q H1 HF1 g1⟩
def Hj(tc:Env->Option Bool)(fa fb:Env->Option D):Env->Option D:=λρ=>(tc ρ).bind fun|true=>fa ρ|false=>fb ρ
def Pc(hc:DT X c ta)(ha:DE X a fa)(hb:DE X b fb):DE X (.IfExp c a b pos) (Hj ta fa fb):=aN (Fu hc ha hb) λσ H Q ⟨HF,ρ,d,sm,eo,hf,q⟩=>by
 let⟨x,hx,hf⟩:=bs hf;refine⟨HF,ρ,x,sm,eo,hx,λH1 HF1 g1=>?_⟩;cases x with
 | true=>exact uk ⟨HF1,ρ,d,g1.fh,eo.mono g1.ff,hf,λv H' HF' g r=>q v H' HF' (g1.trans g) r⟩
 | false=>exact tM ⟨HF1,ρ,d,g1.fh,eo.mono g1.ff,hf,λv H' HF' g r=>q v H' HF' (g1.trans g) r⟩
def jl(g g':D->D->Option D)(fa fb fc:Env->Option D):Env->Option D:=λρ=>(fa ρ).bind λx=>(fb ρ).bind λy=>(g x y).bind fun|.bool true=>(fc ρ).bind λz=>g' y z|.bool false=>some (.bool false)|_=>none
def BH(hr:dF X.K r g)(hr':dF X.K r' g'):∀σ H Q,tD X.K (jl g g' fa fb fc) σ H Q->yx r r' (tD X.K fa) (tD X.K fb) (tD X.K fc) σ H Q:=λσ H Q ⟨HF,ρ,d,sm,eo,hf,q⟩=>by
 let⟨x,hx,hf⟩:=bs hf;let⟨y,hy,hf⟩:=bs hf;let⟨z,hz,hf⟩:=bs hf;refine⟨HF,ρ,x,sm,eo,hx,λv1 H1 HF1 g1 r1=>⟨HF1,ρ,y,g1.fh,eo.mono g1.ff,hy,λv2 H2 HF2 g2 r2=>hr HF2 H2 x y v1 v2 z _ g2.fh (r1.mono g2.ff) r2 hz λv3 H3 HF3 g3 r3=>?_⟩⟩;cases z<;>try cases hf
 rename_i k;simp?[Rep] at r3;refine⟨k,r3,?_⟩;have G:=(g1.trans g2).trans g3;cases k with
 | false=>cases hf;exact tM (q _ H3 HF3 G (by simp[Rep]))
 | true =>
  let⟨w,hw,hg⟩:=bs hf;exact uk ⟨HF3,ρ,w,G.fh,eo.mono G.ff,hw,λv4 H4 HF4 g4 r4=>hr' HF4 H4 y w v2 v4 d Q g4.fh (r2.mono (g3.ff.trans g4.ff)) r4 hg λv H' HF' g5 r5=>q v H' HF' ((G.trans g4).trans g5) r5⟩
def GV(ho:fT X (compareOp op) r)(hr:dF X.K r g)(ho':fT X (compareOp op') r')(hr':dF X.K r' g')(ha:DE X a fa)(hb:DE X b fb)(hc:DE X c fc)
  (hm:lastMarks [op,op'] [b,c]=false:=by with_unfolding_all rfl):DE X (.Compare a [op,op'] [b,c] pos) (jl g g' fa fb fc):=aN (FY ho ho' ha hb hc hm) (BH hr hr')
def ED(ho:fT X (compareOp op) r)(hr:dF X.K r g)(ho':fT X (compareOp op') r')(hr':dF X.K r' g')(ha:DE X a fa)(hb:DE X b fb)(hc:DE X c fc)
  (hm:lastMarks [op,op'] [b,c]=false:=by with_unfolding_all rfl):DT X (.Compare a [op,op'] [b,c] pos) (fB (jl g g' fa fb fc)) :=
 ub (Ga ho ho' ha hb hc hm) λσ H Q h=>BH hr hr' σ H _ (z7 σ H Q h)
def ae:Env->Option (List D):=λ_=>some []
def aa(f:Env->Option D)(g:Env->Option (List D)):Env->Option (List D):=λρ=>(f ρ).bind λx=>(g ρ).map (x::·)
def FL:DA X [] ae:=ES eH λσ H Q ⟨HF,ρ,d,sm,eo,hf,q⟩=>by cases hf;exact q [] H HF (.refl sm) au.nil
def BE(he:DE X e f)(hs:DA X es g)(hst:starEach (e::es) X.env=(false,eval e X.env)::starEach es X.env:=by rfl):DA X (e::es) (aa f g) :=
 ES (cA he hs hst) λσ H Q ⟨HF,ρ,d,sm,eo,hf,q⟩=>by
  let⟨x,hx,hf⟩:=bs hf;have hf:(g ρ).map (x::·)=some d:=hf;cases e1:g ρ with
  | none=>rw[e1] at hf;cases hf
  | some xs =>
   rw[e1] at hf;cases hf;exact⟨HF,ρ,x,sm,eo,hx,λv1 H1 HF1 g1 r1=>⟨HF1,ρ,xs,g1.fh,eo.mono g1.ff,e1,λvs H2 HF2 g2 r2=>q (v1::vs) H2 HF2 (g1.trans g2) (au.cons (r1.mono g2.ff) r2)⟩⟩
variable {es:List Expr}{fs:Env->Option (List D)}
def small(ds:List D):Option (List D):=if ds.length<=sizeLine then some ds else none
def dS{ds es:List D}(h:small ds=some es):es=ds/\ds.length<=sizeLine:=by
 unfold small at h;split at h
 ·cases h;exact⟨rfl,‹_›⟩
 ·cases h
def aJ(g:Env->Option (List D)):Env->Option D:=λρ=>(g ρ).bind λds=>(small ds).map PyData.tuple
def dR(g:Env->Option (List D)):Env->Option (List D):=λρ=>(g ρ).bind small
def LL{x1}(h:DA X es fs):DE X (.Tuple es x1 pos) (aJ fs):=aN (LF h) λσ H Q ⟨HF,ρ,d,sm,eo,hf,q⟩=>by
 let⟨ds,hx,hf⟩:=bs hf;have hf:(small ds).map PyData.tuple=some d:=hf;cases e:small ds with
 | none=>rw[e] at hf;cases hf
 | some es' =>
  rw[e] at hf;cases hf;let⟨rfl,hz⟩:=dS e;refine⟨HF,ρ,_,sm,eo,hx,λvs H1 HF1 g1 r1=>⟨by rw[r1.length];exact hz,λp hp=>q _ _ (upd HF1 p (.tup vs)) (g1.trans (.new g1.fh hp)) ?_⟩⟩;simp?[Rep];exact⟨p,vs,rfl,.inl (.inl aG),r1.mono (bL (g1.fh.free hp))⟩
def LN(h:DA X es fs):DF X (.List es pos) (dR fs):=aN (Nr h) λσ H Q ⟨HF,ρ,d,sm,eo,hf,q⟩=>by
 let⟨ds,hx,hf⟩:=bs hf;let⟨rfl,hz⟩:=dS hf;exact⟨HF,ρ,_,sm,eo,hx,λvs H1 HF1 g1 r1=>⟨by rw[r1.length];exact hz,λp hp=>q p vs _ HF1 (g1.trans (.own g1.fh hp)) (g1.hh.free hp) (g1.fh.free hp) aG r1⟩⟩
def aw:D->D->Option D
 | .tuple ds,.int i=>oe ds i
 | .list ds,.int i=>oe ds i
 | _,_=>none
def xv{K:W.Frag}(r:au K HF ds vs)(h:oe ds i=some d):∃v,oe vs i=some v/\Rep K HF d v:=by
 unfold oe at h ⊢;rw[r.length];let⟨j,hj,h⟩:=bs h;let⟨v,a,b⟩:=r.getD h;exact⟨v,by rw[hj];exact a,b⟩
def Nz{K:W.Frag}:dF K (QV K) aw:=by
 intro HF H x y v1 v2 d Q sm r1 r2 hg q;cases x<;>cases y<;>simp?[aw] at hg<;>try cases hg
 ·simp?[Rep] at r1 r2;let⟨a,vs,rfl,hs,r⟩:=r1;let⟨v,hv,rv⟩:=xv r hg;exact .inl ⟨a,vs,_,v,rfl,r2,sm.seq hs,hv,q v H HF (.refl sm) rv⟩
 ·simp?[Rep] at r1 r2;let⟨a,vs,rfl,hs,r⟩:=r1;let⟨v,hv,rv⟩:=xv r hg;exact .inr (.inl ⟨a,vs,_,v,rfl,r2,ay sm hs,hv,q v H HF (.refl sm) rv⟩)
def N7(ha:DE X a fa)(hb:DE X b fb)(hs:mh b:=by intro _ _;rfl):DE X (.Subscript a b pos) (f2 aw fa fb):=aN (Fo Nh ha hb hs) (Dc Nz)
def yu{x:Str}{v:Value}(h:Value.isStrOf x v=true):∃t,v=.str x t:=by
 unfold Value.isStrOf at h;split at h
 ·exact⟨_,by rw[eq_of_beq h]⟩
 ·cases h
def pW{h:Heap}:∀ {ns:List Int}{us:List Value},aH (ns.map V.int) us->∃as,ReadsAll h us (ns.map PyData.int) as
 | [],_,r=>by cases r;exact⟨_,.nil⟩
 | n::ns,_,r=>by
  rw[zI] at r ⊢;cases r with
  | cons a b =>
   let⟨t,rfl⟩:=a;let⟨as,q⟩:=pW b;exact⟨_,.cons (.int n t) q⟩
def rJ{pins:List (Addr×Obj)}{σ:L2.St}{H HF:Hp}{s:Shared}(I:Inv X pins σ H s)(sm:aP HF H):∀ {ks:List (Str×List Int)}{us:List (dG×V)}{vs:List (dG×Value)}{es:List DictEntry},fE X.K HF ks us->KV us vs->PySem.Pairs (dZ X.prog X.w) es vs ->
  ∃as bs,ReadsAll s.heap (es.map (·.key)) ((dE ks).map (·.1)) as/\ReadsAll s.heap (es.map (·.val)) ((dE ks).map (·.2)) bs
 | [],us,vs,es,h,kv,hp=>by
  have h:us=[]:=h;subst h;cases kv;cases hp;exact⟨_,_,.nil,.nil⟩
 | p::r,us,vs,es,⟨b,t,h1,h2,h3⟩,kv,hp=>by
  subst h1;cases kv with
  | cons q kv =>
   cases hp with
   | cons k1 k2 hp =>
    let⟨as,bs,q1,q2⟩:=rJ I sm h3 kv hp;let⟨z1,z2⟩:=q;have z2:_=Value.ref b:=z2;have z1:Sum.inr p.1=_:=z1;rw[<- z1] at k1;let⟨tk,ek⟩:=yu (show Value.isStrOf p.1 _=true from k1);let⟨its,rv,⟨o,ho,hc,n,hd⟩,_⟩:=I.tuple (ay sm h2);let⟨cs,q3⟩:=pW (h:=s.heap) rv;have r1:Reads s.heap (.str p.1 tk) (.str p.1) []:=.str p.1 tk;have r2:Reads s.heap (.ref b) (.tuple (p.2.map PyData.int)) cs:=.tuple ho hc hd (by simpa using q3);rw[<- z2,<- k2] at r2;rw[<- ek] at r1;exact⟨_,_,.cons r1 q1,.cons r2 q2⟩
mutual
theorem iY{pins:List (Addr×Obj)}{σ:L2.St}{H HF:Hp}{s:Shared}(I:Inv X pins σ H s)(sm:aP HF H):∀ {d:D}{v:V}{u:Value},Rep X.K HF d v->RelV v u->∃as,Reads s.heap u d as
 | .none,_,_,h,r=>by simp?[Rep] at h;subst h;cases r;exact⟨_,.none⟩
 | .bool b,_,_,h,r=>by simp?[Rep] at h;subst h;cases r;exact⟨_,.bool b⟩
 | .int i,_,_,h,r=>by simp?[Rep] at h;subst h;let⟨t,rfl⟩:=r;exact⟨_,.int i t⟩
 | .str i,_,_,h,r=>by simp?[Rep] at h;subst h;let⟨t,rfl⟩:=r;exact⟨_,.str i t⟩
 | .tuple ds,_,_,h,r=>by
  simp?[Rep] at h;let⟨a,vs,rfl,hs,rr⟩:=h;cases r;let⟨its,rv,⟨o,ho,hc,n,hd⟩,_⟩:=I.tuple (ay sm hs);let⟨as,q⟩:=nz I sm rr rv;exact⟨as,.tuple ho hc hd (by simpa using q)⟩
 | .list ds,_,_,h,r=>by
  simp?[Rep] at h;let⟨a,vs,rfl,hs,rr⟩:=h;cases r;let⟨its,rv,pl,_⟩:=I.list (sm.seq hs);let⟨o,ho,hc,n,hd⟩:=pl.isList;let⟨as,q⟩:=nz I sm rr rv;exact⟨_,.list ho hc hd (by simpa using q)⟩
 | .dict l,_,_,h,r=>by
  simp?[Rep] at h;let⟨a,ks,us,rfl,rfl,e,dr⟩:=h;cases r;let⟨_,_,vs,kv,o,es,ep,ho,hx,hd,_,hp,_⟩:=(show c7 X.prog X.w H s.heap a (.dK us) from I.hok a _ (sm _ _ e))
  let⟨as,bs,q1,q2⟩:=rJ I sm dr kv hp;exact⟨_,.dict ho hx.1 hd q1 q2⟩
theorem nz{pins:List (Addr×Obj)}{σ:L2.St}{H HF:Hp}{s:Shared}(I:Inv X pins σ H s)(sm:aP HF H):∀ {ds:List D}{vs:List V}{us:List Value},au X.K HF ds vs->aH vs us->∃as,ReadsAll s.heap us ds as
 | [],_,_,h,r=>by rw[h.nil_inv] at r;cases r;exact⟨_,.nil⟩
 | d::ds,_,_,h,r=>by
  let⟨v,vr,rfl,a,b⟩:=h.cons_inv;cases r with
  | cons r rr =>
   let⟨as,q⟩:=iY I sm a r;let⟨bs,p⟩:=nz I sm b rr;exact⟨_,.cons q p⟩
end
def OR(K:W.Frag)(g:D->D->Option Bool):R2:=λv1 v2 H Q=>∃HF x y k,aP HF H/\Rep K HF x v1/\Rep K HF y v2/\g x y=some k/\Q (.bl k) H
def jy{K:W.Frag}:dF K (OR K g) (λx y=>(g x y).map PyData.bool):=by
 intro HF H x y v1 v2 d Q sm r1 r2 hg q;have hg:(g x y).map PyData.bool=some d:=hg;cases e:g x y with
 | none=>rw[e] at hg;cases hg
 | some k=>rw[e] at hg;cases hg;exact⟨HF,x,y,k,sm,r1,r2,e,q _ H HF (.refl sm) (by simp[Rep])⟩
def KH(x y:D):Option Bool:=if SeqAt.shaped x=true/\SeqAt.shaped y=true then some (PyData.eqv x y) else none
def NL(x y:D):Option Bool:=if SeqAt.shaped x=true/\SeqAt.shaped y=true then some (!PyData.eqv x y) else none
def Gf(hu:X.A.units+64 < cLine):fT X (compareOp .Eq) (OR X.K KH):=by
 intro pins s σ H v1 v2 u1 u2 Q I rx ry h;let⟨HF,x,y,k,sm,r1,r2,hg,q⟩:=h;unfold KH at hg;split at hg<;>cases hg;rename_i hh;let⟨as,ra⟩:=iY I sm r1 rx;let⟨bs,rb⟩:=iY I sm r2 ry;exact eq_dataH ra rb hh.1 hh.2 hu ⟨.bl _,H,I,rfl,q⟩
def G9(hu:X.A.units+64 < cLine):fT X (compareOp .NotEq) (OR X.K NL):=by
 intro pins s σ H v1 v2 u1 u2 Q I rx ry h;let⟨HF,x,y,k,sm,r1,r2,hg,q⟩:=h;unfold NL at hg;split at hg<;>cases hg;rename_i hh;let⟨as,ra⟩:=iY I sm r1 rx;let⟨bs,rb⟩:=iY I sm r2 ry;exact ne_dataH ra rb hh.1 hh.2 hu ⟨.bl _,H,I,rfl,q⟩
def items:D->Option (List D)|.tuple ds=>some ds|.list ds=>some ds|_=>none
end
def Pa(K:W.Frag)(n:Nat)(m:List D->Option D):Sp:=λvs H Q _=>∃HF ds d,aP HF H/\fH K HF/\au K HF ds vs/\ds.length=n/\m ds=some d/\∀v H' HF',bF HF H HF' H'->Rep K HF' d v->Q v H'
structure GY(P:Program)(w:World)(K:W.Frag)(mg:Str->Option Value)(base:Heap)(k:Nat)(x:Str)(n:Nat)(m:List D->Option D):Prop where
 ex:∃ (f:Addr) (fd:FuncData) (ps:List Str),pq P w K mg base NM k f fd ps (Pa K n m)/\mg x=some (.ref f)/\W.keepIn K (.ref f)=true/\Binds K fd ps []
def GY.mono{K:W.Frag}(F:GY P w K mg base k x n m)(h:k<=j):GY P w K mg base j x n m:=by
 let⟨f,fd,ps,a,b,c,d⟩:=F.ex;exact⟨f,fd,ps,a.mono h,b,c,d⟩
def ah(n:Nat)(m:List D->Option D)(fs:Env->Option (List D)):Env->Option D:=λρ=>(fs ρ).bind λds=>if ds.length=n then m ds else none
def JR(F:GY X.prog X.w X.K X.mg X.base k x n m)(hr:eF k X.A)(hg:Gl X x)(ha:DA X (e::es) fs)(hdb:(x == ("__debug__":Str))=false:=by decide)
  (he:starEach (e::es) X.env=(false,eval e X.env)::starEach es X.env:=by rfl) (hpl:(backTo pos (starEach es X.env)).any (·.1)=false:=by rfl):DE X (.Call (.Name x p) (e::es) [] pos) (ah n m fs):=by
 let⟨f,fd,ps,ok,hm,hk,hb⟩:=F.ex;refine aN (Iu (E:=E0) ok hr hg hm hk hb .nil OJ ha hdb he hpl) λσ H Q ⟨HF,ρ,d,sm,eo,hf,q⟩=>?_;let⟨ds,hx,hf⟩:=bs hf;split at hf
 ·rename_i hl;exact⟨HF,ρ,ds,sm,eo,hx,λvs H1 HF1 g1 r1=>⟨HF1,ds,d,g1.fh,eo.tb.mono g1.ff,by rw[qF];exact r1,hl,hf,λv H' HF' g r=>q v H' HF' (g1.trans g) r⟩⟩
 ·cases hf
def Em(K:W.Frag)(r:List V->Hp->VK->Prop)(g:List D->Option D):Prop:=∀HF H ds vs d Q,aP HF H->au K HF ds vs->g ds=some d->(∀v H' HF',bF HF H HF' H'->Rep K HF' d v->Q v H')->r vs H Q
def aS(g:List D->Option D)(fs:Env->Option (List D)):Env->Option D:=λρ=>(fs ρ).bind g
def Oq{X:Cx}{fs:Env->Option (List D)}(hs:Em X.K r g):∀σ H Q,tD X.K (aS g fs) σ H Q->Px r (PN X.K fs) σ H Q:=λσ H Q ⟨HF,ρ,d,sm,eo,hf,q⟩=>by
 let⟨ds,hx,hf⟩:=bs hf;exact⟨HF,ρ,ds,sm,eo,hx,λvs H1 HF1 g1 r1=>hs HF1 H1 ds vs d Q g1.fh r1 hf λv H' HF' g2 r2=>q v H' HF' (g1.trans g2) r2⟩
def KN(K:W.Frag)(r:List V->Hp->VK->Prop)(g:List D->Option (List D)):Prop:=∀HF H ds vs es Q,aP HF H->au K HF ds vs->g ds=some es ->
 (∀a us H' HF',bF HF H HF' H'->H a=none->HF' a=none->H' a=some (.lst us)->au K HF' es us->Q (.ref a) H')->r vs H Q
def qy(g:List D->Option (List D))(fs:Env->Option (List D)):Env->Option (List D):=λρ=>(fs ρ).bind g
def OX{X:Cx}{fs:Env->Option (List D)}(hs:KN X.K r g):∀σ H Q,tF X.K (qy g fs) σ H Q->Px r (PN X.K fs) σ H Q:=λσ H Q ⟨HF,ρ,d,sm,eo,hf,q⟩=>by
 let⟨ds,hx,hf⟩:=bs hf;exact⟨HF,ρ,ds,sm,eo,hx,λvs H1 HF1 g1 r1=>hs HF1 H1 ds vs d Q g1.fh r1 hf λa us H' HF' g2 ha hf' h' r2=>q a us H' HF' (g1.trans g2) (g1.hh.free ha) hf' h' r2⟩
structure mF(X:Cx)(x:Str)(v:Value):Prop where
 gl:Gl X x
 mg:X.mg x=none
 bt:bootBuiltins x=some v
def fM{id:String}(hc:dq X (.builtin id) r)(hs:Em X.K r g)(B:mF X x (.builtin id))(ha:DA X (e::es) fs)(hn:x≠"__name__":=by decide)(hdb:(x == ("__debug__":Str))=false:=by decide)
  (he:starEach (e::es) X.env=(false,eval e X.env)::starEach es X.env:=by rfl) (hpl:(backTo pos (starEach es X.env)).any (·.1)=false:=by rfl):DE X (.Call (.Name x p) (e::es) [] pos) (aS g fs) :=
 aN (mw hc B.gl B.mg B.bt ha hn hdb he hpl) (Oq hs)
def GD{id:String}(hc:dq X (.builtin id) r)(hs:KN X.K r g)(B:mF X x (.builtin id))(ha:DA X (e::es) fs)(hn:x≠"__name__":=by decide)(hdb:(x == ("__debug__":Str))=false:=by decide)
  (he:starEach (e::es) X.env=(false,eval e X.env)::starEach es X.env:=by rfl) (hpl:(backTo pos (starEach es X.env)).any (·.1)=false:=by rfl):DF X (.Call (.Name x p) (e::es) [] pos) (qy g fs) :=
 aN (mw hc B.gl B.mg B.bt ha hn hdb he hpl) (OX hs)
def mR(hc:dq X (.type T) r)(hs:Em X.K r g)(B:mF X x (.type T))(ha:DA X (e::es) fs)(hn:x≠"__name__":=by decide)(hdb:(x == ("__debug__":Str))=false:=by decide)
  (he:starEach (e::es) X.env=(false,eval e X.env)::starEach es X.env:=by rfl) (hpl:(backTo pos (starEach es X.env)).any (·.1)=false:=by rfl):DE X (.Call (.Name x p) (e::es) [] pos) (aS g fs) :=
 aN (sy hc B.gl B.mg B.bt ha hn hdb he hpl) (Oq hs)
def eN:D->Option (List D)|.tuple ds=>some ds|.list ds=>some ds|_=>none
def oneOf:List D->Option D|[d]=>some d|_=>none
def fO(h:oneOf ds=some d):ds=[d]:=by
 cases ds with
 | nil=>cases h
 | cons x r=>cases r with
  | nil=>cases h;rfl
  | cons _ _=>cases h
def ll(h:eN d=some ds):d=.tuple ds\/d=.list ds:=by
 cases d<;>cases h
 ·exact .inr rfl
 ·exact .inl rfl
def dI:List D->Option (List D):=λds=>(oneOf ds).bind eN
def js{ds es:List D}(h:dI ds=some es):ds=[.tuple es]\/ds=[.list es]:=by
 let⟨d,h1,h2⟩:=bs h;rw[fO h1];rcases ll h2 with rfl|rfl
 ·exact .inl rfl
 ·exact .inr rfl
def aX:List D->Option D:=λds=>(dI ds).map λes=>.int es.length
def af{α β:Type}{x:Option α}{f:α->β}{b:β}(h:x.map f=some b):∃a,x=some a/\f a=b:=by
 cases x with
 | none=>cases h
 | some a=>exact⟨a,rfl,xD h⟩
def Kb{K:W.Frag}:Em K (λxs H Q=>∃p ys,xs=[.ref p]/\(gH K H p ys\/eD K H p ys)/\Q (.int ys.length) H) aX:=by
 intro HF H ds vs d Q sm r hg q;let⟨es,h1,rfl⟩:=af hg;rcases js h1 with rfl|rfl
 all_goals
  let⟨v,r',rfl,a,b⟩:=r.cons_inv;rw[b.nil_inv];simp?[Rep] at a;let⟨p,us,rfl,h,rr⟩:=a
 ·exact⟨p,us,rfl,.inr (ay sm h),q _ H HF (.refl sm) (by simp[Rep,rr.length])⟩
 ·exact⟨p,us,rfl,.inl (sm.seq h),q _ H HF (.refl sm) (by simp[Rep,rr.length])⟩
def MC(B:mF X "len" (.builtin "len"))(ha:DA X [e] fs)(he:starEach [e] X.env=(false,eval e X.env)::starEach [] X.env:=by rfl):DE X (.Call (.Name "len" p) [e] [] pos) (aS aX fs) :=
 fM tV Kb B ha (by decide) (by decide) he rfl
def c4{K:W.Frag}(h:HF l=none)(r:au K HF ds vs):Rep K (upd HF l (.tup vs)) (.tuple ds) (.ref l):=by
 simp?[Rep];exact⟨l,vs,rfl,.inl (.inl aG),r.mono (bL h)⟩
def CP{K:W.Frag}:Em K (λxs H Q=>∃p ys,xs=[.ref p]/\((gH K H p ys/\∀l,H l=none->Q (.ref l) (upd H l (.tup ys)))\/(eD K H p ys/\Q (.ref p) H))) (λds=>(dI ds).map PyData.tuple):=by
 intro HF H ds vs d Q sm r hg q;let⟨es,h1,rfl⟩:=af hg;rcases js h1 with rfl|rfl
 all_goals
  let⟨v,r',rfl,a,b⟩:=r.cons_inv;rw[b.nil_inv];have a':=a;simp?[Rep] at a;let⟨p,us,rfl,h,rr⟩:=a
 ·exact⟨p,us,rfl,.inr ⟨ay sm h,q _ H HF (.refl sm) a'⟩⟩
 ·exact⟨p,us,rfl,.inl ⟨sm.seq h,λl hl=>q _ _ _ (.new sm hl) (c4 (sm.free hl) rr)⟩⟩
def EX(B:mF X "tuple" (.type "tuple"))(ha:DA X [e] fs)(he:starEach [e] X.env=(false,eval e X.env)::starEach [] X.env:=by rfl):DE X (.Call (.Name "tuple" p) [e] [] pos) (aS (λds=>(dI ds).map PyData.tuple) fs) :=
 mR rh CP B ha (by decide) (by decide) he rfl
def gz:D->String|.none=>"NoneType" | .bool _=>"bool" | .int _=>"int" | .str _=>"str" | .tuple _=>"tuple" | .list _=>"list" | .dict _=>"dict"
def tO(a b:String):Option Bool:=if ((Value.type a) == (Value.type b))=true then some true else if W.kitMeta b=true then (fastBuiltinMro a).map (·.contains (Value.type b)) else none
def J8:∀a∈["NoneType","bool","int","str","tuple","list"],tO a "int"=some (a == "int"||a == "bool"):=by decide +kernel
def G7:∀a∈["NoneType","bool","int","str","tuple","list"],tO a "bool"=some (a == "bool"):=by decide +kernel
def kit_tuple:∀a∈["NoneType","bool","int","str","tuple","list"],tO a "tuple"=some (a == "tuple"):=by decide +kernel
def E4{A:Around}{E:Value->Shared->Prop}(I:Inv X pins σ H s)(sm:aP HF H)(r:Rep X.K HF d v)(rv:RelV v u)
  (e:tO (gz d) T=some k) (h:∀tk,Q (.bool k) { s with toks:=tk }):wpAny (model X.prog X.w) A (call (.builtin "isinstance") [u,.type T]) Q E s:=by
 have e':W.kitOne X.K (.type (gz d)) (.type T)=some k:=e;cases d<;>simp?[Rep] at r
 ·subst r;cases rv;exact W.kia_one W.kitx_none I.kIn True.intro e' (λz=>nomatch z) h
 ·subst r;cases rv;exact W.kia_one W.kitx_bool I.kIn True.intro e' (λz=>nomatch z) h
 ·subst r;let⟨t,rfl⟩:=rv;exact W.kia_one W.kitx_int I.kIn True.intro e' (λz=>nomatch z) h
 ·subst r;let⟨t,rfl⟩:=rv;exact W.kia_one W.kitx_str I.kIn True.intro e' (λz=>nomatch z) h
 ·let⟨a,vs,rfl,hs,rr⟩:=r;cases rv;let⟨its,rv,pl,_⟩:=I.list (sm.seq hs);let⟨o,ho,hc,n,hd⟩:=pl.isList;exact W.kia_one W.kitx_list I.kIn ⟨o,ho,hc⟩ e' (λz=>nomatch z) h
 ·let⟨a,vs,rfl,hs,rr⟩:=r;cases rv;let⟨its,rv,⟨o,ho,hc,n,hd⟩,_⟩:=I.tuple (ay sm hs);exact W.kia_one W.kitx_tuple I.kIn ⟨o,ho,hc⟩ e' (λz=>nomatch z) h
 ·let⟨a,ks,us,rfl,rfl,e0,_⟩:=r;cases rv;let⟨_,_,vs,kv,o,es,ep,ho,hx,hd,_⟩:=(show c7 X.prog X.w H s.heap a (.dK us) from I.hok a _ (sm _ _ e0))
  exact W.kia_one W.kitx_dict I.kIn ⟨o,ho,hx.1⟩ e' (λz=>nomatch z) h
def Jp(T:String)(f:Env->Option D):Env->Option D:=λρ=>(f ρ).bind λd=>(tO (gz d) T).map PyData.bool
def NZ(B:mF X "isinstance" (.builtin "isinstance"))(C:mF X xT (.type T))(h:DE X e f)(hn:xT≠"__name__":=by decide)(hd:(xT == ("__debug__":Str))=false:=by decide)
  (he:starEach [e,.Name xT pT] X.env=(false,eval e X.env)::starEach [.Name xT pT] X.env:=by rfl):DE X (.Call (.Name "isinstance" p) [e,.Name xT pT] [] pos) (Jp T f):=by
 have hc:dq X (.builtin "isinstance") (λxs H Q=>∃HF d v k,xs=[v,.ty T]/\aP HF H/\Rep X.K HF d v/\tO (gz d) T=some k/\Q (.bl k) H):=by
  intro pins s σ H xs us Q I r h;let⟨HF,d,v,k,rfl,sm,rp,hk,q⟩:=h;cases r with
  | cons ra rr =>
   cases rr with
   | cons rb rn =>
    cases rn;cases rb;exact E4 I sm rp ra hk λtk=>⟨.bl k,H,I.tok _,rfl,q⟩
 refine aN (mw hc B.gl B.mg B.bt (cA h (cA (IU (v:=.ty T) C.gl C.mg C.bt rfl hn hd) eH) he) (by decide) (by decide) he rfl) λσ H Q ⟨HF,ρ,d,sm,eo,hf,q⟩=>?_;let⟨x,hx,hf⟩:=bs hf;let⟨k,hk,rfl⟩:=af hf;exact⟨HF,ρ,x,sm,eo,hx,λv1 H1 HF1 g1 r1=>⟨HF1,x,v1,k,rfl,g1.fh,r1,hk,q _ H1 HF1 g1 (by simp[Rep])⟩⟩
def J0:D->D->Option D
 | .tuple xs,.tuple ys=>(small (xs++ys)).map PyData.tuple
 | _,_=>none
def A6(K:W.Frag):R2:=λx y H Q=>∃a b xs ys,x=.ref a/\y=.ref b/\eD K H a xs/\eD K H b ys/\xs.length+ys.length<=sizeLine /\
 (xs=[]->Q (.ref b) H)/\(ys=[]->Q (.ref a) H)/\(∀p,H p=none->Q (.ref p) (upd H p (.tup (xs++ys))))
def C2:fT X (binaryOp .Add) (A6 X.K):=by
 intro pins s σ H x y v u Q I rx ry h;let⟨a,b,xs,ys,rfl,rfl,ha,hb,hz,q0,q1,q2⟩:=h;by_cases hx:xs=[]
 ·cases rx;cases ry;let⟨its,r1,p1,_⟩:=I.tuple ha;let⟨its2,r2,p2,_⟩:=I.tuple hb;let⟨⟨cls,dd,data,sl⟩,ho,hc,n,hd⟩:=id p1;let⟨⟨cls2,dd2,data2,sl2⟩,ho2,hc2,n2,hd2⟩:=id p2;simp only at hc hd hc2 hd2;subst hc hd hc2 hd2;have e:its=[]:=(L2.aH.nil_iff r1).mpr hx;exact wF ⟨_,ho,rfl⟩ ⟨_,ho2,rfl⟩ noFill_tuple_add seq_tuple_add vI vE (vC _ _)
   (tuple_addW0 a b its.toArray its2.toArray n n2 dd dd2 sl sl2 (by simp[e])) ⟨ho,ho2,⟨.ref b,H,I,rfl,q0 hx⟩⟩
 ·exact IE pins s σ H _ _ v u Q I rx ry ⟨a,b,xs,ys,rfl,rfl,ha,hb,hx,hz,q1,λ_ p hp=>q2 p hp⟩
def JX{K:W.Frag}:dF K (A6 K) J0:=by
 intro HF H x y v1 v2 d Q sm r1 r2 hg q;cases x<;>cases y<;>simp?[J0] at hg<;>try cases hg
 rename_i xs ys;let⟨es,h1,rfl⟩:=af hg;let⟨rfl,hz⟩:=dS h1;have r1':=r1;have r2':=r2;simp?[Rep] at r1 r2;let⟨a,vs,rfl,ha,ra⟩:=r1;let⟨b,us,rfl,hb,rb⟩:=r2;refine⟨a,b,vs,us,rfl,rfl,ay sm ha,ay sm hb,by rw[ra.length,rb.length,<- zN];exact hz,λe=>?_,λe=>?_,λp hp=>q _ _ _ (.new sm hp) (c4 (sm.free hp) (ra.append rb))⟩
 ·have:xs=[]:=by have:=ra.length;rw[e] at this;exact List.length_eq_zero_iff.mp this.symm
  subst this;exact q _ H HF (.refl sm) r2'
 ·have:ys=[]:=by have:=rb.length;rw[e] at this;exact List.length_eq_zero_iff.mp this.symm
  subst this;rw[qF] at q;exact q _ H HF (.refl sm) r1'
structure rE(K:W.Frag)(J:It)(HF:Hp)(ds:List D):Prop where
 go:∀i d H₁ HF₁,ds[i]?=some d->aP HF HF₁->aP HF₁ H₁->J.go i H₁/\∀x H₂,J.yld i H₁ x H₂->∃HF₂,bF HF₁ H₁ HF₂ H₂/\Rep K HF₂ d x
 stop:∀H₁ HF₁,aP HF HF₁->aP HF₁ H₁->J.stop ds.length H₁
def QW(K:W.Frag)(f:Env->Option (List D)):TI:=λσ H R=>∃HF ρ ds,aP HF H/\cB K HF ρ σ/\f ρ=some ds/\∀J H' HF',bF HF H HF' H'->rE K J HF' ds->R J H'
def DI(X:Cx)(tg iter:Expr)(f:Env->Option (List D)):Prop:=PI X tg iter (QW X.K f)
def Cq{K:W.Frag}(h:gH K HF a vs)(r:au K HF ds vs):rE K (PM K a) HF ds where
 go:=λi d H₁ HF₁ e s1 s2=>by
  let⟨v,hv,rv⟩:=r.getD e;have q:=s2.seq (s1.seq h);refine⟨⟨vs,v,q,hv⟩,λx H₂ ⟨e2,hy⟩=>⟨HF₁,by rw[e2];exact .refl s2,?_⟩⟩;have:=hy vs q;rw[hv] at this;cases this;exact rv.mono s1
 stop:=λH₁ HF₁ s1 s2=>⟨vs,s2.seq (s1.seq h),by rw[r.length];exact yM _⟩
def Fy{K:W.Frag}(h:eD K HF a vs)(r:au K HF ds vs):rE K (Qk K a) HF ds where
 go:=λi d H₁ HF₁ e s1 s2=>by
  let⟨v,hv,rv⟩:=r.getD e;have q:=ay s2 (ay s1 h);refine⟨⟨vs,v,q,hv⟩,λx H₂ ⟨e2,hy⟩=>⟨HF₁,by rw[e2];exact .refl s2,?_⟩⟩;have:=hy vs q;rw[hv] at this;cases this;exact rv.mono s1
 stop:=λH₁ HF₁ s1 s2=>⟨vs,ay s2 (ay s1 h),by rw[r.length];exact yM _⟩
def pP{K:W.Frag}{lo:Int}:rE K (OI lo n) HF ((List.range n).map λi=>PyData.int (lo+(i:Nat))) where
 go:=λi d H₁ HF₁ e s1 s2=>by
  rw[zO] at e;let⟨j,hj,rfl⟩:=af e;let⟨hi,hj'⟩:=List.getElem?_eq_some_iff.mp hj;have hi':i < n:=by simpa using hi
  have:j=i:=by rw[<- hj'];simp
  subst this;exact⟨hi',λx H₂ ⟨e2,hx⟩=>⟨HF₁,by rw[e2];exact .refl s2,by simp[Rep,hx]⟩⟩
 stop:=λH₁ HF₁ s1 s2=>by
  show n<=_;simp
section
variable {X:Cx}{tg l e:Expr}{f:Env->Option D}{fs:Env->Option (List D)}{pos p:Pos}
def pF(h:PI X tg l t)(i:∀σ H R,t' σ H R->t σ H R):PI X tg l t':=λpins s σ H R I q=>h pins s σ H R I (i σ H R q)
def MV(hl:PE X l tl):PI X tg l (λσ H R=>tl σ H λx H1=>∃a,x=.ref a/\((∃xs,gH X.K H1 a xs/\R (PM X.K a) H1)\/∃xs,eD X.K H1 a xs/\R (Qk X.K a) H1)):=by
 intro pins s σ H R I h;refine bR (hl pins s σ H _ I h) λv s1 ⟨x,H1,I1,r1,q1⟩=>?_;let⟨a,e,q⟩:=q1;subst e;cases r1;rcases q with ⟨xs,hq,q⟩|⟨xs,hq,q⟩
 ·let⟨its,rv,pl,hz⟩:=I1.list hq;refine qK pl.isList ⟨s1.heap.objs.size,[s1.heap.objs.size],_,_,H1,rfl,I1.kept (t':=s1.toks) λb o e=>zU _ e,C8 a _,⟨_,zX _ rfl,rfl,rfl⟩,λb hb=>?_,q⟩;cases List.mem_singleton.mp hb;exact I1.fpOk (yM _) I1.fresh
 ·let⟨its,rv,pl,hz⟩:=I1.tuple hq;refine xR (show s1.heap.IsTuple a its.toArray from pl) ⟨s1.heap.objs.size,[s1.heap.objs.size],_,_,H1,rfl,I1.kept (t':=s1.toks) λb o e=>zU _ e,Ar a _,⟨_,zX _ rfl,rfl,rfl⟩,λb hb=>?_,q⟩;cases List.mem_singleton.mp hb;exact I1.fpOk (yM _) I1.fresh
def aB(f:Env->Option D):Env->Option (List D):=λρ=>(f ρ).bind eN
def G0(h:DE X l f):DI X tg l (aB f):=pF (MV h) λσ H R ⟨HF,ρ,ds,sm,eo,hf,q⟩=>by
 let⟨x,hx,hf⟩:=bs hf;refine⟨HF,ρ,x,sm,eo,hx,λv1 H1 HF1 g1 r1=>?_⟩;rcases ll hf with rfl|rfl
 ·simp?[Rep] at r1;let⟨a,vs,rfl,hs,rr⟩:=r1;exact⟨a,rfl,.inr ⟨vs,ay g1.fh hs,q _ H1 HF1 g1 (Fy hs rr)⟩⟩
 ·simp?[Rep] at r1;let⟨a,vs,rfl,hs,rr⟩:=r1;exact⟨a,rfl,.inl ⟨vs,g1.fh.seq hs,q _ H1 HF1 g1 (Cq hs rr)⟩⟩
def uy(i:Int):Bool:=decide (-(2 ^ 62)<=i)&&decide (i < 2 ^ 62)
def k9:List D->Option (List D)
 | [.int j]=>if uy j then some ((List.range j.toNat).map λi=>PyData.int ((i:Nat):Int)) else none
 | _=>none
def vx(h:k9 ds=some es):∃j,ds=[.int j]/\uy j=true/\es=(List.range j.toNat).map λi=>PyData.int ((i:Nat):Int):=by
 unfold k9 at h;split at h
 ·split at h
  ·cases h;exact⟨_,rfl,‹_›,rfl⟩
  ·cases h
 ·cases h
def bQ(fs:Env->Option (List D)):Env->Option (List D):=λρ=>(fs ρ).bind k9
def Fg(B:mF X "range" (.type "range"))(h:DA X [e] fs)(hs:starEach [e] X.env=[(false,eval e X.env)]:=by rfl):DI X tg (.Call (.Name "range" p) [e] [] pos) (bQ fs) :=
 pF (DH B.gl B.mg h hs) λσ H R ⟨HF,ρ,ds,sm,eo,hf,q⟩=>by
  let⟨x,hx,hf⟩:=bs hf;let⟨j,rfl,hj,rfl⟩:=vx hf;refine⟨HF,ρ,_,sm,eo,hx,λvs H1 HF1 g1 r1=>?_⟩;let⟨v,r,rfl,a,b⟩:=r1.cons_inv;rw[b.nil_inv];simp?[Rep] at a;subst a;unfold uy at hj;rw[zF] at hj;refine⟨j,rfl,yQ hj.1,yQ hj.2,q _ H1 HF1 g1 ?_⟩;have:=pP (K:=X.K) (HF:=HF1) (lo:=0) (n:=j.toNat);simpa using this
def Pz(K:W.Frag)(f:Env->D->Option Env):TG:=λv σ H Q=>∃HF ρ d ρ',aP HF H/\cB K HF ρ σ/\Rep K HF d v/\f ρ d=some ρ'/\∀σ',cB K HF ρ' σ'->cB K HF ρ σ'->Q σ' H
def DG(X:Cx)(tg:Expr)(f:Env->D->Option Env):Prop:=PG X tg (Pz X.K f)
def mQ(h:PG X tg t)(i:∀v σ H Q,t' v σ H Q->t v σ H Q):PG X tg t':=λpins s σ H v u Q I r q=>h pins s σ H v u Q I r (i v σ H Q q)
def isFree(ρ:Env)(i:Nat):Bool:=((ρ[i]?).getD none).isNone
def ir{K:W.Frag}(eo:cB K HF ρ σ)(r:Rep K HF d v):cB K HF (ρ.set i (some d)) (σ.set i (some v)):=by
 refine⟨λj e h=>?_,by rw[yC,yC];exact eo.len,eo.tb⟩;rw[xI] at h ⊢;by_cases hij:i=j
 ·rw[yL hij] at h ⊢;by_cases hl:i < ρ.length
  ·rw[yL hl] at h;cases h;rw[yL (zP hl eo.len)];exact⟨v,rfl,r⟩
  ·rw[yN hl] at h;cases h
 ·rw[yN hij] at h ⊢;exact eo.get j e h
def kg{K:W.Frag}(eo:cB K HF ρ σ)(hf:isFree ρ i=true):cB K HF ρ (σ.set i (some v)):=by
 refine⟨λj e h=>?_,by rw[yC];exact eo.len,eo.tb⟩;have hij:i≠j:=by
  intro z;subst z;unfold isFree at hf;rw[h] at hf;cases hf
 rw[xI,yN hij];exact eo.get j e h
def fG(i:Nat):Env->D->Option Env:=λρ d=>if isFree ρ i=true then some (ρ.set i (some d)) else none
def Jt(i:Nat)(hN:X.N.Nodup)(hi:X.N[i]?=some x)(hx:Loc X.env.scope x)(hf:X.fn x=true\/X.env.scope.names.lookup x=some .local:=by first|exact .inl rfl|exact .inr rfl|assumption):DG X (.Name x pos) (fG i) :=
 mQ (cU hN hi hx hf) λv σ H Q ⟨HF,ρ,d,ρ',sm,eo,r,hf,q⟩=>by
  unfold fG at hf;split at hf
  ·cases hf;exact q _ (ir eo r) (kg eo ‹_›)
  ·cases hf
def hC(i j:Nat):Env->D->Option Env:=λρ d=>match d with
 | .tuple [x,y]=>if isFree ρ i=true/\isFree ρ j=true then some ((ρ.set i (some x)).set j (some y)) else none
 | _=>none
def M7(i j:Nat){px py:Pos}{k:Nat}(hc:X.calm=true)(hN:X.N.Nodup)(hi:X.N[i]?=some x)(hx:Loc X.env.scope x)(hj:X.N[j]?=some y)(hy:Loc X.env.scope y)
  (hf:X.fn x=true\/X.env.scope.names.lookup x=some .local:=by first|exact .inl rfl|exact .inr rfl|assumption) (hf':X.fn y=true\/X.env.scope.names.lookup y=some .local:=by first|exact .inl rfl|exact .inr rfl|assumption) :
  DG X (.Tuple [.Name x px,.Name y py] k pos) (hC i j) :=
 mQ (uv hc (cR (cU hN hi hx hf) (cR (cU hN hj hy hf') oI))) λv σ H Q ⟨HF,ρ,d,ρ',sm,eo,r,hf,q⟩=>by
  unfold hC at hf;split at hf
  ·rename_i x' y';split at hf
   ·rename_i hh;cases hf;simp?[Rep] at r;let⟨a,vs,rfl,hs,rr⟩:=r;let⟨v1,r1,rfl,a1,b1⟩:=rr.cons_inv;let⟨v2,r2,rfl,a2,b2⟩:=b1.cons_inv;rw[b2.nil_inv] at hs;exact⟨a,_,rfl,ay sm hs,rfl,v1,_,rfl,v2,_,rfl,rfl,q _ (ir (ir eo a1) a2) (kg (kg eo hh.1) hh.2)⟩
   ·cases hf
  ·cases hf
def aZ(tgt:Env->D->Option Env)(tt:Env->Option Bool)(te:Env->Option D)(ρ:Env):List D->Option (List D)
 | []=>some []
 | d::ds=>(tgt ρ d).bind λρ'=>(tt ρ').bind λb=>if b=true then (te ρ').bind λx=>(aZ tgt tt te ρ ds).map (x::·) else aZ tgt tt te ρ ds
def OH(X:Cx)(ifs:List Expr)(f:Env->Option Bool):Prop:=NS X ifs (Lw X.K f)
def Jw:OH X [] (λ_=>some true):=λpins s σ H Q I ⟨HF,ρ,b,sm,eo,hf,q⟩=>IL pins s σ H Q I (by cases hf;exact q H HF (.refl sm))
def JL(h:DT X c t):OH X [c] t:=HB h
def jh(t:Nat)(cs:List Nat)(σ:L2.St):L2.St:=List.replicate t none++cs.map λj=>(σ[j]?).getD none
def dm(t:Nat)(cs:List Nat)(ρ:Env):Env:=List.replicate t none++cs.map λj=>(ρ[j]?).getD none
def BK{K:W.Frag}{cs:List Nat}(eo:cB K HF ρ σ):cB K HF (dm t cs ρ) (jh t cs σ):=by
 refine⟨λi d h=>?_,by simp[dm,jh],eo.tb⟩;unfold dm at h;unfold jh;by_cases hi:i < t
 ·rw[yS (by simpa using hi),yX,yL hi] at h;cases h
 ·rw[yT (by simpa using hi),zO,xM] at h;rw[yT (by simpa using hi),zO,xM];let⟨j,hj,h⟩:=af h;rw[hj];cases e:ρ[j]? with
  | none=>rw[e] at h;cases h
  | some o =>
   rw[e] at h;have h:o=some d:=h;subst h;let⟨v,a,b⟩:=eo.get j d e;exact⟨v,by show some ((σ[j]?).getD none)=_;rw[a];rfl,b⟩
def aj(t:Nat)(cs:List Nat)(fi:Env->Option (List D))(tgt:Env->D->Option Env)(tt:Env->Option Bool)(te:Env->Option D):Env->Option (List D):=λρ=>(fi ρ).bind λds=>(aZ tgt tt te (dm t cs ρ) ds).bind small
variable {elt iter:Expr}{ifs:List Expr}{scope:Scope}{N:List Str}{t:Nat}{cs:List Nat}{fi:Env->Option (List D)}{tgt:Env->D->Option Env}{tt:Env->Option Bool}{te:Env->Option D}
def Gw:∀σ H Q,tF X.K (aj t cs fi tgt tt te) σ H Q->Ha (QW X.K fi) (Pz X.K tgt) (Lw X.K tt) (tD X.K te) (jh t cs) σ H Q:=λσ H Q ⟨HF,ρ,out,sm,eo,hf,q⟩=>by
 let⟨ds,hx,hf⟩:=bs hf;let⟨out',ho,hf⟩:=bs hf;let⟨rfl,hz⟩:=dS hf;refine⟨HF,ρ,ds,sm,eo,hx,λJ H1 HF1 g1 it Dn hD=>?_⟩;have eo1:=BK (t:=t) (cs:=cs) (eo.mono g1.ff);have hFD:HF1 Dn=none:=g1.fh.free hD;refine⟨λi m σ' H'=>m+i=ds.length/\∃HF' xs ys rest,bF HF1 H1 HF' H'/\HF' Dn=none/\H' Dn=some (.lst ys)/\au X.K HF' xs ys/\cB X.K HF' (dm t cs ρ) σ'/\aZ tgt tt te (dm t cs ρ) (ds.drop i)=some rest/\xs++rest=out,
  ⟨ds.length,rfl,HF1,[],[],out,.own g1.fh hD,hFD,aG,au.nil,eo1,ho,rfl⟩,?_⟩
 rintro i m σ' H' ⟨hm,HF',xs,ys,rest,G,hFD',hHD,rr,eo',hc,hout⟩;by_cases hi:i < ds.length
 ·refine .inr ?_;have hd:ds.drop i=ds[i]::ds.drop (i+1):=kX hi;have he:ds[i]?=some ds[i]:=List.getElem?_eq_some_iff.mpr ⟨hi,rfl⟩;generalize ds[i]=d at hd he;rw[hd] at hc;unfold aZ at hc;let⟨ρ',h1,hc⟩:=bs hc;let⟨b,h2,hc⟩:=bs hc;let⟨go,yld⟩:=it.go i d H' HF' he G.ff G.fh;refine⟨go,λx H2 y=>?_⟩;let⟨HF2,G2,rx⟩:=yld x H2 y;refine⟨HF2,_,d,ρ',G2.fh,eo'.mono G2.ff,rx,h1,λσ2 eo2 eo2'=>?_⟩;refine⟨HF2,ρ',b,G2.fh,eo2,h2,λH3 HF3 G3=>?_⟩;have nof:∀HF4 H4,bF HF' H' HF4 H4->HF4 Dn=none:=λHF4 H4 G4=>by
   cases e4:HF4 Dn with
   | none=>rfl
   | some o =>
    rcases G4.nw Dn o e4 with z|z
    ·rw[hFD'] at z;cases z
    ·rw[hHD] at z;cases z
  cases b with
  | false =>
   refine tM ⟨m - 1,by lia,by lia,HF3,xs,ys,rest,(G.trans G2).trans G3,nof _ _ (G2.trans G3),(G2.trans G3).hh _ _ hHD,rr.mono (G2.trans G3).ff,eo2'.mono G3.ff,by simpa using hc,hout⟩
  | true =>
   rw[yL rfl] at hc;let⟨z,h3,hc⟩:=bs hc;let⟨rest',h4,rfl⟩:=af hc;refine uk ⟨HF3,ρ',z,G3.fh,eo2.mono G3.ff,h3,λv H4 HF4 G4 rv=>?_⟩;have GG:=(G2.trans G3).trans G4;have n4:=nof _ _ GG;have h4D:=GG.hh _ _ hHD;have hlen:ys.length < sizeLine:=by
    have e1:=rr.length;have e2:out.length=xs.length+(rest'.length+1):=by rw[<- hout];simp
    lia
   refine⟨ys,h4D,hlen,m - 1,by lia,by lia,HF4,xs++[z],ys++[v],rest',?_,n4,aG,(rr.mono GG.ff).append (au.cons rv au.nil),eo2'.mono (G3.ff.trans G4.ff),h4,by simp[<- hout]⟩;have G5:=G.trans GG;refine⟨λb o e=>?_,G5.ff,λb o e=>?_,G5.nw⟩
   ·rw[ax (aF e hD)];exact G5.hh b o e
   ·rw[ax (aF e n4)];exact G5.fh b o e
 ·have hi':i=ds.length:=by lia
  subst hi';rw[List.drop_length] at hc;cases hc;rw[qF] at hout;subst hout;exact .inl ⟨it.stop H' HF' G.ff G.fh,q Dn ys H' HF' (g1.trans G) (g1.hh.free hD) hFD' hHD rr⟩
def JY(hc:X.calm=true)(S:ip X scope N (jh t cs))(hi:DI X tg iter fi)
  (hY:∀fp s H,DG (aU X scope N fp s H) tg tgt/\OH (aU X scope N fp s H) ifs tt/\DE (aU X scope N fp s H) elt te)
  (hs:∀x,foldedSetIterable iter X.env x=pure x:=by intro _;rfl):DF X (.ListComp elt [⟨tg,iter,ifs,0⟩] scope pos) (aj t cs fi tgt tt te):=aN (IZ (g:=Pz X.K tgt) (tt:=Lw X.K tt) (te:=tD X.K te) hc S hi hY hs) Gw
end
inductive Slot where
 | non|val (d:D)|own (ds:List D)|dic (ks:List (Str×List Int))|tab (ks:List (List Int))
abbrev ao:=List Slot
def Slot.all:Slot->Option D|.non=>none|.val d=>some d|.own ds=>some (.list ds)|.dic ks=>some (dD ks)|.tab _=>none
def Slot.frz:Slot->Option D|.val d=>some d|_=>none
def Slot.thaw:Slot->Slot|.own ds=>.val (.list ds)|.dic ks=>.val (dD ks)|s=>s
def aR(ρ:ao):Env:=ρ.map Slot.all
def ba(ρ:ao):Env:=ρ.map Slot.frz
def hand(fz:List Nat):Nat->ao->ao
 | _,[]=>[]
 | k,s::r=>(if fz.contains k=true then s.thaw else s)::hand fz (k+1) r
def gS(fz:List Nat):∀ (ρ:ao) (k i:Nat),(hand fz k ρ)[i]?=(ρ[i]?).map λs=>if fz.contains (k+i)=true then s.thaw else s
 | [],k,i=>by simp[hand]
 | s::r,k,0=>by simp[hand]
 | s::r,k,i+1=>by
  simp?[hand,yY];rw[gS fz r (k+1) i,Nat.add_assoc,Nat.add_comm 1 i]
def xu(fz:List Nat):∀ (ρ:ao) (k:Nat),(hand fz k ρ).length=ρ.length
 | [],k=>rfl
 | s::r,k=>by simp[hand,xu fz r (k+1)]
def DR(K:W.Frag)(HF:Hp)(xs:List (List dG×Addr×Value)):Prop:=∀x∈xs,∃ns:List Int,x.1=ns.map Sum.inl/\eD K HF x.2.1 (ns.map V.int)
def DR.mono{K:W.Frag}{xs:List (List dG×Addr×Value)}(h:DR K HF xs)(s:aP HF HF'):DR K HF' xs:=λx hx=>let ⟨ns,a,b⟩:=h x hx;⟨ns,a,ay s b⟩
structure dO(K:W.Frag)(HF₀ H₀ HF H:Hp)(ρ:ao)(σ:L2.St):Prop where
 gr:bF HF₀ H₀ HF H
 val:∀ (i:Nat) (d:D),ρ[i]?=some (.val d)->∃v,σ[i]?=some (some v)/\Rep K HF d v
 own:∀ (i:Nat) (ds:List D),ρ[i]?=some (.own ds)->∃a vs,σ[i]?=some (some (.ref a))/\H a=some (.lst vs)/\HF a=none/\H₀ a=none/\au K HF ds vs
 inj:∀ (i j:Nat) (ds es:List D) (a:Addr),ρ[i]?=some (.own ds)->ρ[j]?=some (.own es)->σ[i]?=some (some (.ref a))->σ[j]?=some (some (.ref a))->i=j
 len:ρ.length<=σ.length
 tb:fH K HF
 dic:∀ (i:Nat) (ks:List (Str×List Int)),ρ[i]?=some (.dic ks)->∃a kvs,σ[i]?=some (some (.ref a))/\H a=some (.dK kvs)/\HF a=none/\H₀ a=none/\fE K HF ks kvs
 one:∀ (i j:Nat) (ks ls:List (Str×List Int)),ρ[i]?=some (.dic ks)->ρ[j]?=some (.dic ls)->i=j
 tab:∀ (i:Nat) (ks:List (List Int)),ρ[i]?=some (.tab ks)->∃a kvs,σ[i]?=some (some (.ref a))/\H a=some (.dT kvs)/\HF a=none/\H₀ a=none/\kvs.map (·.1)=ks.map (·.map Sum.inl)/\DR K HF kvs
 oneT:∀ (i j:Nat) (ks ls:List (List Int)),ρ[i]?=some (.tab ks)->ρ[j]?=some (.tab ls)->i=j
section
variable {K:W.Frag}
def dO.all(S:dO K HF₀ H₀ HF H ρ σ):cB K H (aR ρ) σ:=by
 refine⟨λi d h=>?_,by simpa [aR] using S.len,S.tb.mono S.gr.fh⟩;unfold aR at h;rw[zO] at h;let⟨s,hs,h⟩:=af h;cases s with
 | non=>cases h
 | val e=>cases h;let⟨v,a,b⟩:=S.val i _ hs;exact⟨v,a,b.mono S.gr.fh⟩
 | own ds =>
  cases h;let⟨a,vs,e1,e2,e3,_,e4⟩:=S.own i ds hs;exact⟨.ref a,e1,by simp?[Rep];exact⟨a,vs,rfl,gH.of e2,e4.mono S.gr.fh⟩⟩
 | dic ks =>
  cases h;let⟨a,us,e1,e2,e3,_,e4⟩:=S.dic i ks hs;exact⟨.ref a,e1,by simp?[Rep];exact⟨a,ks,us,rfl,rfl,e2,e4.mono S.gr.fh⟩⟩
 | tab ks=>cases h
def dO.frz(S:dO K HF₀ H₀ HF H ρ σ):cB K HF (ba ρ) σ:=by
 refine⟨λi d h=>?_,by simpa [ba] using S.len,S.tb⟩;unfold ba at h;rw[zO] at h;let⟨s,hs,h⟩:=af h;cases s with
 | non=>cases h
 | val e=>cases h;exact S.val i _ hs
 | own ds=>cases h
 | dic ks=>cases h
 | tab ks=>cases h
def bF.stay(g:bF HF H HF' H')(e3:HF a=none)(e2:H a=some u):HF' a=none:=by
 cases e:HF' a with
 | none=>rfl
 | some o =>
  rcases g.nw a o e with z|z
  ·rw[e3] at z;cases z
  ·rw[e2] at z;cases z
def dO.grow(S:dO K HF₀ H₀ HF H ρ σ)(g:bF HF H HF' H'):dO K HF₀ H₀ HF' H' ρ σ where
 gr:=S.gr.trans g
 val:=λi d h=>let ⟨v,a,b⟩:=S.val i d h;⟨v,a,b.mono g.ff⟩
 own:=λi ds h=>by
  let⟨a,vs,e1,e2,e3,e5,e4⟩:=S.own i ds h;exact⟨a,vs,e1,g.hh _ _ e2,g.stay e3 e2,e5,e4.mono g.ff⟩
 inj:=S.inj
 len:=S.len
 tb:=S.tb.mono g.ff
 dic:=λi ks h=>by
  let⟨a,kvs,e1,e2,e3,e5,e4⟩:=S.dic i ks h;exact⟨a,kvs,e1,g.hh _ _ e2,g.stay e3 e2,e5,e4.mono g.ff⟩
 one:=S.one
 tab:=λi ks h=>by
  let⟨a,kvs,e1,e2,e3,e5,e4⟩:=S.tab i ks h;exact⟨a,kvs,e1,g.hh _ _ e2,g.stay e3 e2,e5,e4.1,e4.2.mono g.ff⟩
 oneT:=S.oneT
def dO.step(S:dO K HF₀ H₀ HF H ρ σ)(g:aP H H'):dO K HF₀ H₀ HF H' ρ σ:=S.grow ⟨g,.refl _,S.gr.fh.trans g,λ_ _ e=>.inl e⟩
def rG:Slot->Bool|.own _=>true|.dic _=>true|_=>false
def dO.free{i:Nat}{t:Slot}{a:Addr}(S:dO K HF₀ H₀ HF H ρ σ)(h:ρ[i]?=some t)(ho:rG t=true)(ha:σ[i]?=some (some (V.ref a))):HF a=none/\H₀ a=none:=by
 cases t with
 | own ds =>
  let⟨a',vs,e1,e2,e3,e5,_⟩:=S.own i ds h;rw[ha] at e1;cases e1;exact⟨e3,e5⟩
 | dic ks =>
  let⟨a',vs,e1,e2,e3,e5,_⟩:=S.dic i ks h;rw[ha] at e1;cases e1;exact⟨e3,e5⟩
 | _=>cases ho
def dO.apart{i j:Nat}{t t':Slot}{a:Addr}(S:dO K HF₀ H₀ HF H ρ σ)(h:ρ[i]?=some t)(ho:rG t=true)(h':ρ[j]?=some t')(ho':rG t'=true)(ha:σ[i]?=some (some (V.ref a)))(hb:σ[j]?=some (some (V.ref a))):i=j:=by
 cases t with
 | own ds =>
  cases t' with
  | own es=>exact S.inj i j ds es a h h' ha hb
  | dic ls =>
   let⟨_,_,e1,e2,_⟩:=S.own i ds h;let⟨_,_,f1,f2,_⟩:=S.dic j ls h';rw[ha] at e1;rw[hb] at f1;cases e1;cases f1;rw[e2] at f2;cases f2
  | _=>cases ho'
 | dic ks =>
  cases t' with
  | own es =>
   let⟨_,_,e1,e2,_⟩:=S.dic i ks h;let⟨_,_,f1,f2,_⟩:=S.own j es h';rw[ha] at e1;rw[hb] at f1;cases e1;cases f1;rw[e2] at f2;cases f2
  | dic ls=>exact S.one i j ks ls h h'
  | _=>cases ho'
 | _=>cases ho
def gJ{ρ:ao}{fz:List Nat}{i:Nat}{t:Slot}(h:(Dl.hand fz 0 ρ)[i]?=some t)(ho:rG t=true):ρ[i]?=some t/\¬ fz.contains i=true:=by
 rw[gS] at h;let⟨s,hs,h⟩:=af h;rw[jD] at h;split at h
 ·cases s<;>(rw[<- h] at ho;cases ho)
 ·rename_i hc;rw[<- h];exact⟨hs,hc⟩
def pe{ρ:ao}{fz:List Nat}{i:Nat}{ks:List (List Int)}(h:(Dl.hand fz 0 ρ)[i]?=some (Slot.tab ks)):ρ[i]?=some (Slot.tab ks):=by
 rw[gS] at h;let⟨s,hs,h⟩:=af h;cases s<;>(split at h<;>cases h)<;>exact hs
def dO.hand(S:dO K HF₀ H₀ HF H ρ σ)(fz:List Nat):∃HF1,aP HF HF1/\dO K HF₀ H₀ HF1 H (hand fz 0 ρ) σ:=by
 let C:Nat->Prop:=λi=>fz.contains i=true;let P:Addr->Prop:=λa=>∃i t,C i/\ρ[i]?=some t/\rG t=true/\σ[i]?=some (some (.ref a));have cl:=Classical.propDecidable;let HF1:Hp:=λa=>if P a then H a else HF a
 have hP:∀a,P a->HF a=none/\H₀ a=none:=λa ⟨i,t,_,h1,h2,h3⟩=>S.free h1 h2 h3;have s1:aP HF HF1:=λb o e=>by
  show (if P b then H b else HF b)=some o;by_cases h:P b
  ·rw[(hP b h).1] at e;cases e
  ·rw[yN h];exact e
 have s2:aP HF1 H:=λb o e=>by
  have e:(if P b then H b else HF b)=some o:=e;by_cases h:P b
  ·rw[yL h] at e;exact e
  ·rw[yN h] at e;exact S.gr.fh b o e
 have kept:∀ {i:Nat}{t:Slot}{a:Addr},ρ[i]?=some t->rG t=true->¬ C i->σ[i]?=some (some (.ref a))->HF1 a=none:=λ{i t a} h1 h2 hc h3=>by
  show (if P a then H a else HF a)=none;rw[yN ?_]
  ·exact (S.free h1 h2 h3).1
  ·rintro⟨j,t',hj,g1,g2,g3⟩;have:=S.apart h1 h2 g1 g2 h3 g3;subst this;exact hc hj
 refine⟨HF1,s1,⟨S.gr.hh,S.gr.ff.trans s1,s2,λb o e=>?_⟩,λi d h=>?_,λi ds h=>?_,λi j ds es a h1 h2=>S.inj i j ds es a (gJ h1 rfl).1 (gJ h2 rfl).1,by rw[xu];exact S.len,S.tb.mono s1,λi ks h=>?_,λi j ks ls h1 h2=>S.one i j ks ls (gJ h1 rfl).1 (gJ h2 rfl).1,λi ks h=>?_,λi j ks ls h1 h2=>S.oneT i j ks ls (pe h1) (pe h2)⟩
 ·have e:(if P b then H b else HF b)=some o:=e;by_cases h:P b
  ·exact .inr (hP b h).2
  ·rw[yN h] at e;exact S.gr.nw b o e
 ·rw[gS] at h;let⟨s,hs,h⟩:=af h;rw[jD] at h;cases s with
  | non=>split at h<;>cases h
  | tab ks=>split at h<;>cases h
  | val e =>
   have:Slot.val e=Slot.val d:=by split at h<;>exact h
   cases this;let⟨v,a,b⟩:=S.val i _ hs;exact⟨v,a,b.mono s1⟩
  | own ds =>
   split at h
   ·rename_i hc;cases h;let⟨a,vs,e1,e2,e3,e5,e4⟩:=S.own i ds hs;refine⟨.ref a,e1,?_⟩;simp?[Rep];refine⟨a,vs,rfl,.inl (.inl ?_),e4.mono s1⟩;show (if P a then H a else HF a)=_;rw[yL ⟨i,_,hc,hs,rfl,e1⟩];exact e2
   ·cases h
  | dic ks =>
   split at h
   ·rename_i hc;cases h;let⟨a,us,e1,e2,e3,e5,e4⟩:=S.dic i ks hs;refine⟨.ref a,e1,?_⟩;simp?[Rep];refine⟨a,ks,us,rfl,rfl,?_,e4.mono s1⟩;show (if P a then H a else HF a)=_;rw[yL ⟨i,_,hc,hs,rfl,e1⟩];exact e2
   ·cases h
 ·let⟨hs,hc⟩:=gJ h rfl;let⟨a,vs,e1,e2,e3,e5,e4⟩:=S.own i ds hs;exact⟨a,vs,e1,e2,kept hs rfl hc e1,e5,e4.mono s1⟩
 ·let⟨hs,hc⟩:=gJ h rfl;let⟨a,vs,e1,e2,e3,e5,e4⟩:=S.dic i ks hs;exact⟨a,vs,e1,e2,kept hs rfl hc e1,e5,e4.mono s1⟩
 ·let⟨a,kvs,e1,e2,e3,e5,e4⟩:=S.tab i ks (pe h);refine⟨a,kvs,e1,e2,?_,e5,e4.1,e4.2.mono s1⟩;show (if P a then H a else HF a)=none;rw[yN ?_]
  ·exact e3
  ·rintro⟨j,t,hj,h1,h2,h3⟩;cases t with
   | own ds =>
    let⟨a',vs,f1,f2,_⟩:=S.own j ds h1;rw[h3] at f1;cases f1;rw[e2] at f2;cases f2
   | dic ls =>
    let⟨a',vs,f1,f2,_⟩:=S.dic j ls h1;rw[h3] at f1;cases f1;rw[e2] at f2;cases f2
   | _=>cases h2
def dO.setV(S:dO K HF₀ H₀ HF H ρ σ)(r:Rep K HF d v):dO K HF₀ H₀ HF H (ρ.set i (.val d)) (σ.set i (some v)):=by
 have ne:∀ {j:Nat}{s:Slot},(ρ.set i (.val d))[j]?=some s->(∀e,s≠.val e)->i≠j/\ρ[j]?=some s:=λ{j s} h hn=>by
  rw[xI] at h;by_cases hij:i=j
  ·rw[yL hij] at h;split at h
   ·cases h;exact absurd rfl (hn _)
   ·cases h
  ·rw[yN hij] at h;exact⟨hij,h⟩
 refine⟨S.gr,λj e h=>?_,λj ds h=>?_,λj k ds es a h1 h2 h3 h4=>?_,by rw[yC,yC];exact S.len,S.tb,λj ks h=>?_,λj k ks ls h1 h2=>S.one j k ks ls (ne h1 λe z=>by cases z).2 (ne h2 λe z=>by cases z).2,λj ks h=>?_,λj k ks ls h1 h2=>S.oneT j k ks ls (ne h1 λe z=>by cases z).2 (ne h2 λe z=>by cases z).2⟩
 ·rw[xI] at h ⊢;by_cases hij:i=j
  ·rw[yL hij] at h ⊢;split at h
   ·rename_i hl;cases h;rw[yL (zP hl S.len)];exact⟨v,rfl,r⟩
   ·cases h
  ·rw[yN hij] at h ⊢;exact S.val j e h
 ·let⟨hij,h⟩:=ne h λe z=>by cases z
  rw[xI,yN hij];exact S.own j ds h
 ·let⟨n1,h1⟩:=ne h1 λe z=>by cases z
  let⟨n2,h2⟩:=ne h2 λe z=>by cases z
  rw[xI,yN n1] at h3;rw[xI,yN n2] at h4;exact S.inj j k ds es a h1 h2 h3 h4
 ·let⟨hij,h⟩:=ne h λe z=>by cases z
  rw[xI,yN hij];exact S.dic j ks h
 ·let⟨hij,h⟩:=ne h λe z=>by cases z
  rw[xI,yN hij];exact S.tab j ks h
def dO.setO(S:dO K HF₀ H₀ HF H ρ σ)(hs:aP H H')(h1:H' a=some (.lst vs))(h2:HF a=none)(h3:H₀ a=none)(r:au K HF ds vs)
  (fr:∀j es,i≠j->ρ[j]?=some (.own es)->σ[j]?≠some (some (.ref a))):dO K HF₀ H₀ HF H' (ρ.set i (.own ds)) (σ.set i (some (.ref a))):=by
 have S:=S.step hs;have nb:∀ {j:Nat}{ks:List (List Int)},(ρ.set i (.own ds))[j]?=some (.tab ks)->i≠j/\ρ[j]?=some (.tab ks):=λ{j ks} h=>by
  rw[xI] at h;by_cases hij:i=j
  ·rw[yL hij] at h;split at h<;>cases h
  ·rw[yN hij] at h;exact⟨hij,h⟩
 have nt:∀ {j:Nat}{ks:List (Str×List Int)},(ρ.set i (.own ds))[j]?=some (.dic ks)->i≠j/\ρ[j]?=some (.dic ks):=λ{j ks} h=>by
  rw[xI] at h;by_cases hij:i=j
  ·rw[yL hij] at h;split at h<;>cases h
  ·rw[yN hij] at h;exact⟨hij,h⟩
 refine⟨S.gr,λj e h=>?_,λj es h=>?_,λj k xs ys b e1 e2 e3 e4=>?_,by rw[yC,yC];exact S.len,S.tb,λj ks h=>by rw[xI,yN (nt h).1];exact S.dic j ks (nt h).2,λj k ks ls h1 h2=>S.one j k ks ls (nt h1).2 (nt h2).2,λj ks h=>by rw[xI,yN (nb h).1];exact S.tab j ks (nb h).2,λj k ks ls h1 h2=>S.oneT j k ks ls (nb h1).2 (nb h2).2⟩
 ·rw[xI] at h ⊢;by_cases hij:i=j
  ·rw[yL hij] at h;split at h<;>cases h
  ·rw[yN hij] at h ⊢;exact S.val j e h
 ·rw[xI] at h ⊢;by_cases hij:i=j
  ·rw[yL hij] at h ⊢;split at h
   ·rename_i hl;cases h;rw[yL (zP hl S.len)];exact⟨a,vs,rfl,h1,h2,h3,r⟩
   ·cases h
  ·rw[yN hij] at h ⊢;exact S.own j es h
 ·rw[xI] at e1 e2 e3 e4;by_cases hij:i=j
  ·by_cases hik:i=k
   ·exact hij.symm.trans hik
   ·rw[yL hij] at e1 e3;rw[yN hik] at e2 e4;split at e3
    ·cases e3;exact absurd e4 (fr k ys hik e2)
    ·cases e3
  ·by_cases hik:i=k
   ·rw[yN hij] at e1 e3;rw[yL hik] at e2 e4;split at e4
    ·cases e4;exact absurd e3 (fr j xs hij e1)
    ·cases e4
   ·rw[yN hij] at e1 e3;rw[yN hik] at e2 e4;exact S.inj j k xs ys b e1 e2 e3 e4
end
inductive Out where
 | nx (ρ:ao)|rt (d:D)
def B6(K:W.Frag)(HF₀ H₀ HF:Hp)(E:Ends):Out->Prop
 | .nx ρ'=>∀σ' H' HF',dO K HF₀ H₀ HF' H' ρ' σ'->aP HF HF'->E.nx σ' H'
 | .rt d=>∀v H' HF',bF HF₀ H₀ HF' H'->Rep K HF' d v->E.rt v H'
def tS(K:W.Frag)(HF₀ H₀:Hp)(g:ao->Option Out):TS:=λE σ H=>∃HF ρ o,dO K HF₀ H₀ HF H ρ σ/\g ρ=some o/\B6 K HF₀ H₀ HF E o
def DS(X:Cx)(HF₀ H₀:Hp)(st:Stmt)(g:ao->Option Out):Prop:=PS X st (tS X.K HF₀ H₀ g)
def AJ(X:Cx)(HF₀ H₀:Hp)(st:List Stmt)(g:ao->Option Out):Prop:=As X st (tS X.K HF₀ H₀ g)
section
variable {X:Cx}{HF₀ H₀:Hp}{st:Stmt}{rest:List Stmt}{g g1 g2:ao->Option Out}{e:Expr}{pos:Pos}
def b9(h:PS X st t)(i:∀E σ H,t' E σ H->t E σ H):PS X st t':=λpins s σ H E I q=>h pins s σ H E I (i E σ H q)
def BY(h:As X rest t)(i:∀E σ H,t' E σ H->t E σ H):As X rest t':=λpins s σ H E I q=>h pins s σ H E I (i E σ H q)
def dC:ao->Option Out:=λρ=>some (.nx ρ)
def ar(g1 g2:ao->Option Out):ao->Option Out:=λρ=>(g1 ρ).bind fun|.nx ρ'=>g2 ρ'|.rt d=>some (.rt d)
def B6.mono{K:W.Frag}(s:aP HF HF')(h:B6 K HF₀ H₀ HF E o):B6 K HF₀ H₀ HF' E o:=by
 cases o with
 | nx ρ'=>exactλσ' H' HF2 S s2=>h σ' H' HF2 S (s.trans s2)
 | rt d=>exact h
def Ij:AJ X HF₀ H₀ [] dC:=BY HU λE σ H ⟨HF,ρ,o,S,hg,q⟩=>by cases hg;exact q σ H HF S (.refl _)
def Gu(h1:DS X HF₀ H₀ st g1)(h2:AJ X HF₀ H₀ rest g2):AJ X HF₀ H₀ (st::rest) (ar g1 g2):=BY (D7 h1 h2) λE σ H ⟨HF,ρ,o,S,hg,q⟩=>by
 let⟨o1,h,hg⟩:=bs hg;refine⟨HF,ρ,o1,S,h,?_⟩;cases o1 with
 | nx ρ'=>exactλσ' H' HF' S' s=>⟨HF',ρ',o,S',hg,q.mono s⟩
 | rt d=>cases hg;exact q
def IM(h1:DS X HF₀ H₀ st g1):AJ X HF₀ H₀ [st] g1:=HR h1
def Iy:DS X HF₀ H₀ (.Pass pos) dC:=b9 HZ λE σ H ⟨HF,ρ,o,S,hg,q⟩=>by cases hg;exact q σ H HF S (.refl _)
def Ln{x j pos pos'}:DS X HF₀ H₀ (.Expr (.Constant (.str x) j pos) pos') dC:=b9 Ni λE σ H ⟨HF,ρ,o,S,hg,q⟩=>by cases hg;exact q σ H HF S (.refl _)
def d5(t:Env->Option Bool)(g1 g2:ao->Option Out):ao->Option Out:=λρ=>(t (aR ρ)).bind λb=>if b=true then g1 ρ else g2 ρ
def ON(hc:DT X c t)(ha:AJ X HF₀ H₀ a g1)(hb:AJ X HF₀ H₀ b g2):DS X HF₀ H₀ (.If c a b pos) (d5 t g1 g2):=b9 (K0 hc ha hb) λE σ H ⟨HF,ρ,o,S,hg,q⟩=>by
 let⟨b,h,hg⟩:=bs hg;refine⟨H,aR ρ,b,.refl _,S.all,h,λH' HF' G=>?_⟩;cases b with
 | true=>exact uk ⟨HF,ρ,o,S.step G.hh,hg,q⟩
 | false=>exact tM ⟨HF,ρ,o,S.step G.hh,hg,q⟩
def v8:∀ (ρ:ao) (k n:Nat),k+ρ.length<=n->ba (hand (List.range n) k ρ)=aR ρ
 | [],k,n,h=>rfl
 | s::r,k,n,h=>by
  have hk:(List.range n).contains k=true:=by simp at h ⊢;lia
  have ih:=v8 r (k+1) n (by simp at h;lia);unfold ba aR at ih ⊢;rw[hand,yL hk,zI,zI,ih];cases s<;>rfl
def aE(f:Env->Option D):ao->Option Out:=λρ=>(f (aR ρ)).map Out.rt
def M6(h:DE X e f):DS X HF₀ H₀ (.Return (some e) pos) (aE f):=b9 (LJ h) λE σ H ⟨HF,ρ,o,S,hg,q⟩=>by
 let⟨d,h,rfl⟩:=af hg;let⟨HF1,s1,S1⟩:=S.hand (List.range ρ.length);refine⟨HF1,aR ρ,d,S1.gr.fh,?_,h,λv H' HF' G r=>q v H' HF' (S1.gr.trans G) r⟩;have:=S1.frz;rw[v8 ρ 0 ρ.length (by lia)] at this;exact this
def je:D->Bool|.none=>true|.bool _=>true|.int _=>true|.str _=>true|_=>false
def vg{K:W.Frag}(h:je d=true)(r:Rep K HF d v):Rep K HF' d v:=by
 cases d<;>cases h<;>(simp?[Rep] at r ⊢;exact r)
mutual
def fW:D->Bool
 | .tuple ds=>iS ds
 | .list _=>false
 | .dict _=>false
 | _=>true
def iS:List D->Bool
 | []=>true
 | d::ds=>fW d&&iS ds
end
mutual
theorem u4{K:W.Frag}{H1 H2:Hp}(ht:∀a xs,eD K H1 a xs->eD K H2 a xs):∀ {d:D}{v:V},fW d=true->Rep K H1 d v->Rep K H2 d v
 | .none,_,_,r=>by simp?[Rep] at r ⊢;exact r
 | .bool _,_,_,r=>by simp?[Rep] at r ⊢;exact r
 | .int _,_,_,r=>by simp?[Rep] at r ⊢;exact r
 | .str _,_,_,r=>by simp?[Rep] at r ⊢;exact r
 | .tuple ds,v,h,r=>by
  simp?[fW] at h;simp?[Rep] at r ⊢;let⟨a,vs,e,q,rr⟩:=r;exact⟨a,vs,e,ht _ _ q,sg ht h rr⟩
 | .list _,_,h,_=>by simp[fW] at h
 | .dict _,_,h,_=>by simp[fW] at h
theorem sg{K:W.Frag}{H1 H2:Hp}(ht:∀a xs,eD K H1 a xs->eD K H2 a xs):∀ {ds:List D}{vs:List V},iS ds=true->au K H1 ds vs->au K H2 ds vs
 | [],_,_,r=>by simp?[au] at r ⊢;exact r
 | d::ds,vs,h,r=>by
  simp?[iS,zF] at h;simp?[au] at r ⊢;let⟨v,r',e,a,b⟩:=r;exact⟨v,r',e,u4 ht h.1 a,sg ht h.2 b⟩
end
def dO.back{K:W.Frag}(S:dO K HF₀ H₀ HF H ρ σ)(S1:dO K HF₀ H₀ HF1 H ρ1 σ)(s1:aP HF HF1)(G:bF HF1 H HF' H'):∃HF2,aP HF HF2/\dO K HF₀ H₀ HF2 H' ρ σ/\(∀d v,fW d=true->Rep K HF' d v->Rep K HF2 d v)/\∀b o,HF2 b=some o->HF' b=some o:=by
 have cl:=Classical.propDecidable;let O:Addr->Prop:=λa=>(∃ (i:Nat) (ds:List D),ρ[i]?=some (Slot.own ds)/\σ[i]?=some (some (V.ref a)))\/(∃ (i:Nat) (ks:List (Str×List Int)),ρ[i]?=some (Slot.dic ks)/\σ[i]?=some (some (V.ref a)))\/∃ (i:Nat) (ks:List (List Int)),ρ[i]?=some (Slot.tab ks)/\σ[i]?=some (some (V.ref a));let HF2:Hp:=λa=>if O a then none else HF' a
 have hO:∀a,O a->HF a=none/\((∃vs,H a=some (.lst vs))\/(∃kvs,H a=some (.dK kvs))\/∃kvs,H a=some (.dT kvs)):=λa z=>by
  rcases z with ⟨i,ds,h1,h2⟩|⟨i,ks,h1,h2⟩|⟨i,ks,h1,h2⟩
  ·let⟨a',vs,e1,e2,e3,_,_⟩:=S.own i ds h1;rw[h2] at e1;cases e1;exact⟨e3,.inl ⟨vs,e2⟩⟩
  ·let⟨a',kvs,e1,e2,e3,_,_⟩:=S.dic i ks h1;rw[h2] at e1;cases e1;exact⟨e3,.inr (.inl ⟨kvs,e2⟩)⟩
  ·let⟨a',kvs,e1,e2,e3,_,_⟩:=S.tab i ks h1;rw[h2] at e1;cases e1;exact⟨e3,.inr (.inr ⟨kvs,e2⟩)⟩
 have h2:∀a,¬ O a->HF2 a=HF' a:=λa n=>yN n;have h3:∀a,O a->HF2 a=none:=λa n=>yL n;have sa:aP HF HF2:=λb o e=>by
  have nb:¬ O b:=λz=>by rw[(hO b z).1] at e;cases e
  rw[h2 b nb];exact G.ff b o (s1 b o e)
 have sb:∀b o,HF2 b=some o->HF' b=some o:=λb o e=>by
  by_cases z:O b
  ·rw[h3 b z] at e;cases e
  ·rwa [h2 b z] at e
 have g2:=S1.gr.trans G;refine⟨HF2,sa,⟨⟨g2.hh,S.gr.ff.trans sa,λb o e=>G.fh b o (sb b o e),λb o e=>g2.nw b o (sb b o e)⟩,λi d h=>?_,λi ds h=>?_,S.inj,S.len,S.tb.mono sa,λi ks h=>?_,S.one,λi ks h=>?_,S.oneT⟩,λd v hn r=>u4 (λa xs q=>?_) hn r,sb⟩
 ·let⟨v,e1,r⟩:=S.val i d h;exact⟨v,e1,r.mono sa⟩
 ·let⟨a,vs,e1,e2,e3,e5,e4⟩:=S.own i ds h;exact⟨a,vs,e1,G.hh _ _ e2,h3 a (.inl ⟨i,ds,h,e1⟩),e5,e4.mono sa⟩
 ·let⟨a,kvs,e1,e2,e3,e5,e4⟩:=S.dic i ks h;exact⟨a,kvs,e1,G.hh _ _ e2,h3 a (.inr (.inl ⟨i,ks,h,e1⟩)),e5,e4.mono sa⟩
 ·let⟨a,kvs,e1,e2,e3,e5,e4⟩:=S.tab i ks h;exact⟨a,kvs,e1,G.hh _ _ e2,h3 a (.inr (.inr ⟨i,ks,h,e1⟩)),e5,e4.1,e4.2.mono sa⟩
 ·have nt:∀o,HF' a=some o->(∀vs,o≠.lst vs)->(∀kvs,o≠.dK kvs)->(∀kvs,o≠.dT kvs)->HF2 a=some o:=λo e hne hnd hnt=>by
   by_cases z:O a
   ·rcases (hO a z).2 with ⟨vs,e2⟩|⟨vs,e2⟩|⟨vs,e2⟩
    ·have:=G.hh _ _ e2;rw[G.fh a o e] at this;cases this;exact absurd rfl (hne vs)
    ·have:=G.hh _ _ e2;rw[G.fh a o e] at this;cases this;exact absurd rfl (hnd vs)
    ·have:=G.hh _ _ e2;rw[G.fh a o e] at this;cases this;exact absurd rfl (hnt vs)
   ·rw[h2 a z];exact e
  rcases q with (q|⟨o,q⟩)|q
  ·exact .inl (.inl (nt _ q (λvs z=>by cases z) (λvs z=>by cases z) λvs z=>by cases z))
  ·exact .inl (.inr ⟨o,nt _ q (λvs z=>by cases z) (λvs z=>by cases z) λvs z=>by cases z⟩)
  ·exact .inr q
def aD(i:Nat)(fz:List Nat)(f:Env->Option D):ao->Option Out:=λρ=>(f (aR ρ)).bind λd=>if je d=true then some (.nx (ρ.set i (.val d))) else (f (ba (hand fz 0 ρ))).map λd'=>.nx ((if fW d'=true then ρ else hand fz 0 ρ).set i (.val d'))
def NY:∀E σ H,tS X.K HF₀ H₀ (aD i fz f) E σ H->EH (tD X.K f) (u9 i) E σ H:=λE σ H ⟨HF,ρ,o,S,hg,q⟩=>by
 let⟨d,h,hg⟩:=bs hg;split at hg
 ·rename_i hs;cases hg;exact⟨H,aR ρ,d,.refl _,S.all,h,λv H' HF' G r=>q _ H' HF ((S.step G.hh).setV (vg hs r)) (.refl _)⟩
 ·let⟨d',h',rfl⟩:=af hg;let⟨HF1,s1,S1⟩:=S.hand fz;refine⟨HF1,_,d',S1.gr.fh,S1.frz,h',λv H' HF' G r=>?_⟩;by_cases hn:fW d'=true
  ·rw[yL hn] at q;let⟨HF2,s2,S2,hb,_⟩:=S.back S1 s1 G;exact q _ H' HF2 (S2.setV (hb d' v hn r)) s2
  ·rw[yN hn] at q;exact q _ H' HF' ((S1.grow G).setV r) (s1.trans G.ff)
def LD(i:Nat)(fz:List Nat)(hN:X.N.Nodup)(hi:X.N[i]?=some x)(hx:Loc X.env.scope x)(he:DE X e f)(hs:swapsWith e (some (.Name x pos')) pos.line X.env=pure false:=by rfl)
  (hf:X.fn x=true\/X.env.scope.names.lookup x=some .local:=by first|exact .inl rfl|exact .inr rfl|assumption):DS X HF₀ H₀ (.Assign [.Name x pos'] e pos) (aD i fz f):=b9 (uJ hN hi hx he hs hf) NY
def aQ(i:Nat)(fz:List Nat)(f:Env->Option (List D)):ao->Option Out:=λρ=>(f (ba (hand fz 0 ρ))).map λds=>.nx ((hand fz 0 ρ).set i (.own ds))
def GM:∀E σ H,tS X.K HF₀ H₀ (aQ i fz f) E σ H->EH (tF X.K f) (u9 i) E σ H:=λE σ H ⟨HF,ρ,o,S,hg,q⟩=>by
 let⟨ds,h,rfl⟩:=af hg;let⟨HF1,s1,S1⟩:=S.hand fz;refine⟨HF1,_,ds,S1.gr.fh,S1.frz,h,λa vs H' HF' G ha hf h' r=>q _ H' HF' ?_ (s1.trans G.ff)⟩;have S2:=S1.grow G;refine S2.setO (.refl _) h' hf (S1.gr.hh.free ha) r λj es _ hj z=>?_;let⟨b,us,e1,e2,_⟩:=S1.own j es hj;rw[e1] at z;cases z;rw[ha] at e2;cases e2
def uN(i:Nat)(fz:List Nat)(hN:X.N.Nodup)(hi:X.N[i]?=some x)(hx:Loc X.env.scope x)(he:DF X e f)(hs:swapsWith e (some (.Name x pos')) pos.line X.env=pure false:=by rfl)
  (hf:X.fn x=true\/X.env.scope.names.lookup x=some .local:=by first|exact .inl rfl|exact .inr rfl|assumption):DS X HF₀ H₀ (.Assign [.Name x pos'] e pos) (aQ i fz f):=b9 (uJ hN hi hx he hs hf) GM
def Hz(i:Nat)(fz:List Nat){cs:List Nat}
  (hc:X.calm=true) (S:ip X scope N (jh t cs)) (hi:DI X tg iter fi)
  (hY:∀fp s H,DG (aU X scope N fp s H) tg tgt/\OH (aU X scope N fp s H) ifs tt/\DE (aU X scope N fp s H) elt te)
  (hN:X.N.Nodup) (hiy:X.N[i]?=some y) (hy:X.env.scope.names.lookup y=some .local)
  (hsw:swapsWith (.ListComp elt [⟨tg,iter,ifs,0⟩] scope pos) (some (.Name y py)) spos.line X.env=pure true)
  (hs:∀x,foldedSetIterable iter X.env x=pure x:=by intro _;rfl):DS X HF₀ H₀ (.Assign [.Name y py] (.ListComp elt [⟨tg,iter,ifs,0⟩] scope pos) spos) (aQ i fz (aj t cs fi tgt tt te)) :=
 b9 (Ig (g:=Pz X.K tgt) (tt:=Lw X.K tt) (te:=tD X.K te) hc S hi hY hN hiy hy hsw hs) λE σ H q=>by
  have:=GM E σ H q;exact Gw σ H _ this
def Rc(K:W.Frag)(HF₀ H₀:Hp)(f:ao->D->Option ao):TG:=λv σ H Q=>∃HF ρ d ρ',dO K HF₀ H₀ HF H ρ σ/\Rep K HF d v/\f ρ d=some ρ'/\∀σ',dO K HF₀ H₀ HF H ρ' σ'->Q σ' H
def OV(X:Cx)(HF₀ H₀:Hp)(tg:Expr)(f:ao->D->Option ao):Prop:=PG X tg (Rc X.K HF₀ H₀ f)
def kn(i:Nat):ao->D->Option ao:=λρ d=>some (ρ.set i (.val d))
def D9(i:Nat)(hN:X.N.Nodup)(hi:X.N[i]?=some x)(hx:Loc X.env.scope x)(hf:X.fn x=true\/X.env.scope.names.lookup x=some .local:=by first|exact .inl rfl|exact .inr rfl|assumption):OV X HF₀ H₀ (.Name x pos) (kn i) :=
 mQ (cU hN hi hx hf) λv σ H Q ⟨HF,ρ,d,ρ',S,r,hf,q⟩=>by cases hf;exact q _ (S.setV r)
def fS(i j:Nat):ao->D->Option ao:=λρ d=>match d with
 | .tuple [x,y]=>some ((ρ.set i (.val x)).set j (.val y))
 | _=>none
def JF(i j:Nat){px py:Pos}{k:Nat}(hc:X.calm=true)(hN:X.N.Nodup)(hi:X.N[i]?=some x)(hx:Loc X.env.scope x)(hj:X.N[j]?=some y)(hy:Loc X.env.scope y)
  (hf:X.fn x=true\/X.env.scope.names.lookup x=some .local:=by first|exact .inl rfl|exact .inr rfl|assumption) (hf':X.fn y=true\/X.env.scope.names.lookup y=some .local:=by first|exact .inl rfl|exact .inr rfl|assumption) :
  OV X HF₀ H₀ (.Tuple [.Name x px,.Name y py] k pos) (fS i j) :=
 mQ (uv hc (cR (cU hN hi hx hf) (cR (cU hN hj hy hf') oI))) λv σ H Q ⟨HF,ρ,d,ρ',S,r,hf,q⟩=>by
  unfold fS at hf;split at hf
  ·cases hf;simp?[Rep] at r;let⟨a,vs,rfl,hs,rr⟩:=r;let⟨v1,r1,rfl,a1,b1⟩:=rr.cons_inv;let⟨v2,r2,rfl,a2,b2⟩:=b1.cons_inv;rw[b2.nil_inv] at hs;exact⟨a,_,rfl,ay S.gr.fh hs,rfl,v1,_,rfl,v2,_,rfl,rfl,q _ ((S.setV a1).setV a2)⟩
  ·cases hf
def cf(tgt:ao->D->Option ao)(gb:ao->Option Out):List D->ao->Option Out
 | [],ρ=>some (.nx ρ)
 | d::ds,ρ=>(tgt ρ d).bind λρ1=>(gb ρ1).bind fun|.nx ρ2=>cf tgt gb ds ρ2|.rt v=>some (.rt v)
def cP(fz:List Nat)(fi:Env->Option (List D))(tgt:ao->D->Option ao)(gb:ao->Option Out):ao->Option Out:=λρ=>(fi (ba (hand fz 0 ρ))).bind λds=>cf tgt gb ds (hand fz 0 ρ)
def L7(fz:List Nat)(hp:PassesOwn (model X.prog X.w) X.A X.env X.xe)(hc:X.calm=true)(hi:DI X tg iter fi)(hg:OV X HF₀ H₀ tg tgt)(hb:AJ X HF₀ H₀ body gb)
  (hs:∀x,foldedSetIterable iter X.env x=pure x:=by intro _;rfl):DS X HF₀ H₀ (.For tg iter body [] pos) (cP fz fi tgt gb):=b9 (Mt hp hc hi hg hb hs) λE σ H ⟨HF,ρ,o,S,hg,q⟩=>by
 let⟨ds,h,hg⟩:=bs hg;let⟨HF1,s1,S1⟩:=S.hand fz;refine⟨HF1,_,ds,S1.gr.fh,S1.frz,h,λJ H2 HF2 G it=>?_⟩;refine⟨λi m σ' H'=>m+i=ds.length/\∃HF' ρ',dO X.K HF₀ H₀ HF' H' ρ' σ'/\aP HF2 HF'/\cf tgt gb (ds.drop i) ρ'=some o,⟨ds.length,rfl,HF2,_,S1.grow G,.refl _,hg⟩,?_⟩;rintro i m σ' H' ⟨hm,HF',ρ',S',s',hf⟩;by_cases hi:i < ds.length
 ·refine .inr ?_;have hd:ds.drop i=ds[i]::ds.drop (i+1):=kX hi;have he:ds[i]?=some ds[i]:=List.getElem?_eq_some_iff.mpr ⟨hi,rfl⟩;generalize ds[i]=d at hd he;rw[hd] at hf;unfold cf at hf;let⟨ρ1,h1,hf⟩:=bs hf;let⟨o1,h2,hf⟩:=bs hf;let⟨go,yld⟩:=it.go i d H' HF' he s' S'.gr.fh;refine⟨go,λσ2 H3=>∃HF3 ρ3,dO X.K HF₀ H₀ HF3 H3 ρ3 σ2/\aP HF2 HF3/\cf tgt gb (ds.drop (i+1)) ρ3=some o,λσ2 H3 ⟨HF3,ρ3,a1,a2,a3⟩=>⟨m - 1,by lia,by lia,HF3,ρ3,a1,a2,a3⟩,λx H3 y=>?_⟩;let⟨HF3,G3,rx⟩:=yld x H3 y;refine⟨HF3,ρ',d,ρ1,S'.grow G3,rx,h1,λσ2 S2=>⟨HF3,ρ1,o1,S2,h2,?_⟩⟩;cases o1 with
  | nx ρ2=>exactλσ4 H4 HF4 S4 s4=>⟨HF4,ρ2,S4,(s'.trans G3.ff).trans s4,hf⟩
  | rt d=>cases hf;exact q
 ·have hi':i=ds.length:=by lia
  subst hi';rw[List.drop_length] at hf;cases hf;exact .inl ⟨it.stop H' HF' s' S'.gr.fh,q σ' H' HF' S' ((s1.trans G.ff).trans s')⟩
end
def Qe(X:Cx)(sc:Scope):Prop:=∀x k,sc.names.lookup x=some k->X.env.kindOf x=some k\/(k=.free/\X.env.kindOf x=some .cell)
structure Bk(X:Cx)(N:List Str)(sc:Scope)(k:Nat):Prop where
 n:X.N=N
 nd:N.Nodup
 tb:Qe X sc
 calm:X.calm=true
 fn:∀x,sc.names.lookup x=some .cell->X.fn x=true
 room:eF k X.A
 xe:X.xe=λ_ _=>False
 kd:X.env.scope.kind=.function
def dy:List Str:=["len","isinstance","int","bool","tuple","list","range","all","any","set","sorted","enumerate","zip","sum","min","max","reversed","abs","dict","str","type","iter","next"]
def Bn(X:Cx):Prop:=∀x∈dy,X.mg x=none
def yj(sc:Scope)(x:Str):Bool:=decide (sc.names.lookup x=some .globalImplicit)
def n8(N:List Str)(sc:Scope)(i:Nat)(x:Str):Bool:=decide (N[i]?=some x)&&(decide (sc.names.lookup x=some .local)||decide (sc.names.lookup x=some .cell)||decide (sc.names.lookup x=some .free))&&!(x == ("__debug__":Str))&&!(x == ("__classdict__":Str))
def n9(N:List Str)(sc:Scope)(i:Nat)(x:Str):Bool:=decide (N[i]?=some x)&&(decide (sc.names.lookup x=some .local)||decide (sc.names.lookup x=some .cell))
def Bk.gl(C:Bk X N sc k)(h:yj sc x=true):Gl X x:=by
 rcases C.tb x _ (yQ h) with q|⟨q,_⟩
 ·exact q
 ·cases q
def Bk.vis(C:Bk X N sc k)(h:n8 N sc i x=true):X.N[i]?=some x/\AV X.env.scope x/\(x == ("__debug__":Str))=false/\(x == ("__classdict__":Str))=false:=by
 unfold n8 at h;simp?[zF,jB,zJ,yP] at h;let⟨⟨⟨h1,h2⟩,h3⟩,h4⟩:=h;refine⟨by rw[C.n];exact h1,?_,h3,h4⟩;rcases h2 with (h2|h2)|h2
 ·rcases C.tb x _ h2 with q|⟨q,_⟩
  ·exact .inl q
  ·cases q
 ·rcases C.tb x _ h2 with q|⟨q,_⟩
  ·exact .inr (.inl q)
  ·cases q
 ·rcases C.tb x _ h2 with q|⟨_,q⟩
  ·exact .inr (.inr q)
  ·exact .inr (.inl q)
def Bk.loc(C:Bk X N sc k)(h:n9 N sc i x=true):X.N.Nodup/\X.N[i]?=some x/\Loc X.env.scope x/\(X.fn x=true\/X.env.scope.names.lookup x=some .local):=by
 unfold n9 at h;simp?[zF,jB,zJ] at h;let⟨h1,h2⟩:=h;refine⟨by rw[C.n];exact C.nd,by rw[C.n];exact h1,?_⟩;rcases h2 with h2|h2
 ·rcases C.tb x _ h2 with q|⟨q,_⟩
  ·exact⟨.inl q,.inr q⟩
  ·cases q
 ·rcases C.tb x _ h2 with q|⟨q,_⟩
  ·exact⟨.inr q,.inl (C.fn x h2)⟩
  ·cases q
def Bk.blt(C:Bk X N sc k)(B:Bn X)(h:yj sc x=true)(hm:x∈dy)(hv:bootBuiltins x=some v):mF X x v:=⟨C.gl h,B x hm,hv⟩
def Bk.v(C:Bk X N sc k)(i:Nat)(h:n8 N sc i x=true):DE X (.Name x pos) (ab i):=let ⟨a,b,c,d⟩:=C.vis h;ND i a b c d
def Bk.pass(C:Bk X N sc k):PassesOwn (model X.prog X.w) X.A X.env X.xe:=by rw[C.xe];exact PassesOwn.never
def iw(sc scope:Scope)(N N':List Str)(t:Nat)(cs:List Nat):Bool :=
 decide (scope.kind=.function)&&scope.names.all (λp=>(!decide (p.2=NameKind.free)||decide (sc.names.lookup p.1=some .cell)||decide (sc.names.lookup p.1=some .free))&&(!decide (p.2=NameKind.local)||decide (scope.names.lookup p.1=some .local)))
  &&scope.names.all (λp=>!decide (p.2=NameKind.cell)||!scope.names.any λq=>decide (q.1=p.1)&&decide (q.2=NameKind.free))
  &&decide (N'.length=t+cs.length)&&decide (N'.drop t=cs.filterMap λj=>N[j]?)&&cs.all (λj=>decide (j < N.length))&&(N'.drop t).all (λx=>decide (scope.names.lookup x=some .free))&&decide N'.Nodup
def filterMap_get(N:List α):∀ (cs:List Nat),(∀j∈cs,j < N.length)->∀ (i:Nat),(cs.filterMap λj=>N[j]?)[i]?=(cs[i]?).bind λj=>N[j]?
 | [],_,i=>by simp
 | c::cs,h,i=>by
  have hc:=h c zE;rw[jG,zK hc];cases i with
  | zero=>simp[hc]
  | succ i =>
   simp?[yY];exact filterMap_get N cs (λj hj=>h j (zC _ hj)) i
def Bk.comp(C:Bk X N sc k){cs:List Nat}(h:iw sc scope N N' t cs=true):ip X scope N' (jh t cs)/\∀fp s H,Bk (aU X scope N' fp s H) N' scope k:=by
 unfold iw at h;simp?[zF,zJ,xG,jB,yP,xB] at h;obtain⟨⟨⟨⟨⟨⟨⟨h1,h2⟩,h3⟩,h4⟩,h5⟩,h6⟩,h7⟩,h8⟩:=h;refine⟨⟨h1,λx hx hk=>?_,λ{x} a b=>?_,λx hx hk=>?_,λσ i x v e1 e2=>?_,λσ=>?_⟩,λfp s H=>⟨rfl,h8,λx k hx=>mV hx,C.calm,λx hx=>yA hx,C.room,rfl,h1⟩⟩
 ·rcases (h2 x hx).1 with (q|q)|q
  ·exact absurd hk q
  ·rcases C.tb _ _ q with z|⟨z,_⟩
   ·exact .inl z
   ·cases z
  ·rcases C.tb _ _ q with z|⟨_,z⟩
   ·exact .inr z
   ·exact .inl z
 ·rcases h3 _ a with q|q
  ·exact q rfl
  ·have:(scope.names.any λq=>decide (q.1=x)&&decide (q.2=NameKind.free))=true:=List.any_eq_true.mpr ⟨_,b,by simp⟩;rw[this] at q;cases q
 ·rcases (h2 x hx).2 with q|q
  ·exact absurd hk q
  ·exact q
 ·unfold jh at e2;by_cases hi:i < t
  ·rw[yS (by simpa using hi),yX,yL hi] at e2;cases e2
  ·rw[yT (by simpa using hi),zO,xM] at e2;let⟨j,hj,e2⟩:=af e2;have e3:(N'.drop t)[i - t]?=some x:=by rw[List.getElem?_drop];rw[show t+(i - t)=i by lia];exact e1
   refine⟨h7 x (qB e3),j,?_,?_⟩
   ·rw[h5,filterMap_get N cs h6,hj] at e3;rw[C.n];exact e3
   ·cases e:σ[j]? with
    | none=>rw[e] at e2;cases e2
    | some o=>rw[e] at e2;have e2:o=some v:=e2;rw[e2]
 ·unfold jh;rw[zN,xM,zD,h4]
def aV(g:ao->Option Out)(n:Nat)(args:List D):Option D:=(g (args.map Slot.val++List.replicate (n - args.length) .non)).map fun|.rt d=>d|.nx _=>.none
def E7{ds:List D}{n i:Nat}{ks:List (List Int)}:¬ (ds.map Slot.val++List.replicate n .non)[i]?=some (.tab ks):=λh=>by
 rcases List.mem_append.mp (qB h) with z|z
 ·let⟨d,_,e⟩:=List.mem_map.mp z;cases e
 ·cases List.eq_of_mem_replicate z
def D5{ds:List D}{n i:Nat}{ks:List (Str×List Int)}:¬ (ds.map Slot.val++List.replicate n .non)[i]?=some (.dic ks):=λh=>by
 rcases List.mem_append.mp (qB h) with z|z
 ·let⟨d,_,e⟩:=List.mem_map.mp z;cases e
 ·cases List.eq_of_mem_replicate z
def Kv{K:W.Frag}{st:Stmt}(F:IA K x qual st f fd)(S:d6 N ps (aK st))
  (body:∀X:Cx,X.prog=P->X.w=w->X.K=K->X.mg=mg->X.base=base->Bk X N (aK st) k->X.env.code=fd.code->X.env.qual=qual++".<locals>."->∀HF₀ H₀,AJ X HF₀ H₀ (bV st) g):pq P w K mg base NM (k+1) f fd ps (Pa K ps.length (aV g N.length)):=by
 let⟨oc,od,kV,doc,pm,an,cdv,ct,osl,rfl,lk,hcd⟩:=F.ex;refine NU lk hcd S (λvs H Q E ⟨HF,ds,d,h1,_,h2,h3,_⟩=>by rw[h2.length,h3]) λA outer s H vs Q E hr ⟨HF,ds,d,sm,tb,rr,hl,hd,q⟩=>?_;refine⟨_,(body (C3 NM P w K mg base N qual (aK st) f cdv A outer s H E).nox rfl rfl rfl rfl rfl ⟨rfl,S.nd,λy kd hy=>.inl hy,rfl,λ_ _=>rfl,hr,rfl,S.kind⟩ rfl rfl HF H).nox,?_⟩;unfold aV at hd;let⟨o,ho,hd⟩:=af hd;have hpl:ps.length<=N.length:=by have:=jC List.length S.pre;rw[jV] at this;lia
 refine⟨HF,_,o,⟨.refl sm,λi e h=>?_,λi es h=>?_,λi j es fs a h=>?_,?_,tb,λi ks h=>absurd h D5,λi j ks ls h=>absurd h D5,λi ks h=>absurd h E7,λi j ks ls h=>absurd h E7⟩,ho,?_⟩
 ·have hi:i < ds.length:=by
   by_cases hi:i < ds.length
   ·exact hi
   ·rw[yT (by simpa using hi),yX] at h;split at h<;>cases h
  rw[yS (by simpa using hi),zO] at h;let⟨d',hd',h⟩:=af h;cases h;let⟨v,hv,rv⟩:=rr.getD hd';refine⟨v,?_,rv⟩;unfold L2.start;rw[yS (by simpa [rr.length] using hi),zO,hv];rfl
 ·exfalso;by_cases hi:i < ds.length
  ·rw[yS (by simpa using hi),zO] at h;let⟨d',hd',h⟩:=af h;cases h
  ·rw[yT (by simpa using hi),yX] at h;split at h<;>cases h
 ·exfalso;by_cases hi:i < ds.length
  ·rw[yS (by simpa using hi),zO] at h;let⟨d',hd',h⟩:=af h;cases h
  ·rw[yT (by simpa using hi),yX] at h;split at h<;>cases h
 ·unfold L2.start;rw[zN,zN,zD,zD,xM,xM,rr.length];exact yM _
 ·cases o with
  | rt d'=>cases hd;exactλv H' HF' G r=>q v H' HF' G r
  | nx ρ'=>cases hd;exactλσ' H' HF' S' _=>q .non H' HF' S'.gr (by simp[Rep])
def QT{K:W.Frag}{st:Stmt}(F:IA K x qual st f fd)(S:d6 N ps (aK st))(hb:Binds K fd ps [])(hm:mg x=some (.ref f))
  (body:∀X:Cx,X.prog=P->X.w=w->X.K=K->X.mg=mg->X.base=base->Bk X N (aK st) k->X.env.code=fd.code->X.env.qual=qual++".<locals>."->∀HF₀ H₀,AJ X HF₀ H₀ (bV st) g):GY P w K mg base (k+1) x ps.length (aV g N.length):=⟨f,fd,ps,Kv F S body,hm,F.kp,hb⟩
def lW(fz:List Nat)(f:Env->Option D)(ρ:ao):Option (D×ao):=(f (aR ρ)).bind λd=>if je d=true then some (d,ρ) else (f (ba (hand fz 0 ρ))).map λd'=>(d',hand fz 0 ρ)
def m8{K:W.Frag}(S:dO K HF₀ H₀ HF H ρ σ)(h:lW fz f ρ=some (d,ρ'))
  (q:∀v H' HF',aP HF HF'->dO K HF₀ H₀ HF' H' ρ' σ->aP H H'->Rep K HF' d v->Q v H'):tD K f σ H Q:=by
 let⟨d1,h1,h⟩:=bs h;split at h
 ·rename_i hs;cases h;exact⟨H,aR ρ,d,.refl _,S.all,h1,λv H' HF' G r=>q v H' HF (.refl _) (S.step G.hh) G.hh (vg hs r)⟩
 ·let⟨d2,h2,h⟩:=af h;cases h;let⟨HF1,s1,S1⟩:=S.hand fz;exact⟨HF1,_,d,S1.gr.fh,S1.frz,h2,λv H' HF' G r=>q v H' HF' (s1.trans G.ff) (S1.grow G) G.hh r⟩
def mv(i:Nat)(m:List D->Option (List D))(ρ:ao):Option Out:=match ρ[i]? with
 | some (.own ds)=>(m ds).map λes=>.nx (ρ.set i (.own es))
 | _=>none
def j6(h:mv i m ρ=some o):∃ds es,ρ[i]?=some (.own ds)/\m ds=some es/\o=.nx (ρ.set i (.own es)):=by
 unfold mv at h;split at h
 ·rename_i ds hd;let⟨es,h1,h2⟩:=af h;exact⟨ds,es,hd,h1,h2.symm⟩
 ·cases h
def dO.mut{K:W.Frag}(S:dO K HF₀ H₀ HF H ρ σ)(h:ρ[i]?=some (.own ds))(ha:σ[i]?=some (some (.ref a)))(hH:H a=some (.lst vs))(r:au K HF es us) :
  dO K HF₀ H₀ HF (upd H a (.lst us)) (ρ.set i (.own es)) σ:=by
 let⟨a',vs',e1,e2,e3,e5,e4⟩:=S.own i ds h;rw[ha] at e1;cases e1;have hl:i < ρ.length:=(List.getElem?_eq_some_iff.mp h).1;have gr:bF HF₀ H₀ HF (upd H a (.lst us)):=⟨λb o e=>by rw[ax (aF e e5)];exact S.gr.hh b o e,S.gr.ff,λb o e=>by rw[ax (aF e e3)];exact S.gr.fh b o e,S.gr.nw⟩
 have nb:∀ {j:Nat}{ks:List (List Int)},(ρ.set i (.own es))[j]?=some (.tab ks)->ρ[j]?=some (.tab ks):=λ{j ks} h=>by
  rw[xI] at h;by_cases hij:i=j
  ·rw[yL hij] at h;split at h<;>cases h
  ·rw[yN hij] at h;exact h
 have nt:∀ {j:Nat}{ks:List (Str×List Int)},(ρ.set i (.own es))[j]?=some (.dic ks)->ρ[j]?=some (.dic ks):=λ{j ks} h=>by
  rw[xI] at h;by_cases hij:i=j
  ·rw[yL hij] at h;split at h<;>cases h
  ·rw[yN hij] at h;exact h
 refine⟨gr,λj d hj=>?_,λj xs hj=>?_,λj k xs ys b f1 f2 f3 f4=>?_,by rw[yC];exact S.len,S.tb,λj ks hj=>?_,λj k ks ls h1 h2=>S.one j k ks ls (nt h1) (nt h2),λj ks hj=>?_,λj k ks ls h1 h2=>S.oneT j k ks ls (nb h1) (nb h2)⟩
 ·rw[xI] at hj;by_cases hij:i=j
  ·rw[yL hij] at hj;split at hj<;>cases hj
  ·rw[yN hij] at hj;exact S.val j d hj
 ·rw[xI] at hj;by_cases hij:i=j
  ·subst hij;rw[yL rfl,yL hl] at hj;cases hj;exact⟨a,us,ha,aG,e3,e5,r⟩
  ·rw[yN hij] at hj;let⟨b,ws,f1,f2,f3,f5,f4⟩:=S.own j xs hj;refine⟨b,ws,f1,?_,f3,f5,f4⟩;rw[ax]
   ·exact f2
   ·rintro rfl;exact hij (S.inj i j ds xs b h hj ha f1)
 ·have old:∀ {j:Nat}{xs:List D},(ρ.set i (.own es))[j]?=some (.own xs)->∃ys,ρ[j]?=some (.own ys):=λ{j xs} hj=>by
   rw[xI] at hj;by_cases hij:i=j
   ·subst hij;exact⟨ds,h⟩
   ·rw[yN hij] at hj;exact⟨xs,hj⟩
  let⟨xs',g1⟩:=old f1;let⟨ys',g2⟩:=old f2;exact S.inj j k xs' ys' b g1 g2 f3 f4
 ·let⟨b,kvs,g1,g2,g3,g5,g4⟩:=S.dic j ks (nt hj);refine⟨b,kvs,g1,?_,g3,g5,g4⟩;rw[ax λz=>by rw[z,e2] at g2;cases g2];exact g2
 ·let⟨b,kvs,g1,g2,g3,g5,g4⟩:=S.tab j ks (nb hj);refine⟨b,kvs,g1,?_,g3,g5,g4⟩;rw[ax λz=>by rw[z,e2] at g2;cases g2];exact g2
def lK(i:Nat)(fz:List Nat)(f:Env->Option D):ao->Option Out:=λρ=>(lW fz f ρ).bind λp=>mv i (λds=>if ds.length < sizeLine then some (ds++[p.1]) else none) p.2
def C9(i:Nat)(fz:List Nat)(hN:X.N[i]?=some x)(hv:AV X.env.scope x)(h:DE X e f)(hd:(x == ("__debug__":Str))=false:=by decide)(hcd:(x == ("__classdict__":Str))=false:=by decide)
  (hfew:((backTo cpos (starEach [e] X.env)).all (λx=>!x.1)&&(backToKw cpos (keywordEach [] X.env)).all (λx=>x.1.isSome)&&decide ([e].length+([]:List Keyword).length+(if ([]:List Keyword).isEmpty then 0 else 1) < 30))=true:=by rfl)
  (hline:(apos.endLine == cpos.line)=true:=by rfl) (hs:starEach [e] X.env=(false,eval e X.env)::starEach [] X.env:=by rfl) :
  DS X HF₀ H₀ (.Expr (.Call (.Attribute (.Name x px) "append" apos) [e] [] cpos) pos) (lK i fz f) :=
 b9 (oE (nW qN PySem.F.slot_list_append PySem.F.type_list_append se (fF hN hv hd hcd) (cA h eH hs) rfl hfew hline hs rfl)) λE σ H ⟨HF,ρ,o,S,hg,q⟩=>by
  let⟨⟨d,ρ'⟩,h1,hg⟩:=bs hg;let⟨ds,es,h2,h3,rfl⟩:=j6 hg;have hown:∃ds',ρ[i]?=some (.own ds'):=by
   let⟨d1,_,h1⟩:=bs h1;split at h1
   ·cases h1;exact⟨ds,h2⟩
   ·let⟨d2,_,h1⟩:=af h1;cases h1;rw[gS] at h2;let⟨s,hs,h2⟩:=af h2;cases s with
    | non=>split at h2<;>cases h2
    | dic _=>split at h2<;>cases h2
    | tab _=>split at h2<;>cases h2
    | val _=>split at h2<;>cases h2
    | own xs=>exact⟨xs,hs⟩
  let⟨ds',hown⟩:=hown;let⟨a,vs,e1,e2,e3,e5,e4⟩:=S.own i ds' hown;refine⟨.ref a,e1,.inl ⟨rfl,vs,gH.of e2⟩,m8 S h1 λv H' HF' s1 S' sh r=>?_⟩;let⟨a',vs',f1,f2,f3,f5,f4⟩:=S'.own i ds h2;rw[e1] at f1;cases f1;split at h3
  ·rename_i hz;cases h3;exact⟨a,vs',v,rfl,rfl,f2,by rw[f4.length];exact hz,q σ _ HF' (S'.mut h2 e1 f2 (f4.append (au.cons r au.nil))) s1⟩
  ·cases h3
def td(K:W.Frag)(o:Obj):Option (Addr×Str):=match o.data with
 | .func fd=>if iV.contains fd.qualname=true then (match fd.code with
   | .ref c=>(match K.lookup c with
    | some ⟨_,_,.fields vs,_⟩=>(match (vs[11]?:Option Value) with
     | some (.ref P)=>if W.codeHdIn K c P=true then some (P,fd.qualname++".<locals>."++"<lambda>") else none
     | _=>none)
    | _=>none)
   | _=>none) else none
 | _=>none
def gD(K:W.Frag):List (Addr×Str):=K.filterMap λp=>td K p.2
def mr(K:W.Frag)(ts:List Addr):Bool:=(gD K).all λp=>ts.contains p.1&&(K.lookup p.1).isNone&&decide ((gD K).lookup p.1=some p.2)
def v5{K:W.Frag}(h:td K o=some (P,q)):∃c,W.codeHdIn K c P=true:=by
 unfold td at h;split at h
 ·split at h
  ·split at h
   ·split at h
    ·split at h
     ·split at h
      ·cases h;exact⟨_,‹_›⟩
      ·cases h
     ·cases h
    ·cases h
   ·cases h
  ·cases h
 ·cases h
def vh{K:W.Frag}(h:(P,q)∈gD K):∃c,W.codeHdIn K c P=true:=by
 let⟨p,_,e⟩:=List.mem_filterMap.mp h;exact v5 e
def Ax{K:W.Frag}(a:K.lookup f=some ⟨oc,od,.func fd,sl⟩)(b:fd.qualname∈iV)(d:fd.code=.ref c)(e:W.codeHdIn K c P=true) :
  (P,fd.qualname++".<locals>."++"<lambda>")∈gD K:=by
 refine List.mem_filterMap.mpr ⟨(f,_),W.mem_of_lookupK a,?_⟩;have e':=e;unfold W.codeHdIn at e';unfold td;simp?[d,List.contains_iff_mem,b,xH];split at e'
 ·rename_i vs sl' hl;simp?[hl];simp?[zF] at e';have e1:=e'.1.1.1.1.1;split at e1
  ·rename_i P' hv;have:P'=P:=by simpa using e1
   subst this;simp?[hv,e,xH]
  ·cases e1
 ·cases e'
def DV:∀ {l:List (Addr×α)},l.lookup b=some q->(b,q)∈l
 | [],e=>by cases e
 | (c,x)::r,e=>by
  rw[yB] at e;cases h:b == c with
  | true=>rw[h] at e;cases e;rw[eq_of_beq h];exact zE
  | false=>rw[h] at e;exact zC _ (DV e)
def d7(K:W.Frag)(h0:Hp):Hp:=λb=>match (gD K).lookup b with|some q=>some (.tab q)|none=>h0 b
def Cw{K:W.Frag}(h:mr K ts=true):fH K (d7 K h0):=λf oc od fd sl c P a b d e=>by
 have hm:=Ax a b d e;have:=List.all_eq_true.mp h _ hm;simp?[zF,zJ] at this;unfold d7;rw[this.2]
def Cs{w:World}{K:W.Frag}{CX:Ks}{k:Nat}{fa:Addr}{fd:FuncData}{sp:Sp}{vs:List Value}{ns:List Int}
  (KX:K.In s₁.heap) (hns:s₁.heap.Ns mainGlobals mg) (hb:s₁.heap.Ns builtinsNs mb) (hbb:∀x:Str,x≠"__name__"->mb x=bootBuiltins x) (hlim:s₁.heap.NoLimit) (hbm:Pu mg s₁.heap) (hg:s₁.gens=#[])
  (ht:mr K ts=true) (hts:∀P∈ts,s₁.heap.get? P=some (W.tabObj #[]))
  (ha:s₁.heap.get? a=some { cls:=.type "list",data:=.seq vs.toArray }) (hi:IntsAre vs ns) (hl:ns.length<=sizeLine) (hr:eF k callerA)
  (F:∀base:Heap,K.In base->base.Ns mainGlobals mg->pq P w K mg base CX k fa fd [x] sp) (hbind:∀ (s:Shared) (u:Value),BindsTo s fd ⟨[u],[]⟩ [(x,u)])
  (hsp:∀H:Hp,fH K H->gH K H a (ns.map V.int)->sp [.ref a] H (λv _=>v=.bl true) λ_ _ _=>False)
  (hCX:∀H e s',CX [] H s₁ (λ_ _ _=>False) e s'->False) :
  codeAny (model P w) callerA (.call (.ref fa) ⟨[.ref a],[]⟩) (λr s'=>r=.ok (.ret (.bool true))/\OldK s₁.heap s'.heap/\s'.os=s₁.os/\AllBare s'.gens) s₁:=by
 have rv:=rz hi;have lenV:=hi.length;have tabAt:∀b q,(gD K).lookup b=some q->s₁.heap.get? b=some (W.tabObj #[])/\K.lookup b=none/\∃c,W.CodeHd s₁.heap c b:=λb q e=>by
  have hm:=DV e;have:=List.all_eq_true.mp ht _ hm;simp?[zF,zJ,List.contains_iff_mem,Option.isNone_iff_eq_none] at this;let⟨c,hc⟩:=vh hm;exact⟨hts b this.1.1,this.1.2,c,W.codeHd_of_K KX hc⟩
 have aT:(gD K).lookup a=none:=by
  cases e:(gD K).lookup a with
  | none=>rfl
  | some q=>have:=(tabAt a q e).1;rw[ha] at this;cases this
 have core:∀h0:Hp,gH K (d7 K h0) a (ns.map V.int)->oz P w (d7 K h0) s₁.heap->(∀b,h0 b≠none->b=a)->(h0 a≠none->K.lookup a=none)->(∀b,h0 b=none\/∃o xs,h0 b=some (.frz o (.lst xs))) ->
   codeAny (model P w) callerA (.call (.ref fa) ⟨[.ref a],[]⟩) (λr s'=>r=.ok (.ret (.bool true))/\OldK s₁.heap s'.heap/\s'.os=s₁.os/\AllBare s'.gens) s₁:=by
  intro h0 hS hok hA hK hO;have look:∀b u,d7 K h0 b=some u->(∃q,(gD K).lookup b=some q/\u=.tab q)\/(b=a/\h0 b=some u):=λb u e=>by
   unfold d7 at e;split at e
   ·rename_i q hq;cases e;exact .inl ⟨q,hq,rfl⟩
   ·exact .inr ⟨hA b (by rw[e];simp),e⟩
  have gf:∀ {b:Addr}{o:Obj},s₁.heap.get? b=some o->d7 K h0 b=none->(uh s₁.heap (d7 K h0)).get? b=some o:=λe n=>FB e n;have noA:∀ {b:Addr}{o:Obj},s₁.heap.get? b=some o->(∀vs n,o.data≠.seq vs n)->(∀vs,o.data≠.fields vs)->d7 K h0 b=none:=λ{b o} e d d2=>by
   cases q:d7 K h0 b with
   | none=>rfl
   | some u =>
    rcases look b u q with ⟨q',z,_⟩|⟨z,_⟩
    ·rw[(tabAt b q' z).1] at e;cases e;exact absurd rfl (d2 _)
    ·subst z;rw[ha] at e;cases e;exact absurd rfl (d _ _)
  have nsK:∀ {b:Addr}{m:Str->Option Value},s₁.heap.Ns b m->(uh s₁.heap (d7 K h0)).Ns b m:=λ{b m} ⟨o,es,ep,e,d,r⟩=>⟨o,es,ep,gf e (noA e (λ_ _ z=>by rw[d] at z;cases z) λ_ z=>by rw[d] at z;cases z),d,r⟩
  have hKb:K.In (uh s₁.heap (d7 K h0)):=λb o e=>gf (KX b o e) (by
   cases q:d7 K h0 b with
   | none=>rfl
   | some u =>
    rcases look b u q with ⟨q',z,_⟩|⟨z,z2⟩
    ·rw[(tabAt b q' z).2.1] at e;cases e
    ·subst z;rw[hK (by rw[z2];simp)] at e;cases e)
  have hM:Mod K mg (uh s₁.heap (d7 K h0)):=⟨hKb,nsK hns,⟨mb,nsK hb,hbb⟩,let ⟨mc,h1,h2⟩:=hlim;⟨mc,nsK h1,h2⟩,
   let ⟨bm,o,b1,b2,b3,b4,b5,b6,b7⟩:=hbm;⟨bm,o,b1,b2,b3,gf b4 (noA b4 (λ_ _ z=>by rw[b7] at z;cases z) λ_ z=>by rw[b7] at z;cases z),b5,b6,b7⟩⟩
  have e0:IG P w K mg (uh s₁.heap (d7 K h0)) callerA [] s₁ (d7 K h0):=⟨rfl,hM,λb o e=>Kl e,Nat.le_of_eq (Co _ _),trivial,λb hb=>absurd (show b∈([]:List Addr) from hb) (by simp),hok,.of_eq hg⟩
  refine jR ((F _ hKb (nsK hns)).run callerA [] s₁ (d7 K h0) ⟨[.ref a],[]⟩ [.ref a] [.ref a] _ _ hr e0 (hbind s₁ (.ref a)) (.cons rfl .nil) (hsp _ (Cw ht) hS)) λr s' h=>?_;cases r with
  | error e=>exact (hCX _ e s' h).elim
  | ok fl =>
   cases fl with
   | next=>exact False.elim h
   | brk=>exact False.elim h
   | cont=>exact False.elim h
   | ret u =>
    let⟨v,H',os,bare,un,hok',r',q⟩:=h;have q':v=.bl true:=q;subst q';obtain rfl:u=Value.bool true:=r';have key:∀b o,s₁.heap.get? b=some o->s'.heap.get? b=some o\/(isCodeTable s₁.heap b/\o=W.tabObj #[]/\∃ps,s'.heap.get? b=some (W.tabObj ps)):=λb o e=>by
     cases q:d7 K h0 b with
     | none=>exact .inl (un.keep b o e q (by intro z;exact absurd (show b∈([]:List Addr) from z) (by simp)) (by simp))
     | some u =>
      rcases look b u q with ⟨q',z,rfl⟩|⟨z,z2⟩
      ·let⟨t1,_,c,t3⟩:=tabAt b q' z;let⟨more,m1⟩:=un.tbls.gr b q' #[] q t1;rw[e] at t1;cases t1;exact .inr ⟨(t3.tab e).isCodeTable,rfl,_,m1⟩
      ·rcases hO b with z3|⟨ob,xs,z3⟩
       ·rw[z2] at z3;cases z3
       ·rw[z2] at z3;cases z3;have z4:=un.frzs b ob _ q;let⟨e1,_⟩:=hok b _ q;let⟨e2,_⟩:=hok' b _ z4;rw[e] at e1;cases e1;exact .inl e2
    refine⟨rfl,⟨λb o e=>?_,λb o e=>?_⟩,os,bare⟩
    ·rcases key b o e with z|⟨t,rfl,ps,z⟩
     ·exact .inl z
     ·exact .inr (.inl ⟨t,rfl,#[],ps,rfl,by rw[Array.empty_append];exact z⟩)
    ·rcases key b o e with z|⟨_,_,ps,z⟩
     ·exact⟨o,z⟩
     ·exact⟨_,z⟩
 have hoT:∀ (h0:Hp) b q,(gD K).lookup b=some q->c7 P w (d7 K h0) s₁.heap b (.tab q):=λh0 b q e=>⟨#[],(tabAt b q e).1,trivial,λpos v z=>by cases z⟩
 cases hk:K.lookup a with
 | some o =>
  have e:=KX a o hk;rw[ha] at e;cases e;refine core (λ_=>none) (.inr ⟨_,vs.toArray,_,hk,rfl,rfl,rfl,by rw[zH,lenV];exact hl,by simpa using rv⟩) (λb u z=>?_) (λb z=>absurd rfl z) (λz=>absurd rfl z) λ_=>.inl rfl;unfold d7 at z;split at z
  ·rename_i q hq;cases z;exact hoT _ b q hq
  ·cases z
 | none =>
  refine core (λb=>if b=a then some (.frz { cls:=.type "list",data:=.seq vs.toArray } (.lst (ns.map V.int))) else none) (.inl (.inr ⟨{ cls:=.type "list",data:=.seq vs.toArray },?_⟩)) (λb u z=>?_) (λb z=>?_) (λ_=>hk) λb=>?_
  ·unfold d7;rw[aT];exact yL rfl
  ·unfold d7 at z;split at z
   ·rename_i q hq;cases z;exact hoT _ b q hq
   ·by_cases hb:b=a
    ·replace z:=(yL hb).symm.trans z;cases z;subst hb;exact⟨ha,by rw[zD];exact hl,vs,_,rv,ha⟩
    ·replace z:=(yN hb).symm.trans z;cases z
  ·by_cases hb:b=a
   ·exact hb
   ·exact absurd (yN hb) z
  ·by_cases hb:b=a
   ·exact .inr ⟨_,_,yL hb⟩
   ·exact .inl (yN hb)
def F5{l:W.OpenLaw}{n k:Nat}{q:Program}{loose:List Str}{XP:(Str->Option Value)->Heap->Prop}{YP:World->Heap->Prop}{d:DefRec}{K:Params->W.Frag}{CX:World->Ks}{sp:World->Sp}{x:Str}{ts:List Addr}
  (hn:l.most=some n) (hn2:n<=sizeLine) (hdf:d.params.defaults=[]) (hr:eF k callerA)
  (hY:∀ (w:World) (h:Heap),YP w h->(K w.params).In h/\∀P∈ts,h.get? P=some (W.tabObj #[])) (ht:∀w:World,mr (K w.params) ts=true)
  (F:∀ (w:World) (mg:Str->Option Value) (fa:Addr) (h:Heap),(K w.params).In h->h.Ns mainGlobals mg->mg d.name=some (.ref fa) ->
   ∃fd:FuncData,(∀ (s:Shared) (u:Value),BindsTo s fd ⟨[u],[]⟩ [(x,u)]) /\
    ∀base:Heap,(K w.params).In base->base.Ns mainGlobals mg->pq l.prog w (K w.params) mg base (CX w) k fa fd [x] (sp w))
  (hsp:∀ (w:World) (H:Hp) (a:Addr) (ns:List Int),ns.length<=n->fH (K w.params) H->gH (K w.params) H a (ns.map V.int)->sp w [.ref a] H (λv _=>v=.bl true) λ_ _ _=>False)
  (hCX:∀ (w:World) (H:Hp) (s:Shared) (e:Value) (s':Shared),CX w [] H s (λ_ _ _=>False) e s'->False) :
  W.WalkO q loose XP YP l.row.toRowW d [] (λf vs=>PySem.call f vs):=by
 refine Att.attach_call hn hdf λw s₀ s₁ mg mb fa o pm cd doc a vs ns G Y ho hd hcd hmg hobj hints hlen hg=>?_;let⟨KX,hts⟩:=hY w _ Y;let⟨fd,hb,hF⟩:=F w mg fa _ KX G.T.g hmg;have hbm:Pu mg s₁.heap:=by
  let⟨bm,ob,b1,b2,b3,b4,b5,b6⟩:=G.T.bmain;refine⟨bm,ob,b1,b2,λz=>?_,b3,b4,b5,b6⟩;let⟨o',es,ep,e1,e2,_⟩:=G.T.g;rw[<- z,b3] at e1;cases e1;rw[b6] at e2;cases e2
 exact Cs KX G.T.g G.T.b G.T.builtins G.T.nolimit hbm hg (ht w) hts hobj hints (yD hlen hn2) hr hF hb (λH hT hS=>hsp w H a ns hlen hT hS) λH e s'=>hCX w H s₁ e s'
end Dl
namespace SP
open PySem PySem.W PyProof.Rows
def run(lt:Nat->Nat->Bool):KasT α->α
 | .ret a=>a
 | .ask i j k=>run lt (k (lt i j))
def gL(lt:Nat->Nat->Bool)(f:α->KasT β):∀t:KasT α,run lt (t.bind f)=run lt (f (run lt t))
 | .ret a=>rfl
 | .ask i j k=>by
  show run lt ((k (lt i j)).bind f)=run lt (f (run lt (k (lt i j))));exact gL lt f (k (lt i j))
def NR(n:Nat):KasT α->Prop
 | .ret _=>True
 | .ask i j k=>i < n/\j < n/\∀b,NR n (k b)
def wp_run(hc:∀i j C,i < n->j < n->C (lt i j) s->cmp i j C s):∀ (t:KasT α) {Q:α->Shared->Prop},NR n t->Q (run lt t) s->t.kasWp cmp Q s
 | .ret a,Q,_,h=>h
 | .ask i j k,Q,b,h=>hc i j _ b.1 b.2.1 (wp_run hc (k (lt i j)) (b.2.2 _) h)
def oX(n:Nat)(R:α->Prop):KasT α->Prop
 | .ret a=>R a
 | .ask i j k=>i < n/\j < n/\∀b,oX n R (k b)
def mJ:∀ {t:KasT α},oX n R t->(∀a,R a->NR n (f a))->NR n (t.bind f)
 | .ret a,b,h=>h a b
 | .ask i j k,b,h=>⟨b.1,b.2.1,λc=>mJ (b.2.2 c) h⟩
def iq:∀ {t:KasT α},oX n R t->(∀a,R a->oX n S (f a))->oX n S (t.bind f)
 | .ret a,b,h=>h a b
 | .ask i j k,b,h=>⟨b.1,b.2.1,λc=>iq (b.2.2 c) h⟩
def Bd(n:Nat)(p:Array Nat):Prop:=∀a,p.getD a 0 < n
def Bd.perm(h:Bd n p)(e:q.Perm p):Bd n q:=by
 intro a;rw[qD];cases ha:q[a]? with
 | none=>have:=h p.size;rw[qD] at this;simpa using this
 | some x =>
  have hx:x∈q:=Array.mem_of_getElem? ha;have hx':x∈p:=e.mem_iff.mp hx;let⟨i,hi,rfl⟩:=Array.mem_iff_getElem.mp hx';have:=h i;rw[qD] at this;simpa [hi] using this
def Fm(h:Bd n p):∀f m,oX n (λ_=>True) (kas_asc p f m)
 | 0,m=>trivial
 | f+1,m=>⟨h _,h _,λc=>by
  dsimp only;split
  ·trivial
  ·exact Fm h f (m+1)⟩
def vb(h:Bd n p)(i j:Nat):Bd n (kas_rev p i j):=h.perm (mirror_perm _ _ _ _)
def uP:∀ (f:Nat) {p:Array Nat}(h:Bd n p) (m q:Nat),oX n (λr=>Bd n r.1) (kas_desc f p m q)
 | 0,p,h,m,q=>h
 | f+1,p,h,m,q=>⟨h _,h _,λc=>by
  dsimp only;split
  ·split
   ·exact uP f (vb h _ _) (m+1) 0
   ·exact uP f h (m+1) 0
  ·exact⟨h _,h _,λd=>by
    dsimp only;split
    ·exact h
    ·exact uP f h (m+1) (q+1)⟩⟩
def Cb(h:Bd n p)(m nrem:Nat):oX n (λr=>Bd n r.2) (kas_tail3 m nrem p):=iq (Fm (vb h 0 m) _ _) λ_ _=>vb h 0 m
def oT(h:Bd n p)(m nrem:Nat):oX n (λr=>Bd n r.2) (kas_descPart m nrem p):=iq (uP _ h _ _) λr hr=>by
 split
 ·exact Cb (vb hr _ _) _ _
 ·exact Cb hr _ _
def JK(h:Bd n p)(nrem:Nat):oX n (λr=>Bd n r.2) (kas_count nrem p):=iq (Fm h _ _) λm _=>by
 split
 ·exact h
 ·split
  ·exact⟨h _,h _,λc=>by
    dsimp only;split
    ·exact h
    ·exact oT (vb h _ _) _ _⟩
  ·exact oT h _ _
def tj(h:Bd n p)(k:Nat):∀f l r,oX n (λ_=>True) (kas_place p k f l r)
 | 0,l,r=>trivial
 | f+1,l,r=>by
  unfold kas_place;split
  ·trivial
  ·exact⟨h _,h _,λc=>by
    dsimp only;split
    ·exact tj h k f _ _
    ·exact tj h k f _ _⟩
def KL:∀ (f:Nat) {p:Array Nat}(h:Bd n p) (k:Nat),NR n (kas_bin f p k)
 | 0,p,h,k=>trivial
 | f+1,p,h,k=>mJ (tj h k _ _ _) λl _=>KL f (h.perm (bubble_perm _ _ _)) (k+1)
def EC(h1:1<=n):NR n (kas_sort n):=by
 have h:Bd n (List.toArray (List.range n)):=λa=>by
  rw[qD];by_cases ha:a < n
  ·simp[ha]
  ·simp[ha];lia
 refine mJ (JK h n) λr hr=>?_;split
 ·exact KL _ hr _
 ·trivial
section
variable (z:Nat->Int)
def Z(p:Array Nat)(a:Nat):Int:=z (p.getD a 0)
def dH:Nat->Nat->Bool:=λi j=>decide (z i < z j)
def l7(h:p[a]?=q[b]?):Z z p a=Z z q b:=by
 unfold Z;rw[qD,qD,h]
def Fc(hj:j<=p.size)(k:Nat):Z z (kas_rev p i j) k=if i<=k/\k < j then Z z p (i+j - 1 - k) else Z z p k:=by
 have e:=getElem?_mirror_all (xs:=p) (i:=i) hj k;unfold kas_rev;by_cases h1:i<=k/\k < j
 ·rw[yL h1] at e ⊢;exact l7 z e
 ·rw[yN h1] at e ⊢;exact l7 z e
def EZ(hs:src < p.size)(hd:d<=src)(k:Nat):Z z (bubble p src d) k=if k=src - d then Z z p src else if src - d < k/\k<=src then Z z p (k - 1) else Z z p k:=by
 have e:=getElem?_bubble hs d hd k;by_cases h1:k=src - d
 ·rw[yL h1] at e ⊢;exact l7 z e
 ·rw[yN h1] at e ⊢;by_cases h2:src - d < k/\k<=src
  ·rw[yL h2] at e ⊢;exact l7 z e
  ·rw[yN h2] at e ⊢;exact l7 z e
def Up(p:Array Nat)(n:Nat):Prop:=∀a b,a<=b->b < n->Z z p a<=Z z p b
def Dn(p:Array Nat)(n:Nat):Prop:=∀a b,a<=b->b < n->Z z p b<=Z z p a
variable {z}
def HE(h:Up z p n)(hn:1<=n)(h1:Z z p (n - 1)<=Z z p n):Up z p (n+1):=by
 intro a b hab hb;by_cases hbn:b < n
 ·exact h a b hab hbn
 ·have e:b=n:=by lia
  subst e;by_cases ha:a=b
  ·subst ha;exact xZ _
  ·exact jT (h a (b - 1) (by lia) (by lia)) h1
def P2:∀ (f n:Nat),1<=n->Up z p n->n<=run (dH z) (kas_asc p f n)/\run (dH z) (kas_asc p f n)<=n+f/\Up z p (run (dH z) (kas_asc p f n))/\(run (dH z) (kas_asc p f n) < n+f->Z z p (run (dH z) (kas_asc p f n)) < Z z p (run (dH z) (kas_asc p f n) - 1))
 | 0,n,hn,h=>⟨yM _,yM _,h,λq=>absurd q (qE _)⟩
 | f+1,n,hn,h=>by
  unfold kas_asc;show n<=run (dH z) (if dH z (p.getD n 0) (p.getD (n - 1) 0)=true then .ret n else kas_asc p f (n+1))/\run (dH z) (if dH z (p.getD n 0) (p.getD (n - 1) 0)=true then .ret n else kas_asc p f (n+1))<=n+(f+1)/\Up z p (run (dH z) (if dH z (p.getD n 0) (p.getD (n - 1) 0)=true then .ret n else kas_asc p f (n+1)))/\(run (dH z) (if dH z (p.getD n 0) (p.getD (n - 1) 0)=true then .ret n else kas_asc p f (n+1)) < n+(f+1)->Z z p (run (dH z) (if dH z (p.getD n 0) (p.getD (n - 1) 0)=true then .ret n else kas_asc p f (n+1))) < Z z p (run (dH z) (if dH z (p.getD n 0) (p.getD (n - 1) 0)=true then .ret n else kas_asc p f (n+1)) - 1))
  by_cases hc:dH z (p.getD n 0) (p.getD (n - 1) 0)=true
  ·rw[yL hc];exact⟨yM _,jU _ _,h,λ_=>yQ hc⟩
  ·rw[yN hc];have h1:Z z p (n - 1)<=Z z p n:=by
    have:¬ (Z z p n < Z z p (n - 1)):=λq=>hc (yA q);lia
   let⟨a,b,c,d⟩:=P2 f (n+1) (by lia) (HE h hn h1);exact⟨by lia,by lia,c,λq=>d (by lia)⟩
def zz(hj:j<=p.size)(h:∀a b,i<=a->a < j->i<=b->b < j->Z z p a=Z z p b)(k:Nat):Z z (kas_rev p i j) k=Z z p k:=by
 rw[Fc z hj];split
 ·rename_i hk;exact h _ _ (by lia) (by lia) hk.1 hk.2
 ·rfl
def Fn(e:∀k,Z z q k=Z z p k)(h:Dn z p n):Dn z q n:=λa b hab hb=>by rw[e,e];exact h a b hab hb
def MS(hn:n<=p.size)(h:Dn z p n):Up z (kas_rev p 0 n) n:=by
 intro a b hab hb;rw[Fc z hn,Fc z hn,yL ⟨xV _,by lia⟩,yL ⟨xV _,hb⟩];exact h _ _ (by lia) (by lia)
def lY(p:Array Nat)(i j:Nat):(kas_rev p i j).size=p.size:=mirror_size _ _ _ _
def mD(p:Array Nat)(i j:Nat):(kas_rev p i j).Perm p:=mirror_perm _ _ _ _
structure L6(z:Nat->Int)(p₀ p:Array Nat)(n q nrem:Nat):Prop where
 perm:p.Perm p₀
 size:p.size=p₀.size
 le:n<=nrem
 qn:q+1<=n
 dn:Dn z p n
 eq:∀a b,n - (q+1)<=a->a < n->n - (q+1)<=b->b < n->Z z p a=Z z p b
def HX(hz:nrem<=p₀.size):∀ (f:Nat) (p:Array Nat) (n q:Nat),n+f<=nrem->L6 z p₀ p n q nrem ->
  let r:=run (dH z) (kas_desc f p n q);L6 z p₀ r.1 r.2.1 r.2.2 nrem
 | 0,p,n,q,hn,h=>h
 | f+1,p,n,q,hn,h=>by
  intro r;have hr:r=run (dH z) (if dH z (p.getD n 0) (p.getD (n - 1) 0)=true then (if q > 0 then kas_desc f (kas_rev p (n - (q+1)) n) (n+1) 0 else kas_desc f p (n+1) 0)
   else .ask (p.getD (n - 1) 0) (p.getD n 0) λd=>if d=true then .ret (p,n,q) else kas_desc f p (n+1) (q+1)):=rfl
  have hq:=h.qn;by_cases hc:dH z (p.getD n 0) (p.getD (n - 1) 0)=true
  ·rw[yL hc] at hr;have hlt:Z z p n < Z z p (n - 1):=yQ hc;have step:∀p':Array Nat,p'.Perm p₀->p'.size=p₀.size->(∀k,Z z p' k=Z z p k)->L6 z p₀ p' (n+1) 0 nrem:=λp' a1 a2 a3=>by
    refine⟨a1,a2,by lia,by lia,λa b hab hb=>?_,λa b h1 h2 h3 h4=>by rw[show a=b by lia]⟩;rw[a3,a3];by_cases hbn:b < n
    ·exact h.dn a b hab hbn
    ·have e:b=n:=by lia
     subst e;by_cases ha:a=b
     ·subst ha;exact xZ _
     ·exact jT (Int.le_of_lt hlt) (h.dn a (b - 1) (by lia) (by lia))
   by_cases hq0:q > 0
   ·rw[yL hq0] at hr;rw[hr];exact HX hz f _ (n+1) 0 (by lia) (step _ ((mD _ _ _).trans h.perm) (by rw[lY,h.size]) (zz (by rw[h.size];lia) h.eq))
   ·rw[yN hq0] at hr;rw[hr];exact HX hz f p (n+1) 0 (by lia) (step p h.perm h.size λ_=>rfl)
  ·rw[yN hc] at hr;have hge:Z z p (n - 1)<=Z z p n:=by
    have:¬ (Z z p n < Z z p (n - 1)):=λq=>hc (yA q);lia
   have hr':r=run (dH z) (if dH z (p.getD (n - 1) 0) (p.getD n 0)=true then .ret (p,n,q) else kas_desc f p (n+1) (q+1)):=hr;by_cases hd:dH z (p.getD (n - 1) 0) (p.getD n 0)=true
   ·rw[yL hd] at hr';rw[hr'];exact h
   ·rw[yN hd] at hr';rw[hr'];have heq:Z z p n=Z z p (n - 1):=by
     have:¬ (Z z p (n - 1) < Z z p n):=λq=>hd (yA q);lia
    refine HX hz f p (n+1) (q+1) (by lia) ⟨h.perm,h.size,by lia,by lia,λa b hab hb=>?_,λa b h1 h2 h3 h4=>?_⟩
    ·by_cases hbn:b < n
     ·exact h.dn a b hab hbn
     ·have e:b=n:=by lia
      subst e;by_cases ha:a=b
      ·subst ha;exact xZ _
      ·rw[heq];exact h.dn a (b - 1) (by lia) (by lia)
    ·have key:∀c,n+1 - (q+1+1)<=c->c < n+1->Z z p c=Z z p (n - 1):=λc c1 c2=>by
      by_cases hcn:c < n
      ·exact h.eq c (n - 1) (by lia) hcn (by lia) (by lia)
      ·have e:c=n:=by lia
       subst e;exact heq
     rw[key a h1 h2,key b h3 h4]
structure Pj(z:Nat->Int)(p₀:Array Nat)(nrem:Nat)(r:Nat×Array Nat):Prop where
 perm:r.2.Perm p₀
 size:r.2.size=p₀.size
 ge:1<=r.1
 le:r.1<=nrem
 up:Up z r.2 r.1
def tail3(hz:nrem<=p₀.size)(h1:1<=n)(hn:n<=nrem)(hp:p.Perm p₀)(hs:p.size=p₀.size)(hd:Dn z p n):Pj z p₀ nrem (run (dH z) (kas_tail3 n nrem p)):=by
 unfold kas_tail3;rw[gL];let⟨a,b,c,_⟩:=P2 (nrem - n) n h1 (MS (by lia) hd);exact⟨(mD _ _ _).trans hp,by show (kas_rev p 0 n).size=_;rw[lY,hs],by show 1<=run _ (kas_asc _ _ _);lia,by show run _ (kas_asc _ _ _)<=nrem;lia,c⟩
def descPart(hz:nrem<=p₀.size)(h1:1<=n)(hn:n < nrem)(hp:p.Perm p₀)(hs:p.size=p₀.size)(hd:Dn z p n)(hlt:Z z p n<=Z z p (n - 1)):Pj z p₀ nrem (run (dH z) (kas_descPart n nrem p)):=by
 unfold kas_descPart;rw[gL];have D:=HX (z:=z) hz (nrem - (n+1)) p (n+1) 0 (by lia) ⟨hp,hs,by lia,by lia,λa b hab hb=>by
  by_cases hbn:b < n
  ·exact hd a b hab hbn
  ·have e:b=n:=by lia
   subst e;by_cases ha:a=b
   ·subst ha;exact xZ _
   ·exact jT hlt (hd a (b - 1) (by lia) (by lia)),λa b h1 h2 h3 h4=>by rw[show a=b by lia]⟩
 dsimp only at D;generalize run (dH z) (kas_desc (nrem - (n+1)) p (n+1) 0)=r at D;have hq:=D.qn;split
 ·exact tail3 hz (by lia) D.le ((mD _ _ _).trans D.perm) (by rw[lY,D.size]) (Fn (zz (by have:=D.size;have:=D.le;lia) D.eq) D.dn)
 ·exact tail3 hz (by lia) D.le D.perm D.size D.dn
def count(hz:nrem<=p.size)(h1:1<=nrem):Pj z p nrem (run (dH z) (kas_count nrem p)):=by
 unfold kas_count;rw[gL];let⟨a,b,c,d⟩:=P2 (z:=z) (p:=p) (nrem - 1) 1 (yM _) (λx y hxy hy=>by rw[show x=y by lia];exact xZ _);generalize run (dH z) (kas_asc p (nrem - 1) 1)=n at a b c d;split
 ·exact⟨Array.Perm.refl _,rfl,a,by show n<=nrem;lia,c⟩
 ·rename_i hne;have hlt:n < nrem:=by
   have:n≠nrem:=λe=>hne (by simp[e]);lia
  have hd:=d (by lia);split
  ·rename_i hn1;show Pj z p nrem (run (dH z) (if dH z (p.getD 0 0) (p.getD (n - 1) 0)=true then .ret (n,p) else kas_descPart n nrem (kas_rev p 0 n)));by_cases hc:dH z (p.getD 0 0) (p.getD (n - 1) 0)=true
   ·rw[yL hc];exact⟨Array.Perm.refl _,rfl,a,by show n<=nrem;lia,c⟩
   ·rw[yN hc];have hge:Z z p (n - 1)<=Z z p 0:=by
     have:¬ (Z z p 0 < Z z p (n - 1)):=λq=>hc (yA q);lia
    have all:∀x,x < n->Z z p x=Z z p 0:=λx hx=>by
     have e1:=c 0 x (xV _) hx;have e2:=c x (n - 1) (by lia) (by lia);lia
    have same:=zz (z:=z) (p:=p) (i:=0) (j:=n) (by lia) λx y _ hx _ hy=>by rw[all x hx,all y hy]
    refine descPart hz (by lia) hlt (mD _ _ _) (by rw[lY]) (λx y hxy hy=>?_) ?_
    ·rw[same,same,all x (by lia),all y hy];exact xZ _
    ·rw[same,same];lia
  ·exact descPart hz (by lia) hlt (Array.Perm.refl _) rfl (λx y hxy hy=>by rw[show x=y by lia];exact xZ _) (by lia)
def place(hu:Up z p k):∀ (f l r:Nat),r - l<=f->l<=r->r<=k->(∀a,a < l->Z z p a<=Z z p k)->(∀a,r<=a->a < k->Z z p k<=Z z p a) ->
  let m:=run (dH z) (kas_place p k f l r);m<=k/\(∀a,a < m->Z z p a<=Z z p k)/\(∀a,m<=a->a < k->Z z p k<=Z z p a)
 | 0,l,r,hf,hl,hr,h1,h2=>by
  intro m;have e:l=r:=by lia
  subst e;exact⟨hr,h1,h2⟩
 | f+1,l,r,hf,hl,hr,h1,h2=>by
  intro m;have hm:m=run (dH z) (if l >= r then .ret l else .ask (p.getD k 0) (p.getD ((l+r) / 2) 0) λc=>if c=true then kas_place p k f l ((l+r) / 2) else kas_place p k f ((l+r) / 2+1) r):=rfl;by_cases hlr:l >= r
  ·rw[yL hlr] at hm;rw[hm];have e:l=r:=by lia
   subst e;exact⟨hr,h1,h2⟩
  ·rw[yN hlr] at hm;have hm':m=run (dH z) (if dH z (p.getD k 0) (p.getD ((l+r) / 2) 0)=true then kas_place p k f l ((l+r) / 2) else kas_place p k f ((l+r) / 2+1) r):=hm;by_cases hc:dH z (p.getD k 0) (p.getD ((l+r) / 2) 0)=true
   ·rw[yL hc] at hm';rw[hm'];have hlt:Z z p k < Z z p ((l+r) / 2):=yQ hc;exact place hu f l ((l+r) / 2) (by lia) (by lia) (by lia) h1 λa ha hak=>jT (Int.le_of_lt hlt) (hu _ a ha hak)
   ·rw[yN hc] at hm';rw[hm'];have hge:Z z p ((l+r) / 2)<=Z z p k:=by
     have:¬ (Z z p k < Z z p ((l+r) / 2)):=λq=>hc (yA q);lia
    exact place hu f ((l+r) / 2+1) r (by lia) (by lia) hr (λa ha=>jT (hu a ((l+r) / 2) (by lia) (by lia)) hge) h2
def bin:∀ (f:Nat) (p:Array Nat) (k:Nat),p.Perm p₀->p.size=p₀.size->k+f<=p₀.size->Up z p k ->
  (run (dH z) (kas_bin f p k)).Perm p₀/\(run (dH z) (kas_bin f p k)).size=p₀.size/\Up z (run (dH z) (kas_bin f p k)) (k+f)
 | 0,p,k,hp,hs,hk,hu=>⟨hp,hs,hu⟩
 | f+1,p,k,hp,hs,hk,hu=>by
  unfold kas_bin;rw[gL];have P:=place hu k 0 k (by lia) (by lia) (yM _) (λa ha=>absurd ha (vN _)) λa ha hak=>absurd ha (by lia);dsimp only at P;generalize run (dH z) (kas_place p k k 0 k)=l at P;let⟨p1,p2,p3⟩:=P;have zb:=EZ z (p:=p) (src:=k) (d:=k - l) (by lia) (by lia);have e:k - (k - l)=l:=by lia
  rw[e] at zb;let⟨q1,q2,q3⟩:=bin f (bubble p k (k - l)) (k+1) ((bubble_perm _ _ _).trans hp) (by rw[bubble_size,hs]) (by lia) λa b hab hb=>by
   rw[zb,zb];by_cases ha1:a=l
   ·rw[yL ha1];by_cases hb1:b=l
    ·rw[yL hb1];exact xZ _
    ·rw[yN hb1];rw[yL (by lia)];exact p3 _ (by lia) (by lia)
   ·rw[yN ha1];by_cases hb1:b=l
    ·rw[yL hb1,yN (by lia)];exact p2 a (by lia)
    ·rw[yN hb1];by_cases ha2:l < a/\a<=k
     ·rw[yL ha2,yL (by lia)];exact hu _ _ (by lia) (by lia)
     ·rw[yN ha2];by_cases hb2:l < b/\b<=k
      ·rw[yL hb2];exact hu _ _ (by lia) (by lia)
      ·rw[yN hb2];exact hu _ _ hab (by lia)
  exact⟨q1,q2,by rw[show k+(f+1)=k+1+f by lia];exact q3⟩
def f7(h1:1<=n):(run (dH z) (kas_sort n)).toList.Perm (List.range n)/\((run (dH z) (kas_sort n)).toList.map z).Pairwise (·<=·):=by
 have hsz:(List.toArray (List.range n)).size=n:=by simp
 have C:=count (z:=z) (p:=List.toArray (List.range n)) (nrem:=n) (by lia) h1;have fin:∀p:Array Nat,p.Perm (List.toArray (List.range n))->p.size=n->Up z p n->p.toList.Perm (List.range n)/\(p.toList.map z).Pairwise (·<=·):=λp a b c=>by
  refine⟨by have:=a.toList;simpa using this,?_⟩;rw[List.pairwise_iff_getElem];intro i j hi hj hij;have hi':i < n:=by simpa [b] using hi
  have hj':j < n:=by simpa [b] using hj
  have:=c i j (jS hij) hj';unfold Z at this;have e1:p.getD i 0=p[i]:=by simp[Array.getD,b,hi']
  have e2:p.getD j 0=p[j]:=by simp[Array.getD,b,hj']
  rw[e1,e2] at this;simpa using this
 unfold kas_sort;rw[gL];generalize run (dH z) (kas_count n (List.toArray (List.range n)))=r at C;let⟨k,p⟩:=r;have hs:=C.size;rw[hsz] at hs;split
 ·rename_i hlt;have hge:=C.ge;have e:max k 1=k:=by have:1<=k:=hge;lia
  rw[e];let⟨q1,q2,q3⟩:=bin (z:=z) (n - k) p k C.perm C.size (by rw[hsz];have:k < n:=hlt;lia) C.up;refine fin _ q1 (by rw[q2,hsz]) ?_;rw[show k+(n - k)=n by have:k < n:=hlt;lia] at q3;exact q3
 ·rename_i hnlt;have hle:=C.le;have e:k=n:=by have h3:k<=n:=hle;have h4:¬ k < n:=hnlt;lia
  subst e;exact fin p C.perm hs C.up
end
end SP
namespace Srt
open PySem PySem.W PySem.Calls PyProof.Rows
def outV(z:Nat->Int)(vs:List Value):List Value:=if vs.length < 2 then vs else (SP.run (SP.dH z) (kas_sort vs.length)).toList.map λi=>vs.getD i Value.none
def outV_len(z:Nat->Int)(vs:List Value):(outV z vs).length=vs.length:=by
 unfold outV;split
 ·rfl
 ·rename_i h;have:=(SP.f7 (z:=z) (n:=vs.length) (by lia)).1.length_eq;simpa using this
def list_sortG{P:PySem.Fin->Shared->Prop}(ho:s.heap.get? a=some (seqObj "list" vs.toArray n))(h64:vs.length < 64)(z:Nat->Int)(κ:SortKind)
  (hk:2<=vs.length->∀h':Heap,(∀b o,b≠a->s.heap.get? b=some o->h'.get? b=some o)->∀Q':SortKind->Shared->Prop,Q' κ { s with heap:=h' }->wpAny (model prog w) A (keyKind' vs.toArray) Q' (λ_ _=>False) { s with heap:=h' })
  (hlt:2<=vs.length->∀h':Heap,(∀b o,b≠a->s.heap.get? b=some o->h'.get? b=some o)->∀i j C,i < vs.length->j < vs.length->C (SP.dH z i j) { s with heap:=h' }->kas_ask prog w A κ vs i j C { s with heap:=h' })
  (h:∀ (h':Heap) (c:Nat),(∀b o,b≠a->s.heap.get? b=some o->h'.get? b=some o)->h'.get? a=some (seqObj "list" (outV z vs).toArray c)->P (.done (.ret .none)) { s with heap:=h' }) :
  wpAny (model prog w) A (Builtin.«list.sort» ⟨[.ref a],[]⟩) P E s:=by
 rw[list_sort_plain];have ha:a < s.heap.objs.size:=zY ho;have hsl:vs.length<=sizeLine:=by rw[qU];lia
 refine zV (vH ho rfl (zV (jZ ho rfl ?_ (by simpa using hsl) (xV _))));obtain⟨e1,ho1⟩:∃e,(s.heap.update a (Obj.mapSeq λ_=>(#[]:Array Value))).get? a=some (seqObj "list" #[] e):=⟨_,kA ho λ_=>#[]⟩
 have kp1:∀b o,b≠a->s.heap.get? b=some o->(s.heap.update a (Obj.mapSeq λ_=>(#[]:Array Value))).get? b=some o:=λb o hb e=>(xN _ _ (jM hb)).trans e;refine zV (seqEpoch_at ho1 rfl (zV (wpAny_newTuple ?_ (by simpa using hsl))));refine zV (kM (xX ?_) (xV _));have ho3:(((s.heap.update a (Obj.mapSeq λ_=>(#[]:Array Value))).push (seqObj "tuple" vs.toArray 0)).push (seqObj "list" #[] 0)).get? a=some (seqObj "list" #[] e1):=zU _ (zU _ ho1);have kp3:∀b o,b≠a->s.heap.get? b=some o->(((s.heap.update a (Obj.mapSeq λ_=>(#[]:Array Value))).push (seqObj "tuple" vs.toArray 0)).push (seqObj "list" #[] 0)).get? b=some o:=λb o hb e=>zU _ (zU _ (kp1 b o hb e));show wpAny _ A _ P E { s with heap:=((s.heap.update a (Obj.mapSeq λ_=>(#[]:Array Value))).push (seqObj "tuple" vs.toArray 0)).push (seqObj "list" #[] 0) };generalize ((s.heap.update a (Obj.mapSeq λ_=>(#[]:Array Value))).push (seqObj "tuple" vs.toArray 0)).push (seqObj "list" #[] 0)=h3 at ho3 kp3;clear ho1 kp1;dsimp only;have fin:∀st':SortSt,(arrOf st').map (·.2)=(outV z vs).toArray->failedOf st'=none ->
   wpAny (model prog w) A (do
    let sorted:=(arrOf st').map (·.2);let touched:=(<- seqEpoch a) != e1
    Builtin.List.listUpdate (.ref a) λ_=>sorted
    if let some e:=failedOf st' then rule "list.sort.comparison-raised";throw e
    if touched then rule "list.sort.modified";raiseError "ValueError" "list modified during sort"
    ret .none) P E { s with heap:=h3 }:=λst' h1 h2=>by
  dsimp only;rw[h1,h2];refine zV (seqEpoch_at ho3 rfl ?_);refine zV (jZ ho3 rfl ?_ (xV _) (by show (outV z vs).toArray.size<=_;rw[zH,outV_len];lia));obtain⟨c,hc⟩:∃c,(h3.update a (Obj.mapSeq λ_=>(outV z vs).toArray)).get? a=some (seqObj "list" (outV z vs).toArray c):=⟨_,kA ho3 λ_=>(outV z vs).toArray⟩
  have q:=h _ c (λb o hb e=>(xN _ _ (jM hb)).trans (kp3 b o hb e)) hc;simp?[bne_self_eq_false,yO,qP];exact zW q
 by_cases h2:vs.toArray.size < 2
 ·rw[yL h2,yL h2];refine zV (zW ?_);rw[StateT.run_pure];refine zV (zW (fin _ ?_ rfl));have h2':vs.length < 2:=by simpa using h2
  unfold outV;rw[yL h2'];show ((vs.toArray.zip vs.toArray).map (·.2))=vs.toArray;apply Array.toList_inj.mp;simp?[Array.toList_map,Array.toList_zip];exact List.map_snd_zip (yM _)
 ·rw[yN h2,yN h2];have h2':2<=vs.length:=by
   have:¬ vs.length < 2:=by simpa using h2
   lia
  refine zV (xA (hk h2' h3 kp3 (λκ' s'=>κ'=κ/\s'={ s with heap:=h3 }) ⟨rfl,rfl⟩) (λκ' s' hs=>?_) λ_ _ x=>x.elim);let⟨rfl,rfl⟩:=hs;refine zV (xA (kat_run (Q:=λst' s'=>s'={ s with heap:=h3 }/\(arrOf st').map (·.2)=(outV z vs).toArray/\failedOf st'=none) (G:=λp s'=>s'={ s with heap:=h3 }/\p=SP.run (SP.dH z) (kas_sort vs.length))
   rfl h2' h64 (λp st' s' a1 a2 a3 a4=>⟨a4.1,?_,a3⟩) (SP.wp_run (hlt h2' h3 kp3) (kas_sort vs.length) (SP.EC (by lia)) ⟨rfl,rfl⟩)) ?_ λ_ _ e=>e)
  ·rw[kat_snds rfl a2,a4.2];unfold outV;rw[yN (by lia)]
  ·rintro⟨⟨⟩,st'⟩ s' ⟨hs,h4,h5⟩;subst hs;exact fin st' h4 h5
def Coll(h:Heap)(l:Addr)(vs:List Value):Prop:=∃ (o:Obj) (T:String) (n:Nat),(T="list"\/T="tuple")/\h.get? l=some o/\o.cls=.type T/\o.data=.seq vs.toArray n
def collectC(hl:Coll s.heap l vs)
  (h:Q vs { s with heap:=(s.heap.push (seqObj "list" #[] 0)).update s.heap.objs.size (Obj.mapSeq (·++vs.toArray)) }) (hsz:vs.length<=sizeLine):wpAny (model prog w) A (collect (.ref l)) Q E s:=by
 let⟨o,T,n,hT,ho,hc,hd⟩:=hl;unfold collect;refine zV (wpAny_runValue (kC entry_proto_collect' ?_));show wpAny _ _ (do again (.builtin "list.__iadd__" ⟨[<- newList [],.ref l],[]⟩)) _ _ s;refine zV (kM (zW ⟨Code.quiet_builtin _ (by decide +kernel),kC entry_list_iadd' ?_⟩));show wpAny _ _ (Builtin.List.listExtendWith (.ref s.heap.objs.size) (.ref l) (.ref s.heap.objs.size)) _ _ { s with heap:=s.heap.push (seqObj "list" #[] 0) };unfold Builtin.List.listExtendWith;have ho':(s.heap.push (seqObj "list" #[] 0)).get? l=some o:=zU _ ho;refine zV (wC (T:=T) ⟨o,ho',hc⟩ ?_);rw[yL (by rcases hT with rfl|rfl<;>simp)];refine zV (vH ho' hd (zV (vH (xs:=#[]) (n:=0) (zX _ rfl) rfl ?_)));rw[yN (by simp)];refine zV (jZ (xs:=#[]) (n:=0) (zX _ rfl) rfl ?_ (xV _) (by show (#[]++vs.toArray).size<=sizeLine+1;simp?[Array.size_append,zH,xK];lia));refine zW ?_;refine zV (wpAny_load (kA (zX _ rfl) _) ?_);show wpAny _ _ (pure ((#[]:Array Value)++vs.toArray).toList) Q E _;rw[show ((#[]:Array Value)++vs.toArray).toList=vs by simp];exact zW h
def sortedG{s:Shared}{Q:Value->Shared->Prop}(hl:Coll s.heap l vs)(h64:vs.length < 64)(z:Nat->Int)(κ:SortKind)
  (hk:2<=vs.length->∀h':Heap,(∀b o,s.heap.get? b=some o->h'.get? b=some o)->∀Q':SortKind->Shared->Prop,Q' κ { s with heap:=h' }->wpAny (model prog w) A.in1.in1 (keyKind' vs.toArray) Q' (λ_ _=>False) { s with heap:=h' })
  (hlt:2<=vs.length->∀h':Heap,(∀b o,s.heap.get? b=some o->h'.get? b=some o)->∀i j C,i < vs.length->j < vs.length->C (SP.dH z i j) { s with heap:=h' }->kas_ask prog w A.in1.in1 κ vs i j C { s with heap:=h' })
  (h:∀ (h':Heap) (D:Addr) (c:Nat),(∀b o,s.heap.get? b=some o->h'.get? b=some o)->s.heap.objs.size<=D->h'.get? D=some (seqObj "list" (outV z vs).toArray c)->Q (.ref D) { s with heap:=h' }) :
  wpAny (model prog w) A (call (.builtin "sorted") [.ref l]) Q E s:=by
 have hsl:vs.length<=sizeLine:=by rw[qU];lia
 refine Calls.call_function_entry kind_sorted plain_sorted entry_sorted (args_sorted1 _) ?_;unfold Builtin.«sorted»;refine zV (m:=checkCount "sorted" 1 1 _) (zW (zV (collectC hl ?_ hsl)));refine zV (kM ?_ (by simpa using hsl));have hsz:((s.heap.push (seqObj "list" #[] 0)).update s.heap.objs.size (Obj.mapSeq (·++vs.toArray))).objs.size=s.heap.objs.size+1:=by rw[Heap.size_update,size_push']
 have kp:∀b o,s.heap.get? b=some o->(((s.heap.push (seqObj "list" #[] 0)).update s.heap.objs.size (Obj.mapSeq (·++vs.toArray))).push (seqObj "list" vs.toArray 0)).get? b=some o:=λb o e =>
  zU _ ((xN _ _ (jI (zY e))).trans (zU _ e))
 have hoD:(((s.heap.push (seqObj "list" #[] 0)).update s.heap.objs.size (Obj.mapSeq (·++vs.toArray))).push (seqObj "list" vs.toArray 0)).get? (s.heap.objs.size+1)=some (seqObj "list" vs.toArray 0):=by
  rw[<- hsz];exact zX _ rfl
 show wpAny _ _ _ _ _ { s with heap:=((s.heap.push (seqObj "list" #[] 0)).update s.heap.objs.size (Obj.mapSeq (·++vs.toArray))).push (seqObj "list" vs.toArray 0) };rw[hsz];generalize ((s.heap.push (seqObj "list" #[] 0)).update s.heap.objs.size (Obj.mapSeq (·++vs.toArray))).push (seqObj "list" vs.toArray 0)=h1 at kp hoD;have kk:∀h':Heap,(∀b o,b≠s.heap.objs.size+1->h1.get? b=some o->h'.get? b=some o)->∀b o,s.heap.get? b=some o->h'.get? b=some o:=λh' q b o e=>q b o (yR (jN (zY e))) (kp b o e);refine zV (xX (qV slot_list_sort ⟨_,hoD,rfl⟩ entry_list_sort (list_sortG hoD h64 z κ (λa h' q=>hk a h' (kk h' q)) (λa h' q=>hlt a h' (kk h' q)) λh' c q e=>⟨_,rfl,?_⟩) (args_list_sort _)));exact zW ⟨_,rfl,h h' _ c (kk h' q) (by lia) e⟩
end Srt
namespace Dl
open PySem L2 PySem.Spec PyProof.Rows
def tw(i:Nat)(fz:List Nat)(f:Env->Option (List D)):ao->Option Out:=λρ=>(f (ba (hand fz 0 ρ))).bind λus=>mv i (λds=>if ds.length+us.length<=sizeLine then some (ds++us) else none) (hand fz 0 ρ)
def CZ(i:Nat)(fz:List Nat)(hN:X.N[i]?=some x)(hv:AV X.env.scope x)(h:DF X e f)(hd:(x == ("__debug__":Str))=false:=by decide)(hcd:(x == ("__classdict__":Str))=false:=by decide)
  (hfew:((backTo cpos (starEach [e] X.env)).all (λx=>!x.1)&&(backToKw cpos (keywordEach [] X.env)).all (λx=>x.1.isSome)&&decide ([e].length+([]:List Keyword).length+(if ([]:List Keyword).isEmpty then 0 else 1) < 30))=true:=by rfl)
  (hline:(apos.endLine == cpos.line)=true:=by rfl) (hs:starEach [e] X.env=(false,eval e X.env)::starEach [] X.env:=by rfl) :
  DS X HF₀ H₀ (.Expr (.Call (.Attribute (.Name x px) "extend" apos) [e] [] cpos) pos) (tw i fz f) :=
 b9 (oE (nW qN PySem.F.slot_list_extend PySem.F.type_list_extend CQ (fF hN hv hd hcd) (cA h eH hs) rfl hfew hline hs rfl)) λE σ H ⟨HF,ρ,o,S,hg,q⟩=>by
  let⟨us,h1,hg⟩:=bs hg;let⟨ds,es,h2,h3,rfl⟩:=j6 hg;let⟨HF1,s1,S1⟩:=S.hand fz;let⟨a,vs,e1,e2,e3,e5,e4⟩:=S1.own i ds h2;refine⟨.ref a,e1,.inl ⟨rfl,vs,gH.of e2⟩,HF1,_,us,S1.gr.fh,S1.frz,h1,λb ws H' HF' G hb hf h' r=>?_⟩;have S2:=S1.grow G;let⟨a',vs',f1,f2,f3,f5,f4⟩:=S2.own i ds h2;rw[e1] at f1;cases f1;split at h3
  ·rename_i hz;cases h3;exact⟨a,b,vs',ws,rfl,rfl,f2,h',by rw[f4.length,r.length];exact hz,q σ _ HF' (S2.mut h2 e1 f2 (f4.append r)) (s1.trans G.ff)⟩
  ·cases h3
def B8(ds:List D)(k:Int)(d:D):List D:=let j:=if k < 0 then (k+(ds.length:Int)).toNat else min k.toNat ds.length;ds.take j++d::ds.drop j
def IH:V->List V->Hp->VK->Prop:=λx vs H Q=>∃l xs k y,x=.ref l/\vs=[.int k,y]/\H l=some (.lst xs)/\xs.length < sizeLine/\-(2 ^ 62)<=k/\k < 2 ^ 62 /\
 Q .non (upd H l (.lst (xs.take (if k < 0 then (k+(xs.length:Int)).toNat else min k.toNat xs.length)++y::xs.drop (if k < 0 then (k+(xs.length:Int)).toNat else min k.toNat xs.length))))
def Dv:K5 X "list.insert" IH:=by
 intro pins s σ H x vs v us Q I rx rv h;let⟨l,xs,k,y,rfl,rfl,hH,hz,k1,k2,q⟩:=h;cases rx;let⟨u1,u2,rfl,⟨t,rfl⟩,ru⟩:=L2.aH.two rv;let⟨z,its,n,r,hl,e⟩:=I.lstM hH;have hfit:¬(!Builtin.List.listFitsIndex k)=true:=by
  have:Builtin.List.listFitsIndex k=true:=by
   unfold Builtin.List.listFitsIndex;simp?[zF,zJ];lia
  rw[this];simp
 refine qX F.slot_list_insert ⟨_,e,rfl⟩ F.entry_list_insert (F.args_list_insert_3 _ _ _) (AutoListH.list_insert_list_int_val_1 l its.toArray n k t u2 hfit (by rw[zH];lia)) ⟨e,?_⟩;have hlen:its.length=xs.length:=hl.symm;refine⟨.non,_,I.lset (its':=its.take (if k < 0 then (k+(xs.length:Int)).toNat else min k.toNat xs.length)++u2::its.drop (if k < 0 then (k+(xs.length:Int)).toNat else min k.toNat xs.length)) hH e ?_ ((r.take _).append (.cons ru (r.drop _))) ?_,rfl,q⟩
 ·dsimp only;rw[zH,hlen];apply Array.toList_inj.mp;simp;exact kG (by rw[qH,hlen];exact yM _)
 ·rw[zN,zL,jV,qH];lia
def D8(i:Nat)(fz:List Nat)(fk f:Env->Option D):ao->Option Out:=λρ=>(fk (aR ρ)).bind λkd=>match kd with
 | .int k=>(lW fz f ρ).bind λp=>mv i (λds=>if uy k=true/\ds.length < sizeLine then some (B8 ds k p.1) else none) p.2
 | _=>none
def Do(i:Nat)(fz:List Nat)(hN:X.N[i]?=some x)(hv:AV X.env.scope x)(hk:DE X e fk)(h:DE X e2 f)(hd:(x == ("__debug__":Str))=false:=by decide)(hcd:(x == ("__classdict__":Str))=false:=by decide)
  (hfew:((backTo cpos (starEach [e,e2] X.env)).all (λx=>!x.1)&&(backToKw cpos (keywordEach [] X.env)).all (λx=>x.1.isSome)&&decide ([e,e2].length+([]:List Keyword).length+(if ([]:List Keyword).isEmpty then 0 else 1) < 30))=true:=by rfl)
  (hline:(apos.endLine == cpos.line)=true:=by rfl) (hs:starEach [e,e2] X.env=(false,eval e X.env)::starEach [e2] X.env:=by rfl) (hs2:starEach [e2] X.env=(false,eval e2 X.env)::starEach [] X.env:=by rfl) :
  DS X HF₀ H₀ (.Expr (.Call (.Attribute (.Name x px) "insert" apos) [e,e2] [] cpos) pos) (D8 i fz fk f) :=
 b9 (oE (nW qN PySem.F.slot_list_insert PySem.F.type_list_insert Dv (fF hN hv hd hcd) (cA hk (cA h eH hs2) hs) rfl hfew hline hs (by rw[hs2];rfl))) λE σ H ⟨HF,ρ,o,S,hg,q⟩=>by
  let⟨kd,hkd,hg⟩:=bs hg;cases kd<;>try cases hg
  rename_i k;let⟨⟨d,ρ'⟩,h1,hg⟩:=bs hg;let⟨ds,es,h2,h3,rfl⟩:=j6 hg;have hown:∃ds',ρ[i]?=some (.own ds'):=by
   let⟨d1,_,h1⟩:=bs h1;split at h1
   ·cases h1;exact⟨ds,h2⟩
   ·let⟨d2,_,h1⟩:=af h1;cases h1;rw[gS] at h2;let⟨s,hs,h2⟩:=af h2;cases s with
    | non=>split at h2<;>cases h2
    | dic _=>split at h2<;>cases h2
    | tab _=>split at h2<;>cases h2
    | val _=>split at h2<;>cases h2
    | own xs=>exact⟨xs,hs⟩
  let⟨ds',hown⟩:=hown;let⟨a,vs,e1,e2,e3,e5,e4⟩:=S.own i ds' hown;refine⟨.ref a,e1,.inl ⟨rfl,vs,gH.of e2⟩,H,aR ρ,_,.refl _,S.all,hkd,λvk Hk HFk Gk rk=>?_⟩;simp?[Rep] at rk;subst rk;refine m8 (S.step Gk.hh) h1 λv H' HF' s1 S' sh r=>?_;let⟨a',vs',f1,f2,f3,f5,f4⟩:=S'.own i ds h2;rw[e1] at f1;cases f1;split at h3
  ·rename_i hz;cases h3;have ok:=hz.1;unfold uy at ok;rw[zF] at ok;refine⟨a,vs',k,v,rfl,rfl,f2,by rw[f4.length];exact hz.2,yQ ok.1,yQ ok.2,q σ _ HF' (S'.mut h2 e1 f2 ?_) s1⟩;unfold B8;rw[f4.length];exact (f4.take _).append (au.cons r (f4.drop _))
  ·cases h3
def n6:D->D->Option (List D)
 | .list xs,.list ys=>small (xs++ys)
 | _,_=>none
def E2(K:W.Frag):R2:=λx y H Q=>∃a b xs ys,x=.ref a/\y=.ref b/\gH K H a xs/\gH K H b ys/\xs.length+ys.length<=sizeLine/\∀p,H p=none->Q (.ref p) (upd H p (.lst (xs++ys)))
def yc:fT X (binaryOp .Add) (E2 X.K):=by
 intro pins s σ H x y v u Q I rx ry h;let⟨a,b,xs,ys,rfl,rfl,ha,hb,hz,q⟩:=h;cases rx;cases ry;let⟨its,r1,p1,_⟩:=I.list ha;let⟨its2,r2,p2,_⟩:=I.list hb;let⟨⟨cls,dd,data,sl⟩,ho,hc,n,hd⟩:=id p1.isList;let⟨⟨cls2,dd2,data2,sl2⟩,ho2,hc2,n2,hd2⟩:=id p2.isList;simp only at hc hd hc2 hd2;subst hc hd hc2 hd2;refine wF ⟨_,ho,rfl⟩ ⟨_,ho2,rfl⟩ noFill_list_add seq_list_add PySem.F.slot_list_add PySem.F.entry_list_add (PySem.F.args_list_add_2 _ _) (list_addW a b its.toArray its2.toArray n n2 dd dd2 sl sl2 (by rw[zH,zH,<- r1.length,<- r2.length];exact hz)) ⟨ho,ho2,?_⟩;have e:its.toArray++its2.toArray=(its++its2).toArray:=by simp
 rw[e];exact⟨.ref s.heap.objs.size,_,I.lnew (t':=s.toks) (r1.append r2) (by rw[zN];exact hz),rfl,q _ I.fresh⟩
def og(g:D->D->Option (List D))(f1 f2:Env->Option D):Env->Option (List D):=λρ=>(f1 ρ).bind λx=>(f2 ρ).bind λy=>g x y
def Lf(ha:DE X a fa)(hb:DE X b fb):DF X (.BinOp a .Add b pos) (og n6 fa fb):=aN (Ko yc ha hb) λσ H Q ⟨HF,ρ,d,sm,eo,hf,q⟩=>by
 let⟨x,hx,hf⟩:=bs hf;let⟨y,hy,hg⟩:=bs hf;refine⟨HF,ρ,x,sm,eo,hx,λv1 H1 HF1 g1 r1=>⟨HF1,ρ,y,g1.fh,eo.mono g1.ff,hy,λv2 H2 HF2 g2 r2=>?_⟩⟩;have r1:=r1.mono g2.ff;cases x<;>cases y<;>simp?[n6] at hg<;>try cases hg
 rename_i xs ys;let⟨rfl,hz⟩:=dS hg;simp?[Rep] at r1 r2;let⟨a,vs,rfl,ha,ra⟩:=r1;let⟨b,us,rfl,hb,rb⟩:=r2;have G:=g1.trans g2;exact⟨a,b,vs,us,rfl,rfl,g2.fh.seq ha,g2.fh.seq hb,by rw[ra.length,rb.length,<- zN];exact hz,λp hp=>q p _ _ HF2 (G.trans (.own G.fh hp)) (G.hh.free hp) (G.fh.free hp) aG (ra.append rb)⟩
def boolsOf:List D->Option (List Bool)
 | []=>some []
 | .bool b::r=>(boolsOf r).map (b::·)
 | _::_=>none
def il:∀ {ds:List D}{bs:List Bool},boolsOf ds=some bs->ds=bs.map PyData.bool
 | [],bs,h=>by cases h;rfl
 | d::r,bs,h=>by
  cases d<;>simp?[boolsOf] at h<;>try cases h
  let⟨bs',h1,rfl⟩:=af h;rw[il h1];rfl
def lA{K:W.Frag}:∀ {bs:List Bool}{vs:List V},au K H (bs.map PyData.bool) vs->vs=bs.map V.bl
 | [],vs,h=>h.nil_inv
 | b::bs,vs,h=>by
  let⟨v,r,rfl,a,c⟩:=h.cons_inv;simp?[Rep] at a;rw[a,lA c];rfl
def k7:∀ {bs:List Bool}{us:List Value},aH (bs.map V.bl) us->us=bs.map Value.bool
 | [],us,h=>by cases h;rfl
 | b::bs,us,h=>by
  cases h with
  | cons r rr=>cases r;rw[k7 rr];rfl
def range_all(bs:List Bool):(List.range bs.length).all (λi=>bs.getD i false)=bs.all id:=by
 induction bs with
 | nil=>rfl
 | cons b bs ih=>rw[zL,vJ,xS,List.all_map,xS];simpa [wL] using jC (b&&·) ih
def range_any(bs:List Bool):(List.range bs.length).any (λi=>bs.getD i false)=bs.any id:=by
 induction bs with
 | nil=>rfl
 | cons b bs ih=>rw[zL,vJ,vB,wH,vB];simpa [wL] using jC (b||·) ih
def Az(hc:X.calm=true):dq X (.builtin "all") (λxs H Q=>∃ (a:Addr) (bs:List Bool),xs=[.ref a]/\gH X.K H a (bs.map V.bl)/\Q (.bl (bs.all id)) H):=by
 intro pins s σ H xs us Q I r h;let⟨a,bs,rfl,hq,q⟩:=h;let⟨u,rfl,rx⟩:=vals1 r;cases rx;let⟨its,rv,pl,hz⟩:=I.list hq;have hv:=k7 rv;subst hv;have hh:X.A.in1.handled=none:=I.ok.hd hc;refine call_all_walk (qK pl.isList ?_);let⟨o,ho,hcl,n,hd⟩:=pl.isList;have hne:a≠s.heap.objs.size:=yR (zY ho);refine⟨_,_,_,_,_,_,λi=>bs.getD i false,rfl,Walks.list hh s.heap.objs.size a hne (bs.map Value.bool).toArray,⟨⟨_,zX _ rfl,rfl,rfl⟩,pl.isList.push _⟩,λi v s' Q' E' hP hQ=>?_,λh' tk kp=>?_⟩
 ·have e:v=Value.bool (bs.getD i false):=by
   have hP:(bs.map Value.bool).toArray[i]?=some v:=hP;rw[vR,zO] at hP;let⟨b,hb,rfl⟩:=af hP;rw[zG,hb];rfl
  subst e;exact xW hQ
 ·refine⟨.bl (bs.all id),H,?_,?_,q⟩
  ·exact I.kept (t':=tk) λb o' e=>kp b o' (by simp;exact yR (zY e)) (zU _ e)
  ·show Value.bool _=Value.bool _;have:=range_all bs;simp?[zH,zD];rw[this]
def gx:List D->Option D:=λds=>(oneOf ds).bind λd=>match d with
 | .list es=>(boolsOf es).map λbs=>.bool (bs.all id)
 | _=>none
def MM(hc:X.calm=true)(B:mF X "all" (.builtin "all"))(ha:DA X [e] fs)(he:starEach [e] X.env=(false,eval e X.env)::starEach [] X.env:=by rfl):DE X (.Call (.Name "all" p) [e] [] pos) (aS gx fs) :=
 fM (Az hc) (by
  intro HF H ds vs d Q sm r hg q;let⟨x,hx,hg⟩:=bs hg;rw[fO hx] at r;cases x<;>try cases hg
  let⟨bs,hb,rfl⟩:=af hg;let⟨v,r',rfl,a,b⟩:=r.cons_inv;rw[b.nil_inv];simp?[Rep] at a;let⟨p,us,rfl,h,rr⟩:=a;rw[il hb] at rr;have:=lA rr;subst this;exact⟨p,bs,rfl,sm.seq h,q _ H HF (.refl sm) (by simp[Rep])⟩) B ha (by decide) (by decide) he rfl
abbrev lexLt:=HT.lexLt
def fJ:∀a:List Int,lexLt a a=false
 | []=>rfl
 | x::a=>by show HT.lexLt (x::a) (x::a)=false;rw[HT.dP,yL rfl];exact fJ a
def dX:∀ {a b c:List Int},lexLt a b=true->lexLt b c=true->lexLt a c=true
 | [],[],_,h,_=>by cases h
 | [],_::_,[],_,h=>by cases h
 | [],_::_,_::_,_,_=>rfl
 | _::_,[],_,h,_=>by cases h
 | _::_,_::_,[],_,h=>by cases h
 | x::a,y::b,z::c,h1,h2=>by
  have h1:HT.lexLt (x::a) (y::b)=true:=h1;have h2:HT.lexLt (y::b) (z::c)=true:=h2;show HT.lexLt (x::a) (z::c)=true;rw[HT.dP] at h1 h2 ⊢;by_cases e1:x=y
  ·rw[yL e1] at h1;by_cases e2:y=z
   ·rw[yL e2] at h2;rw[yL (e1.trans e2)];exact dX h1 h2
   ·rw[yN e2] at h2;rw[yN (by lia)];have:=yQ h2;exact yA (by lia)
  ·rw[yN e1] at h1;have q1:=yQ h1;by_cases e2:y=z
   ·rw[yN (by lia)];exact yA (by lia)
   ·rw[yN e2] at h2;have q2:=yQ h2;rw[yN (by lia)];exact yA (by lia)
def gM:∀ {a b:List Int},lexLt a b=false->lexLt b a=false->a=b
 | [],[],_,_=>rfl
 | [],_::_,h,_=>by cases h
 | _::_,[],_,h=>by cases h
 | x::a,y::b,h1,h2=>by
  have h1:HT.lexLt (x::a) (y::b)=false:=h1;have h2:HT.lexLt (y::b) (x::a)=false:=h2;rw[HT.dP] at h1 h2;by_cases e:x=y
  ·rw[yL e] at h1;rw[yL e.symm] at h2;rw[e,gM h1 h2]
  ·rw[yN e] at h1;rw[yN (λz=>e z.symm)] at h2;have:=of_decide_eq_false h1;have:=of_decide_eq_false h2;lia
def lexLe(a b:List Int):Bool:=!lexLt b a
def xy(a b c:List Int)(h1:lexLe a b=true)(h2:lexLe b c=true):lexLe a c=true:=by
 unfold lexLe at *;rw[yP] at *;cases e:lexLt c a with
 | false=>rfl
 | true =>
  cases e1:lexLt a b with
  | true=>rw[dX e e1] at h2;cases h2
  | false =>
   have:=gM e1 h1;subst this;rw[e] at h2;cases h2
def ya(a b:List Int):(lexLe a b||lexLe b a)=true:=by
 unfold lexLe;cases e1:lexLt b a with
 | false=>rfl
 | true =>
  cases e2:lexLt a b with
  | false=>rfl
  | true=>have:=dX e1 e2;rw[fJ] at this;cases this
def pV(h1:lexLe a b=true)(h2:lexLe b a=true):a=b:=by
 unfold lexLe at *;rw[yP] at *;exact gM h2 h1
def rA{α:Type}{le:α->α->Bool}(anti:∀a b,le a b=true->le b a=true->a=b):∀ {l m:List α},l.Perm m->l.Pairwise (λa b=>le a b=true)->m.Pairwise (λa b=>le a b=true)->l=m
 | [],m,p,_,_=>p.nil_eq
 | a::l,[],p,_,_=>by have:=p.length_eq;simp at this
 | a::l,b::m,p,h1,h2=>by
  let⟨h1a,h1b⟩:=List.pairwise_cons.mp h1;let⟨h2a,h2b⟩:=List.pairwise_cons.mp h2;have e:a=b:=by
   have ha:a∈b::m:=p.mem_iff.mp zE;have hb:b∈a::l:=p.mem_iff.mpr zE;rcases List.mem_cons.mp ha with e|ha
   ·exact e
   ·rcases List.mem_cons.mp hb with e|hb
    ·exact e.symm
    ·exact anti a b (h1a b hb) (h2a a ha)
  subst e;rw[rA anti (List.perm_cons a |>.mp p) h1b h2b]
def qp(l:List (List Int)):List (List Int):=l.mergeSort lexLe
def FD(l:List (List Int)):(qp l).Perm l:=List.mergeSort_perm l lexLe
def Ll(l:List (List Int)):(qp l).Pairwise (λa b=>lexLe a b=true):=List.pairwise_mergeSort xy ya l
def FP{l:List (List Int)}(p:l.Perm m)(h:l.Pairwise (λa b=>lexLe a b=true)):l=qp m:=rA (λ_ _=>pV) (p.trans (FD m).symm) h (Ll m)
def rk(l:List (List Int))(a:List Int):Int:=((l.countP λb=>lexLt b a:Nat):Int)
def Bz(ha:a∈l):lexLt a b=decide (rk l a < rk l b):=by
 unfold rk;have mono:∀ {a b:List Int},lexLt a b=true->(l.countP λc=>lexLt c a)<=l.countP λc=>lexLt c b:=λ{a b} h=>List.countP_mono_left λc _ hc=>dX hc h;have strict:∀ {a b:List Int}(ha:a∈l),lexLt a b=true->(l.countP λc=>lexLt c a) < l.countP λc=>lexLt c b:=λ{a b} ha h=>by
  have key:∀m:List (List Int),a∈m->(m.countP λc=>lexLt c a) < m.countP λc=>lexLt c b:=λm hm=>by
   induction m with
   | nil=>cases hm
   | cons x m ih =>
    rw[List.countP_cons,List.countP_cons];have mo:(m.countP λc=>lexLt c a)<=m.countP λc=>lexLt c b:=List.countP_mono_left λc _ hc=>dX hc h;rcases List.mem_cons.mp hm with e|hm
    ·subst e;rw[fJ,h];simp?[yO,qP,xH];lia
    ·have:=ih hm;by_cases hx:lexLt x a=true
     ·rw[hx,dX hx h];simp?[xH];lia
     ·have hx':lexLt x a=false:=by simpa using hx
      rw[hx'];simp?[yO,qP];split<;>lia
  exact key l ha
 cases e:lexLt a b with
 | true=>exact (yA (by have:=strict ha e;lia)).symm
 | false =>
  refine (zZ ?_).symm;cases e2:lexLt b a with
  | true=>have:=mono e2;lia
  | false=>rw[gM e e2];lia
section
variable {prog:Program}{w:World}{A:Around}{E:Value->Shared->Prop}{s:Shared}
def pK:∀ {us ws:List Value}{ns ms:List Int}(i:Nat),IntsAre us ns->IntsAre ws ms->Q (lexLt ns ms) s->W.KatLex prog w A true (decide (ns.length < ms.length)) Q (us.zip ws) i s
 | [],[],_,_,i,.nil,.nil,h=>h
 | [],_::_,_,_,i,.nil,.cons _ _ _,h=>by
  show Q (decide (0 < _+1)) s;rw[yA (Nat.succ_pos _)];exact h
 | _::_,[],_,_,i,.cons _ _ _,.nil,h=>by
  show Q (decide (_+1 < 0)) s;rw[zZ (vN _)];exact h
 | _::us,_::ws,_,_,i,.cons n t r1,.cons m u r2,h=>by
  have h:Q (HT.lexLt (n::_) (m::_)) s:=h;rw[HT.dP] at h;refine W.kat_cons (SeqAt.EqAt.int_int n t m u prog w _ _ ?_);cases e:(n == m) with
  | true =>
   have e':n=m:=eq_of_beq e;rw[yL e'] at h;refine W.kat_yes ?_;have:=pK (i+1) r1 r2 h;simp?[zL,Nat.add_lt_add_iff_right];exact this
  | false =>
   have e':¬ n=m:=λq=>by rw[q] at e;simp at e
   rw[yN e'] at h;refine W.kat_no ?_;by_cases hi:(true&&i == 0)=true
   ·rw[hi];exact oneLt_int h
   ·have hi':(true&&i == 0)=false:=by simpa using hi
    rw[hi'];refine W.kat_one _ _ (lt_int ?_);exact h
end
def ag(ns:List Int):D:=.tuple (ns.map PyData.int)
def intsOf:List D->Option (List Int)
 | []=>some []
 | .int n::r=>(intsOf r).map (n::·)
 | _::_=>none
def di:∀ {ds:List D}{ns:List Int},intsOf ds=some ns->ds=ns.map PyData.int
 | [],ns,h=>by cases h;rfl
 | d::r,ns,h=>by
  cases d<;>simp?[intsOf] at h<;>try cases h
  let⟨ns',h1,rfl⟩:=af h;rw[di h1];rfl
def bC:∀ns:List Int,intsOf (ns.map PyData.int)=some ns
 | []=>rfl
 | n::ns=>by simp[intsOf,bC ns]
def Bm:D->Option (List Int)|.tuple ds=>(intsOf ds).bind λns=>if ns=[] then none else some ns|_=>none
def y8(h:Bm d=some ns):d=ag ns/\ns≠[]:=by
 cases d<;>try cases h
 let⟨ms,h1,h2⟩:=bs h;split at h2
 ·cases h2
 ·rename_i hn;cases h2;rw[di h1];exact⟨rfl,hn⟩
def Dp(h:ns≠[]):Bm (ag ns)=some ns:=by
 unfold ag Bm;simp?[bC,zA];rw[yN h]
def rowsOf:List D->Option (List (List Int))
 | []=>some []
 | d::r=>(Bm d).bind λns=>(rowsOf r).map (ns::·)
def jx:∀ {ds:List D}{nss:List (List Int)},rowsOf ds=some nss->ds=nss.map ag/\∀ns∈nss,ns≠[]
 | [],nss,h=>by cases h;exact⟨rfl,λ_ z=>by cases z⟩
 | d::r,nss,h=>by
  let⟨ns,h1,h⟩:=bs h;let⟨rest,h2,rfl⟩:=af h;let⟨e,hn⟩:=y8 h1;let⟨e2,hn2⟩:=jx h2;refine⟨by rw[e,e2];rfl,λm hm=>?_⟩;rcases List.mem_cons.mp hm with q|q
  ·subst q;exact hn
  ·exact hn2 m q
def k6:∀ {nss:List (List Int)},(∀ns∈nss,ns≠[])->rowsOf (nss.map ag)=some nss
 | [],_=>rfl
 | ns::r,h=>by
  simp?[zI,rowsOf,Dp (h ns zE),zA,k6 λm hm=>h m (zC _ hm),zB]
structure vp(h:Heap)(v:Value)(ns:List Int):Prop where
 ex:∃ (a:Addr) (o:Obj) (its:Array Value) (n:Nat),v=.ref a/\h.get? a=some o/\o.cls=.type "tuple"/\o.data=.seq its n/\IntsAre its.toList ns
def vp.keep(r:vp h v ns)(k:∀b o,h.get? b=some o->h'.get? b=some o):vp h' v ns:=let ⟨a,o,its,n,e,e1,e2,e3,e4⟩:=r.ex;⟨a,o,its,n,e,k _ _ e1,e2,e3,e4⟩
def qd:∀ {vs:List Value}{nss:List (List Int)},Paired (vp h) vs nss->(∀ns∈nss,ns≠[])->∃fs:List Value,W.KatTups h vs fs/\fs.length=vs.length/\∀f∈fs,∃n t,f=Value.int n t
 | _,_,.nil,_=>⟨[],trivial,rfl,λ_ z=>by cases z⟩
 | _,_,.cons (a:=v) (b:=ns) r p,hn=>by
  let⟨fs,h1,h2,h3⟩:=qd p λm hm=>hn m (zC _ hm);let⟨a,o,its,n,rfl,e1,e2,e3,e4⟩:=r.ex;cases hits:its.toList with
  | nil =>
   rw[hits] at e4;cases e4;exact absurd rfl (hn [] zE)
  | cons f rest =>
   rw[hits] at e4;cases e4 with
   | cons m t e5 =>
    have h0:its[0]?=some (.int m t):=by
     have:its.toList[0]?=some (Value.int m t):=by rw[hits];rfl
     simpa using this
    exact⟨.int m t::fs,W.KatTups.cons e1 e2 e3 h0 h1,by simp[h2],λg hg=>by
     rcases List.mem_cons.mp hg with q|q
     ·exact⟨m,t,q⟩
     ·exact h3 g q⟩
def fK:∀ {l:List α}{m:List β}{i:Nat},Paired R l m->i < l.length->R (l.getD i d) (m.getD i d')
 | _,_,i,.nil,h=>by simp at h
 | _,_,0,.cons r _,_=>r
 | _,_,i+1,.cons _ p,h=>by simpa using fK (i:=i) (d:=d) (d':=d') p (by simpa using h)
def w8(hl:Srt.Coll s.heap l vs)(hp:Paired (vp s.heap) vs nss)(hn:∀ns∈nss,ns≠[])(h64:vs.length < 64)
  (h:∀ (h':Heap) (D:Addr) (c:Nat),(∀b o,s.heap.get? b=some o->h'.get? b=some o)->s.heap.objs.size<=D->h'.get? D=some (seqObj "list" (Srt.outV (λi=>rk nss (nss.getD i [])) vs).toArray c)->Q (.ref D) { s with heap:=h' }) :
  wpAny (model prog w) A (call (.builtin "sorted") [.ref l]) Q E s:=by
 refine Srt.sortedG hl h64 (λi=>rk nss (nss.getD i [])) (tuples' true) (λh2 h' kp Q' q=>?_) (λh2 h' kp i j C hi hj q=>?_) h
 ·have hp':Paired (vp h') vs nss:=Paired.mapP hp λ_ _ r=>r.keep kp;let⟨fs,t,hlen,hf⟩:=qd hp' hn;refine W.kat_kind (s:={ s with heap:=h' }) (T:=.type "int") t (by lia) (λv hv=>?_) (by decide) q;let⟨n,t,rfl⟩:=hf v hv;exact W.Looks.of_pure rfl
 ·have ri:=(fK (d:=Value.none) (d':=[]) hp hi).keep kp;have rj:=(fK (d:=Value.none) (d':=[]) hp hj).keep kp;have hlen:=hp.length;let⟨a,o,its,n,ea,e1,e2,e3,e4⟩:=ri.ex;let⟨b,o',its',n',eb,f1,f2,f3,f4⟩:=rj.ex;unfold W.kas_ask;rw[ea,eb];have hmem:nss.getD i []∈nss:=by
   rw[zG,zK (by lia)];exact qA _
  have q':C (lexLt (nss.getD i []) (nss.getD j [])) { s with heap:=h' }:=by
   rw[Bz hmem];exact q
  refine W.kat_lt (s:={ s with heap:=h' }) e1 e3 f1 f3 ?_;have:=pK (prog:=prog) (w:=w) (A:=A.in1.in1) (s:={ s with heap:=h' }) 0 e4 f4 q';have l1:its.size=(nss.getD i []).length:=by have:=vT e4;simpa using this
  have l2:its'.size=(nss.getD j []).length:=by have:=vT f4;simpa using this
  rw[l1,l2];exact this
def oN(z:Nat->Int)(l:List α)(d:α):List α:=if l.length < 2 then l else (SP.run (SP.dH z) (W.kas_sort l.length)).toList.map λi=>l.getD i d
def jt(l:List α)(d:α):(List.range l.length).map (λi=>l.getD i d)=l:=by
 apply jH
 ·simp
 ·intro i h1 h2;simp[h2]
def fu(z:Nat->Int)(l:List α)(d:α):(oN z l d).Perm l:=by
 unfold oN;split
 ·exact List.Perm.refl _
 ·rename_i h;have:=((SP.f7 (z:=z) (n:=l.length) (by lia)).1).map λi=>l.getD i d;rw[jt] at this;exact this
def Iz(nss:List (List Int)):oN (λi=>rk nss (nss.getD i [])) nss []=qp nss:=by
 refine FP (fu _ _ _) ?_;unfold oN;split
 ·rename_i h
  match nss,h with
  | [],_=>exact List.Pairwise.nil
  | [a],_=>exact vF _ _
 ·rename_i h;let⟨hp,hs⟩:=SP.f7 (z:=λi=>rk nss (nss.getD i [])) (n:=nss.length) (by lia);rw[jE] at hs ⊢;refine hs.imp_of_mem λ{i j} hi hj hij=>?_;have hj':j < nss.length:=by have:=hp.mem_iff.mp hj;simpa using this
  unfold lexLe;rw[Bz (l:=nss) (a:=nss.getD j []) (by rw[zG,zK hj'];exact qA _)];simp?[yP,xB];lia
def pX{K:W.Frag}(z:Nat->Int)(r:au K HF ds vs):au K HF (oN z ds .none) (oN z vs .non):=by
 unfold oN;rw[r.length];split
 ·exact r
 ·rename_i h;let⟨hp,_⟩:=SP.f7 (z:=z) (n:=ds.length) (by lia);have key:∀l:List Nat,(∀i∈l,i < ds.length)->au K HF (l.map λi=>ds.getD i .none) (l.map λi=>vs.getD i .non):=λl=>by
   induction l with
   | nil=>exactλ_=>au.nil
   | cons i l ih =>
    intro hl;have hi:=hl i zE;let⟨v,e1,e2⟩:=r.getD (zK hi);refine au.cons ?_ (ih λj hj=>hl j (zC _ hj));dsimp only;rw[zG,zG,e1,zK hi];exact e2
  exact key _ λi hi=>by have:=hp.mem_iff.mp hi;simpa using this
def oS(z:Nat->Int)(r:aH vs us):aH (oN z vs .non) (Srt.outV z us):=by
 unfold oN Srt.outV;rw[r.length];split
 ·exact r
 ·rename_i h;let⟨hp,_⟩:=SP.f7 (z:=z) (n:=us.length) (by lia);have key:∀l:List Nat,(∀i∈l,i < vs.length)->aH (l.map λi=>vs.getD i .non) (l.map λi=>us.getD i Value.none):=λl=>by
   induction l with
   | nil=>exactλ_=>.nil
   | cons i l ih =>
    intro hl;have hi:=hl i zE;let⟨v,e1,e2⟩:=r.get (zK hi);refine .cons ?_ (ih λj hj=>hl j (zC _ hj));dsimp only;rw[zG,zG,e1,zK hi];exact e2
  exact key _ λi hi=>by have:=hp.mem_iff.mp hi;rw[r.length];simpa using this
def IW(z:Nat->Int)(nss:List (List Int)):oN z (nss.map ag) .none=(oN z nss []).map ag:=by
 unfold oN;rw[zD];split
 ·rfl
 ·rename_i h;rw[zM];let⟨hp,_⟩:=SP.f7 (z:=z) (n:=nss.length) (by lia);refine yI λi hi=>?_;have hi':i < nss.length:=by have:=hp.mem_iff.mp hi;simpa using this
  simp[hi']
def oK(I:Inv X pins σ H s)(sm:aP HF H):∀ {nss:List (List Int)}{vs:List V}{us:List Value},au X.K HF (nss.map ag) vs->aH vs us->Paired (vp s.heap) us nss
 | [],_,_,h,r=>by rw[h.nil_inv] at r;cases r;exact .nil
 | ns::nss,_,_,h,r=>by
  let⟨v,vr,rfl,a,b⟩:=h.cons_inv;cases r with
  | cons r rr =>
   refine .cons ?_ (oK I sm b rr);unfold ag at a;simp?[Rep] at a;let⟨p,ws,rfl,hs,rw'⟩:=a;cases r;let⟨its,rv,⟨o,ho,hc,n,hd⟩,_⟩:=I.tuple (ay sm hs);have:ws=ns.map V.int:=by
    have key:∀ {ns:List Int}{ws:List V},au X.K HF (ns.map PyData.int) ws->ws=ns.map V.int:=λ{ns}=>by
     induction ns with
     | nil=>exactλh=>h.nil_inv
     | cons n ns ih =>
      intro ws h;let⟨v,r,rfl,a,b⟩:=h.cons_inv;simp?[Rep] at a;rw[a,ih b];rfl
    exact key rw'
   subst this;exact⟨p,o,its.toArray,n,rfl,ho,hc,hd,intsAre_of rv⟩
def mL:dq X (.builtin "sorted") (λxs H Q=>∃ (HF:Hp) (a:Addr) (vs:List V) (nss:List (List Int)),xs=[.ref a]/\aP HF H/\(gH X.K HF a vs\/eD X.K HF a vs)/\au X.K HF (nss.map ag) vs/\(∀ns∈nss,ns≠[])/\nss.length < 64 /\
  ∀ (Dn:Addr) (us:List V),H Dn=none->au X.K HF ((qp nss).map ag) us->Q (.ref Dn) (upd H Dn (.lst us))):=by
 intro pins s σ H xs us Q I r h;let⟨HF,a,vs,nss,rfl,sm,hq,rr,hn,h64,q⟩:=h;let⟨u,rfl,rx⟩:=vals1 r;cases rx;obtain⟨its,rv,pl,hz⟩:∃its:List Value,aH vs its/\Srt.Coll s.heap a its/\vs.length<=sizeLine:=by
  rcases hq with hq|hq
  ·let⟨its,rv,pl,hz⟩:=I.list (sm.seq hq);let⟨o,ho,hc,n,hd⟩:=pl.isList;exact⟨its,rv,⟨o,"list",n,.inl rfl,ho,hc,hd⟩,hz⟩
  ·let⟨its,rv,pl,hz⟩:=I.tuple (ay sm hq);let⟨o,ho,hc,n,hd⟩:=(show s.heap.IsTuple a its.toArray from pl)
   exact⟨its,rv,⟨o,"tuple",n,.inr rfl,ho,hc,hd⟩,hz⟩
 have hl1:=rr.length;rw[zD] at hl1;refine w8 pl (oK I sm rr rv) hn (by have:=rv.length;lia) λh' Dn c kp hD e=>?_;have hv:=oS (λi=>rk nss (nss.getD i [])) rv;have hr:=pX (λi=>rk nss (nss.getD i [])) rr;rw[IW,Iz] at hr;refine⟨.ref Dn,_,I.laid (t':=s.toks) (o:=.lst (oN (λi=>rk nss (nss.getD i [])) vs .non)) kp hD ⟨?_,_,c,hv,e⟩,rfl,q Dn _ (I.hok.fresh hD) hr⟩;rw[(fu _ _ _).length_eq];exact hz
def fZ:List D->Option (List D):=λds=>(oneOf ds).bind λd=>match d with
 | .list es=>(rowsOf es).bind λnss=>if nss.length < 64 then some ((qp nss).map ag) else none
 | .tuple es=>(rowsOf es).bind λnss=>if nss.length < 64 then some ((qp nss).map ag) else none
 | _=>none
def DD(B:mF X "sorted" (.builtin "sorted"))(ha:DA X [e] fs)(he:starEach [e] X.env=(false,eval e X.env)::starEach [] X.env:=by rfl):DF X (.Call (.Name "sorted" p) [e] [] pos) (qy fZ fs) :=
 GD mL (by
  intro HF H ds vs d Q sm r hg q;let⟨x,hx,hg⟩:=bs hg;rw[fO hx] at r;have key:∀ (b:Bool) (es:List D),au X.K HF [if b then .tuple es else .list es] vs->((rowsOf es).bind λnss=>if nss.length < 64 then some ((qp nss).map ag) else none)=some d->(∃ (HF:Hp) (a:Addr) (us:List V) (nss:List (List Int)),vs=[.ref a]/\aP HF H/\(gH X.K HF a us\/eD X.K HF a us)/\au X.K HF (nss.map ag) us/\(∀ns∈nss,ns≠[])/\nss.length < 64/\∀ (Dn:Addr) (ws:List V),H Dn=none->au X.K HF ((qp nss).map ag) ws->Q (.ref Dn) (upd H Dn (.lst ws))):=λb es r hg=>by
   let⟨nss,hb,hg⟩:=bs hg;split at hg
   ·rename_i h64;cases hg;let⟨v,r',rfl,a,e0⟩:=r.cons_inv;rw[e0.nil_inv];let⟨e1,e2⟩:=jx hb;obtain⟨p,us,rfl,h,rr⟩:∃p us,v=.ref p/\(gH X.K HF p us\/eD X.K HF p us)/\au X.K HF es us:=by
     cases b
     ·simp?[yO,qP,Rep] at a;let⟨p,us,rfl,h,rr⟩:=a;exact⟨p,us,rfl,.inl h,rr⟩
     ·simp?[xH,Rep] at a;let⟨p,us,rfl,h,rr⟩:=a;exact⟨p,us,rfl,.inr h,rr⟩
    rw[e1] at rr;exact⟨HF,p,us,nss,rfl,sm,h,rr,e2,h64,λDn ws hD hr=>q Dn ws _ HF (.own sm hD) hD (sm.free hD) aG hr⟩
   ·cases hg
  cases x<;>try cases hg
  ·exact key false _ r hg
  ·exact key true _ r hg) B ha (by decide) (by decide) he rfl
end Dl
namespace En
open PySem PyProof.Rows
open AutoSeq1 (wpAny_loadPart')
def nextT_item(hj:s.heap.IsTupleIter j t k)(ht:s.heap.IsTuple t its)(hv:its[k]?=some v)
  (hQ:∀g,g.IsTupleIter j t (k+1)->Heap.SameBut j s.heap g->Q v { s with heap:=g }):wpAny (model prog w) A (Builtin.SmallTypes.nextOf (.ref j)) Q E s:=by
 let⟨oj,gj,cj,dj⟩:=id hj;let⟨ot,gt,_,nt,dt⟩:=ht;unfold Builtin.SmallTypes.nextOf;refine zV (qC (name:=Str.ofString "__next__") hj.typeIs jQ (qV jQ hj.typeIs F.entry_tuple_iterator_next ?_ (F.args_tuple_iterator_next_1 _)));refine zV (m:=field (.ref j) 0) (qT gj dj (x:=.ref t) rfl ?_);show wpAny _ _ (if (Value.ref t == Value.none)=true then _ else _) _ _ s;rw[yN (show ¬ ((Value.ref t == Value.none)=true) by exact yZ)];refine zV (m:=field (.ref j) 1) (qT gj dj (x:=.int k 0) rfl ?_);refine zV (m:=seqItems? (.ref t)) (kF gt dt ?_);simp?[yG,hv];refine zV (wpAny_setField gj dj (by simp) (zW ⟨v,rfl,zW (hQ _ ⟨_,Heap.get?_update_self _ gj (Obj.isFreed_of_fields (Obj.data_mapFields dj _)),(Obj.cls_mapFields ..).trans cj,?_⟩ (Heap.SameBut.update ..))⟩));rw[Obj.data_mapFields dj];simp[rawInt]
def nextT_end{Q:Value->Shared->Prop}(hh:A.handled=none)(hj:s.heap.IsTupleIter j t k)(ht:s.heap.IsTuple t its)(hv:its[k]?=none)
  (hE:∀g x,Heap.ExtBut j s.heap g->(∃o,g.get? x=some o/\o.cls=.type "StopIteration")->E (.ref x) { s with heap:=g }):wpAny (model prog w) A (Builtin.SmallTypes.nextOf (.ref j)) Q E s:=by
 let⟨oj,gj,cj,dj⟩:=id hj;let⟨ot,gt,_,nt,dt⟩:=ht;unfold Builtin.SmallTypes.nextOf;refine zV (qC (name:=Str.ofString "__next__") hj.typeIs jQ (qV jQ hj.typeIs F.entry_tuple_iterator_next ?_ (F.args_tuple_iterator_next_1 _)));refine zV (m:=field (.ref j) 0) (qT gj dj (x:=.ref t) rfl ?_);show wpAny _ _ (if (Value.ref t == Value.none)=true then _ else _) _ _ s;rw[yN (show ¬ ((Value.ref t == Value.none)=true) by exact yZ)];refine zV (m:=field (.ref j) 1) (qT gj dj (x:=.int k 0) rfl ?_);refine zV (m:=seqItems? (.ref t)) (kF gt dt ?_);simp?[yG,hv];refine zV (vY (zV (wpAny_setField gj dj (by simp) (zV (m:=newExc (.type "StopIteration") []) ?_))));simp?[newExc,newTuple];refine zV (qL (zV (m:=firstArgMember _ _) (wpAny_of_eq (a:=Value.none) (by first|rfl|(simp?[firstArgMember];rfl)) ?_)) (by size_fits));refine qL ?_ (by size_fits);simp?[raiseNew];refine zV (wpAny_handled ?_)
 first|rw[show A.in1.handled=none from hh]|rw[hh]
 exact zV (zW (wpAny_throw (hE _ _ (((Heap.SameBut.update ..).extBut.push _).push _) ⟨_,zX _ rfl,rfl⟩)))
def meets_enumT(t:Addr)(its:Array Value)(n:Nat)(dd:Option Addr)(sl:Array (Option Value)) :
  Meets (Builtin.«enumerate.__new__» ⟨[.type "enumerate",.ref t],[]⟩) (λ_ R s=>s.heap.get? t=some { cls:=.type "tuple",dict:=dd,data:=.seq its n,slots:=sl } /\
   R (.ok (.ret (.ref (s.heap.push { cls:=.type "tuple_iterator",data:=.fields #[.ref t,.int 0 0] }).objs.size)))
    { s with heap:=(s.heap.push { cls:=.type "tuple_iterator",data:=.fields #[.ref t,.int 0 0] }).push { cls:=.type "enumerate",data:=.fields #[.none,.bool false,.ref s.heap.objs.size,rawInt 0,.none,.none] } }) :=
 .of_wp λprog w A R s h=>by
  let⟨hp,g,d,tk,os⟩:=s;let⟨hl,h⟩:=h;have hsub:=sub_enumerate;have hL:Heap.IsTuple (Shared.heap ⟨hp,g,d,tk,os⟩) t its:=⟨_,hl,rfl,n,rfl⟩
  wp_walk using wpAny_loadPart' hl
  refine wpAny_stack_any λst=>zW ?_;split
  ·rename_i c _ _ _ _ _;cases (c == Value.type "enumerate")
   ·wp_walk using wpAny_loadPart' hl,xR hL
    exact⟨_,rfl,h⟩
   ·wp_walk using wpAny_loadPart' hl,xR hL
    exact⟨_,rfl,h⟩
  ·wp_walk using wpAny_loadPart' hl,xR hL
   exact⟨_,rfl,h⟩
def call_enumT(ht:s.heap.IsTuple t its)
  (h:∀h',IsEnum h' (s.heap.objs.size+1) s.heap.objs.size 0 .none->h'.IsTupleIter s.heap.objs.size t 0->h'.objs.size=s.heap.objs.size+2->(∀b o,s.heap.get? b=some o->h'.get? b=some o)->Q (.ref (s.heap.objs.size+1)) { s with heap:=h' }) :
  wpAny (model prog w) A (call (.type "enumerate") [.ref t]) Q E s:=by
 let⟨⟨c,dct,dt,sl⟩,hl,hc,n,hd⟩:=ht;simp only at hc hd;subst hc hd;refine callType_new F.called_enumerate (by decide) (F.typeCall_enumerate_1 _) (F.newCall_enumerate_1 _) (λobj=>F.args_object_init_2 obj _) F.entry_enumerate_new (meets_enumT t its n dct sl) ⟨hl,?_⟩;have hz:(s.heap.push { cls:=.type "tuple_iterator",data:=.fields #[.ref t,.int 0 0] }).objs.size=s.heap.objs.size+1:=by rw[xJ]
 have he:=zX (s.heap.push { cls:=.type "tuple_iterator",data:=.fields #[.ref t,.int 0 0] }) (o:={ cls:=.type "enumerate",data:=.fields #[.none,.bool false,.ref s.heap.objs.size,rawInt 0,.none,.none] }) rfl;show _/\_;rw[hz] at he ⊢;refine⟨⟨_,he,rfl⟩,h _ he ⟨_,zU _ (zX _ rfl),rfl,rfl⟩ ?_ λb o x=>zU _ (zU _ x)⟩;show (Heap.push _ _).objs.size=_;rw[xJ,hz]
end En
namespace Dl
open PySem L2 PySem.Spec PyProof.Rows
section
variable {ch:List Addr}
def wy(I:Inv X pins σ H s)(hch:∀b∈ch,cq X pins H b)(k:∀b o,b∉ch->s.heap.get? b=some o->h'.get? b=some o){T:Addr}{vals:List Value}{xs:List V}(hT:s.heap.objs.size<=T)(ht:oa h' T vals.toArray)
  (rv:aH xs vals) (hz:xs.length<=sizeLine):Inv X pins σ (upd H T (.tup xs)) { s with heap:=h',toks:=t' }:=by
 have nT:H T=none:=I.hok.fresh hT;have ne:∀b o,s.heap.get? b=some o->b≠T:=λb o e=>yR (zP (zY e) hT);have ne2:∀b o,H b=some o->b≠T:=λb o e=>aF e nT;have nch:∀b o,H b=some o->b∉ch:=λb o e z=>by rw[(hch b z).1] at e;cases e
 refine I.step (g':=s.gens) (d':=s.drawn) (ch:=ch) (λb hb=>?_) (λb o _ _ hc e _=>k b o hc e) (λb o _ _ hc e _=>⟨o.slots,k b o hc e⟩) (λb o _ e n=>by rw[ax (ne b o e)];exact n)
  (λb o hc e=>⟨o,k b o hc e⟩) (λb ys e=>by rw[ax (ne2 b _ e)];exact e) (λb o u e=>by rw[ax (ne2 b _ e)];exact e) (.kept (λb u ⟨q,z⟩ e=>k b u (nch b _ z) e) λb u e _=>by rw[ax (ne2 b _ e)];exact e) (λm hm=>?_) (λb u e=>?_) I.bare
 ·let⟨f0,f1,f2,f3,f4,f5⟩:=hch b hb;exact⟨f3,f1,f4,f5⟩
 ·let⟨o,es,ep,ho,r⟩:=hm;exact⟨o,es,ep,k _ o (λz=>(hch _ z).2.1 rfl) ho,r⟩
 ·by_cases hb:b=T
  ·subst hb;rw[aG] at e;cases e;exact⟨hz,vals,rv,ht⟩
  ·rw[ax hb] at e;refine (I.hok b u e).stay (λc v hc q=>k c v ?_ q) (λ_ q=>?_) λc v q _=>?_
   ·rcases hc with z|z
    ·rw[z];exact nch b u e
    ·exact nch c _ z
   all_goals first
    | (rw[ax (ne2 _ _ q)];exact q)
    | exact q
def O6(I:Inv X pins σ H s)(hf:cq X pins H b)(h:X.K.lookup a=some o):a≠b:=by
 rintro rfl;have hb:=I.ok.mod.kin a o h;rcases hf.2.2.2.1 with z|z
 ·exact I.ok.noex a o hb z
 ·exact absurd (zP (zY (I.ok.bs a o hb).1) z) (qE _)
def Mg(I:Inv X pins σ H s)(hf:cq X pins H b)(h:gH X.K H a xs):a≠b:=by
 rcases h with (h|⟨o,h⟩)|⟨o,its,n,h,_⟩
 ·exact aF h hf.1
 ·exact aF h hf.1
 ·exact O6 I hf h
def Ld(I:Inv X pins σ H s)(hf:cq X pins H b)(h:eD X.K H a xs):a≠b:=by
 rcases h with (h|⟨o,h⟩)|⟨o,its,n,h,_⟩
 ·exact aF h hf.1
 ·exact aF h hf.1
 ·exact O6 I hf h
end
def Qi(sq:Hp->List V->Prop):It:=⟨λi H=>∃xs x,sq H xs/\xs[i]?=some x,λi H v H'=>∃T y,v=.ref T/\H T=none/\H'=upd H T (.tup [.int (i:Nat),y])/\∀xs,sq H xs->xs[i]?=some y,λi H=>∃xs,sq H xs/\xs.length<=i⟩
def br(k:Nat):List D->List D
 | []=>[]
 | d::ds=>.tuple [.int (k:Nat),d]::br (k+1) ds
def sO:∀ {ds:List D}{k i:Nat}{d:D},(br k ds)[i]?=some d->∃x,ds[i]?=some x/\d=.tuple [.int ((k+i:Nat):Int),x]
 | [],k,i,d,h=>by simp[br] at h
 | x::ds,k,0,d,h=>by simp[br] at h;exact⟨x,rfl,h.symm⟩
 | x::ds,k,i+1,d,h=>by
  simp?[br,yY] at h;let⟨y,h1,h2⟩:=sO h;refine⟨y,by simpa using h1,?_⟩;rw[h2,show k+1+i=k+(i+1) by lia]
def j5:∀ (ds:List D) (k:Nat),(br k ds).length=ds.length
 | [],k=>rfl
 | x::ds,k=>by simp[br,j5 ds (k+1)]
def CF{K:W.Frag}(h:sq HF vs)(mo:∀H H',aP H H'->sq H vs->sq H' vs)(r:au K HF ds vs):rE K (Qi sq) HF (br 0 ds) where
 go:=λi d H₁ HF₁ e s1 s2=>by
  let⟨x,hx,rfl⟩:=sO e;rw[jD];let⟨v,hv,rv⟩:=r.getD hx;have q:=mo _ _ s2 (mo _ _ s1 h);refine⟨⟨vs,v,q,hv⟩,λy H₂ ⟨T,z,e1,hT,e2,hy⟩=>?_⟩;have:=hy vs q;rw[hv] at this;cases this;subst e1 e2;exact⟨_,.new s2 hT,c4 (s2.free hT) (au.cons (by simp[Rep]) (au.cons (rv.mono s1) au.nil))⟩
 stop:=λH₁ HF₁ s1 s2=>⟨vs,mo _ _ s2 (mo _ _ s1 h),by rw[j5,r.length];exact yM _⟩
def P3(sq1 sq2:Hp->List V->Prop):It:=⟨λi H=>∃xs ys x y,sq1 H xs/\sq2 H ys/\xs[i]?=some x/\ys[i]?=some y,
 λi H v H'=>∃T x y,v=.ref T/\H T=none/\H'=upd H T (.tup [x,y])/\(∀xs,sq1 H xs->xs[i]?=some x)/\∀ys,sq2 H ys->ys[i]?=some y,
 λi H=>∃xs ys,sq1 H xs/\sq2 H ys/\(xs.length<=i\/ys.length<=i)⟩
section
variable {ch:List Addr}
def CM(I:Inv X pins σ H s)(hch:∀b∈ch,cq X pins H b)(k:∀b o,b∉ch->s.heap.get? b=some o->h'.get? b=some o):Inv X pins σ H { s with heap:=h',toks:=t' }:=by
 have nch:∀b o,H b=some o->b∉ch:=λb o e z=>by rw[(hch b z).1] at e;cases e
 refine I.step (g':=s.gens) (d':=s.drawn) (ch:=ch) (λb hb=>?_) (λb o _ _ hc e _=>k b o hc e) (λb o _ _ hc e _=>⟨o.slots,k b o hc e⟩) (λb o _ e n=>n)
  (λb o hc e=>⟨o,k b o hc e⟩) (λb ys e=>e) (λb o u e=>e) (.kept (λb u ⟨q,z⟩ e=>k b u (nch b _ z) e) λb u e _=>e) (λm hm=>?_) (λb u e=>?_) I.bare
 ·let⟨f0,f1,f2,f3,f4,f5⟩:=hch b hb;exact⟨f3,f1,f4,f5⟩
 ·let⟨o,es,ep,ho,r⟩:=hm;exact⟨o,es,ep,k _ o (λz=>(hch _ z).2.1 rfl) ho,r⟩
 ·refine (I.hok b u e).stay (λc v hc q=>k c v ?_ q) (λ_ q=>q) λc v q _=>q;rcases hc with z|z
  ·rw[z];exact nch b u e
  ·exact nch c _ z
end
structure Rg(z TI TO i1 i2:Addr):Prop where
 a1:TI≠z
 a2:TO≠z
 a3:i1≠z
 a4:i2≠z
 a5:TI≠TO
 a6:TI≠i1
 a7:TI≠i2
 a8:TO≠i1
 a9:TO≠i2
 a0:i1≠i2
def ja:List D->List D->List D
 | x::xs,y::ys=>.tuple [x,y]::ja xs ys
 | _,_=>[]
def o8:∀ {xs ys:List D}{i:Nat}{d:D},(ja xs ys)[i]?=some d->∃x y,xs[i]?=some x/\ys[i]?=some y/\d=.tuple [x,y]
 | [],_,i,d,h=>by simp[ja] at h
 | _::_,[],i,d,h=>by simp[ja] at h
 | x::xs,y::ys,0,d,h=>by simp[ja] at h;exact⟨x,y,rfl,rfl,h.symm⟩
 | x::xs,y::ys,i+1,d,h=>by
  simp?[ja,yY] at h;let⟨a,b,h1,h2,h3⟩:=o8 h;exact⟨a,b,by simpa using h1,by simpa using h2,h3⟩
def mn:∀ (xs ys:List D),(ja xs ys).length=min xs.length ys.length
 | [],_=>by simp[ja]
 | _::_,[]=>by simp[ja]
 | x::xs,y::ys=>by simp[ja,mn xs ys]
def EI{K:W.Frag}(h1:sq1 HF vs)(mo1:∀H H',aP H H'->sq1 H vs->sq1 H' vs)(h2:sq2 HF us)(mo2:∀H H',aP H H'->sq2 H us->sq2 H' us)(r1:au K HF xs vs)(r2:au K HF ys us) :
  rE K (P3 sq1 sq2) HF (ja xs ys) where
 go:=λi d H₁ HF₁ e s1 s2=>by
  let⟨x,y,hx,hy,rfl⟩:=o8 e;let⟨v,hv,rv⟩:=r1.getD hx;let⟨u,hu,ru⟩:=r2.getD hy;have q1:=mo1 _ _ s2 (mo1 _ _ s1 h1);have q2:=mo2 _ _ s2 (mo2 _ _ s1 h2);refine⟨⟨vs,us,v,u,q1,q2,hv,hu⟩,λw H₂ ⟨T,a,b,e1,hT,e2,ha,hb⟩=>?_⟩;have ea:=ha vs q1;have eb:=hb us q2;rw[hv] at ea;rw[hu] at eb;cases ea;cases eb;subst e1 e2;exact⟨_,.new s2 hT,c4 (s2.free hT) (au.cons (rv.mono s1) (au.cons (ru.mono s1) au.nil))⟩
 stop:=λH₁ HF₁ s1 s2=>⟨vs,us,mo1 _ _ s2 (mo1 _ _ s1 h1),mo2 _ _ s2 (mo2 _ _ s1 h2),by rw[mn,r1.length,r2.length];lia⟩
def cut(xs:List α)(lo hi:Option Int):List α:=(xs.drop (HT.bw xs.length 0 lo)).take (HT.bw xs.length xs.length hi - HT.bw xs.length 0 lo)
def Bg(xs:List α)(lo hi:Option Int):(cut xs lo hi).length<=xs.length:=by
 unfold cut;rw[jV,qH];lia
def pf{K:W.Frag}(r:au K H ds vs)(lo hi:Option Int):au K H (cut ds lo hi) (cut vs lo hi):=by
 unfold cut;rw[r.length];exact (r.drop _).take _
section
def Cr{vl:Value}{lo:Option Int}(ht:IsTup s.heap t its)(hs:s.heap.IsSliceOf sl vl vu .none)(pl:IsPart vl lo)(pu:IsPart vu hi)
  (hw:HT.bw its.size 0 lo=0/\HT.bw its.size its.size hi=its.size) (h:Q (.ref t) s):wpAny (model prog w) A (getItem (.ref t) (.ref sl)) Q E s:=by
 let⟨os,hos,hcs,hds⟩:=id hs;have hTs:s.TypeIs (.ref sl) "slice":=⟨os,hos,hcs⟩
 unfold getItem
 try with_reducible refine xX ?_
 first|refine zV (zW ?_)|skip
 refine zV (wpAny_sequenceKey ht.typeIs (by decide) (zV (qC (name:=Str.ofString "__getitem__") ht.typeIs jF (qV jF ht.typeIs entry_tuple_getitem ?_ (args_tuple_getitem _ _)))));refine zV (m:=Builtin.Tuple.tupleItemsOf (.ref t)) (tupleItemsOf_ ht (zV (wC hTs ?_)));rw[yL (by decide)];refine zV (HT.g8 hs pl pu ?_);show wpAny _ _ (if (((HT.bw its.size 0 lo:Nat):Int) == 0&&(1:Int) == 1&&(HT.bw its.size its.size hi - HT.bw its.size 0 lo) == its.size)=true then _ else _) _ _ s;rw[hw.1,hw.2,yL (by simp)];unfold Builtin.Tuple.tupleIsExact;refine zV (zV (wC ht.typeIs (zW ?_)));rw[yL (by decide)]
 first
  | exact zV (vY (zW ⟨_,rfl,zW h⟩))
  | exact zV (vY (zV (zW (zW ⟨_,rfl,zW h⟩))))
def P7(K:W.Frag):V->Option Int->Option Int->Hp->VK->Prop:=λx lo hi H Q=>∃a xs,x=.ref a/\eD K H a xs/\(cut xs lo hi=xs->Q (.ref a) H)/\∀p,H p=none->Q (.ref p) (upd H p (.tup (cut xs lo hi)))
def Nw:IT X (P7 X.K):=by
 intro pins s σ H x v vl vu lo hi sl Q I rx hs pl pu h;let⟨a,xs,rfl,hx,q1,q2⟩:=h;by_cases hw:HT.bw xs.length 0 lo=0/\HT.bw xs.length xs.length hi=xs.length
 ·cases rx;let⟨its,r,ht,hz⟩:=I.tuple hx;have hlen:its.toArray.size=xs.length:=by rw[zH];exact r.length.symm
  refine⟨"tuple",_,PyProof.Rows.slot_tuple_getitem.lookup,ht.typeIs,Cr ht hs pl pu (by rw[hlen];exact hw) ⟨.ref a,H,I,rfl,q1 ?_⟩⟩;unfold cut;rw[hw.1,hw.2,List.drop_zero,Nat.sub_zero,List.take_length]
 ·exact L3 pins s σ H (.ref a) v vl vu lo hi sl Q I rx hs pl pu ⟨a,xs,rfl,hx,hw,q2⟩
def P6(K:W.Frag):V->Option Int->Option Int->Hp->VK->Prop:=λx lo hi H Q=>∃a xs,x=.ref a/\gH K H a xs/\∀p,H p=none->Q (.ref p) (upd H p (.lst (cut xs lo hi)))
def yw(lo hi:Option Int)(n:Nat):sliceBounds lo hi none n=(((HT.bw n 0 lo:Nat):Int),((HT.bw n n hi:Nat):Int),1):=by
 have h1:(1:Int) > 0:=by lia
 refine Prod.ext ?_ (Prod.ext ?_ rfl)
 ·cases lo with
  | none=>simp[sliceBounds,HT.bw]
  | some x =>
   by_cases h:x < 0
   ·simp?[sliceBounds,HT.bw,kK,h1,xH,yL h];lia
   ·simp?[sliceBounds,HT.bw,kK,h1,xH,yN h];lia
 ·cases hi with
  | none=>simp[sliceBounds,HT.bw]
  | some x =>
   by_cases h:x < 0
   ·simp?[sliceBounds,HT.bw,kK,h1,xH,yL h];lia
   ·simp?[sliceBounds,HT.bw,kK,h1,xH,yN h];lia
def HJ:IT X (P6 X.K):=by
 intro pins s σ H x v vl vu lo hi sl Q I rx hs pl pu h;let⟨a,xs,rfl,hx,q⟩:=h;cases rx;let⟨its,r,p,hz⟩:=I.list hx;have hlen:=r.length;refine⟨"list",_,slot_list_getitem.lookup,p.isList.typeIs,wpAny_getItem_list_slice p.isList hs pl pu .none (by simp) ?_ (by rw[zH];lia)⟩;rw[W.kmk_pick_nat its.toArray (yw lo hi its.toArray.size)];have e:((its.toArray.toList.drop (HT.bw its.toArray.size 0 lo)).take (HT.bw its.toArray.size its.toArray.size hi - HT.bw its.toArray.size 0 lo))=cut its lo hi:=by unfold cut;simp
 rw[e];have rc:aH (cut xs lo hi) (cut its lo hi):=by unfold cut;rw[hlen];exact (r.drop _).take _
 exact⟨.ref s.heap.objs.size,_,I.lnew (t':=s.toks) rc (yD (Bg xs lo hi) hz),rfl,q _ I.fresh⟩
def Rn(K:W.Frag)(f:Env->Option (Option Int)):TO:=λσ H Q=>∃HF ρ o,aP HF H/\cB K HF ρ σ/\f ρ=some o/\∀H' HF',bF HF H HF' H'->Q o H'
def DO(X:Cx)(e:Option Expr)(f:Env->Option (Option Int)):Prop:=PO X e (Rn X.K f)
def eu:Env->Option (Option Int):=λ_=>some none
def gI:D->Option Int|.int i=>some i|_=>none
def nK(f:Env->Option D):Env->Option (Option Int):=λρ=>(f ρ).bind λd=>(gI d).map some
def Jd:DO X none eu:=λpins s σ H Q I ⟨HF,ρ,o,sm,eo,hf,q⟩=>IP pins s σ H Q I (by cases hf;exact q H HF (.refl sm))
def HD(h:DE X e f):DO X (some e) (nK f):=λpins s σ H Q I ⟨HF,ρ,o,sm,eo,hf,q⟩=>ui h pins s σ H Q I (by
 let⟨d,hd,hf⟩:=bs hf;let⟨i,hi,rfl⟩:=af hf;cases d<;>try cases hi
 exact⟨HF,ρ,_,sm,eo,hd,λv H1 HF1 g1 r1=>⟨_,by simpa only[Rep] using r1,q H1 HF1 g1⟩⟩)
variable {lo hi:Option Expr}{fl fh:Env->Option (Option Int)}
def dw(g:D->Option Int->Option Int->Option β)(fa:Env->Option D)(fl fh:Env->Option (Option Int)):Env->Option β:=λρ=>(fa ρ).bind λx=>(fl ρ).bind λl=>(fh ρ).bind λh=>g x l h
end
def pj:∀ {l:List α},(∀x∈l,f x=g x)->l.filterMap f=l.filterMap g
 | [],_=>rfl
 | x::l,h=>by rw[jG,jG,h x zE,pj λy hy=>h y (zC _ hy)]
def uZ(xs:List Value):((List.range xs.length).filterMap λ(k:Nat)=>xs.toArray[(((xs.length:Nat):Int) - 1+(k:Int) * (-1)).toNat]?)=xs.reverse:=by
 have e:∀k∈List.range xs.length,xs.toArray[(((xs.length:Nat):Int) - 1+(k:Int) * (-1)).toNat]?=xs.reverse[k]?:=λk hk=>by
  have hk':k < xs.length:=by simpa using hk
  have:(((xs.length:Nat):Int) - 1+(k:Int) * (-1)).toNat=xs.length - 1 - k:=by lia
  rw[this,vR,List.getElem?_reverse hk']
 rw[pj e];have:=xs.length_reverse;apply List.ext_getElem?;intro i;have key:∀ (l:List Value),(List.range l.length).filterMap (λ(k:Nat)=>l[k]?)=l:=λl=>by
  induction l with
  | nil=>rfl
  | cons x l ih =>
   rw[zL,vJ,jG];simp?[xQ];rw[List.filterMap_map]
   congr 1
 have k2:=key xs.reverse;rw[List.length_reverse] at k2;rw[k2]
def Iq{prog:Program}{w:World}{A:Around}{E:Value->Shared->Prop}{s:Shared}{t sl:Addr}{its:List Value}{tk:Tok}{Q:Value->Shared->Prop}(ht:IsTup s.heap t its.toArray)(hs:s.heap.IsSliceOf sl .none .none (.int (-1) tk))
  (hz:its.length<=sizeLine) (h:Q (.ref s.heap.objs.size) { s with heap:=s.heap.push { cls:=.type "tuple",data:=.seq its.reverse.toArray } }):wpAny (model prog w) A (getItem (.ref t) (.ref sl)) Q E s:=by
 let⟨os,hos,hcs,hds⟩:=id hs;have hTs:s.TypeIs (.ref sl) "slice":=⟨os,hos,hcs⟩
 unfold getItem
 try with_reducible refine xX ?_
 first|refine zV (zW ?_)|skip
 refine zV (wpAny_sequenceKey ht.typeIs (by decide) (zV (qC (name:=Str.ofString "__getitem__") ht.typeIs jF (qV jF ht.typeIs entry_tuple_getitem ?_ (args_tuple_getitem _ _)))));refine zV (m:=Builtin.Tuple.tupleItemsOf (.ref t)) (tupleItemsOf_ ht (zV (wC hTs ?_)));rw[yL (by decide)];have hap:∀ {R:Int×Int×Nat->Shared->Prop},R (((its.length:Nat):Int) - 1,-1,its.length) s->wpAny (model prog w) A.in1 (Builtin.Slice.sliceApplied (.ref sl) (pure ((its.toArray.size:Nat):Int))) R E s:=λ{R} hR=>by
  unfold Builtin.Slice.sliceApplied Builtin.Slice.sliceFields;refine zV (zV (qT hos hds (x:=.none) rfl (zV (qT hos hds (x:=.none) rfl (zV (qT hos hds (x:=.int (-1) tk) rfl (zW ?_)))))));refine zV (slicePart_int ?_);show wpAny _ _ (if ((-1:Int) == 0)=true then _ else _) _ _ s;rw[yN (by decide)];refine zV (slicePart_none (zV (slicePart_none (zV (zW ?_)))));have e1:Builtin.Slice.sliceAdjust none none (-1) ((its.toArray.size:Nat):Int)=(((its.length:Nat):Int) - 1,-1):=by simp[Builtin.Slice.sliceAdjust]
  show wpAny _ _ (match Builtin.Slice.sliceAdjust none none (-1) ((its.toArray.size:Nat):Int) with|(lo,hi)=>pure (lo,(-1:Int),Builtin.Slice.slicePlaces lo hi (-1))) _ _ s;rw[e1];have e2:Builtin.Slice.slicePlaces (((its.length:Nat):Int) - 1) (-1) (-1)=its.length:=by
   unfold Builtin.Slice.slicePlaces;rw[yN (by decide)];simp?[Int.neg_neg,Int.ediv_one];split<;>lia
  show wpAny _ _ (pure (((its.length:Nat):Int) - 1,(-1:Int),Builtin.Slice.slicePlaces (((its.length:Nat):Int) - 1) (-1) (-1))) _ _ s;rw[e2];exact zW hR
 first
  | refine zV (hap ?_)
  | refine zV (wpAny_of_in1 (hap ?_))
 show wpAny _ _ (if ((((its.length:Nat):Int) - 1) == 0&&(-1:Int) == 1&&its.length == its.toArray.size)=true then _ else _) _ _ s;rw[yN (by simp),uZ];have hz':sizeOk (.seq its.reverse.toArray):=by show its.reverse.toArray.size<=sizeLine;simpa using hz
 first
  | exact zV (m:=Builtin.Tuple.tupleExact _) (qL (zW ⟨_,rfl,zW h⟩) hz')
  | exact zV (m:=Builtin.Tuple.tupleExact _) (qL (zV (zW (zW ⟨_,rfl,zW h⟩))) hz')
  | exact zV (zV (m:=Builtin.Tuple.tupleExact _) (qL (zW (zW ⟨_,rfl,zW h⟩)) hz'))
  | exact zV (zV (m:=Builtin.Tuple.tupleExact _) (qL (zW ⟨_,rfl,zW h⟩) hz'))
def LI(ha:PE X a ta):PE X (.Subscript a (.Slice none none (some (.UnaryOp .USub (.Constant (.int 1) j p4) p3)) p2) pos) (λσ H Q=>ta σ H λx H1=>∃b xs,x=.ref b/\eD X.K H1 b xs/\∀p,H1 p=none->Q (.ref p) (upd H1 p (.tup xs.reverse))):=by
 intro pins s σ H Q I h;refine Subscript_ (bR (ha pins s σ H _ I h) λv s1 ⟨x,H1,I1,r1,b,xs,e,hq,q⟩=>?_);subst e;cases r1;refine wpAny_Slice ?_;rw[evalPart_none];refine zW (zW ?_);have hst:=ui (X:=X) (Gv (op:=.USub) ze (Ay (X:=X) (i:=1) (j:=j) (pos:=p4)) (pos:=p3)) pins s1 σ H1 (λo H'=>o=some (-1)/\H'=H1) I1 ⟨1,rfl,-1,rfl,rfl,rfl⟩;refine bR hst λvst s2 ⟨o,H2,I2,pst,e1,e2⟩=>?_;subst e1 e2;cases pst with
 | int _ tk =>
 let⟨its,r,ht,hz⟩:=I2.tuple hq;have I4:Inv X pins σ H2 { s2 with heap:=s2.heap.push { cls:=.type "slice",data:=.fields #[.none,.none,.int (-1) tk] } }:=I2.kept (t':=s2.toks) λb ob q=>zU _ q;let⟨its',r',ht',_⟩:=I4.tuple hq;refine tail_any (ops:=[.ref b,.ref s2.heap.objs.size]) ht'.typeIs PyProof.Rows.slot_tuple_getitem.lookup (Iq ht' (Heap.IsSliceOf.new ..) (by rw[<- r'.length];exact hz) ?_) (by with_unfolding_all rfl);have hv:aH xs.reverse its'.reverse:=L2.aH.reverse r';exact⟨.ref _,_,I4.laid (t':=s2.toks) (o:=.tup xs.reverse) (λb ob q=>zU _ q) (yM _) ⟨by rw[List.length_reverse];exact hz,_,hv,oa.new _ _⟩,rfl,q _ I4.fresh⟩
def Ph:D->Option D|.tuple ds=>some (.tuple ds.reverse)|_=>none
def f1(g:D->Option D)(f:Env->Option D):Env->Option D:=λρ=>(f ρ).bind g
def K6(ha:DE X a fa):DE X (.Subscript a (.Slice none none (some (.UnaryOp .USub (.Constant (.int 1) j p4) p3)) p2) pos) (f1 Ph fa):=aN (LI ha) λσ H Q ⟨HF,ρ,d,sm,eo,hf,q⟩=>by
 let⟨x,hx,hf⟩:=bs hf;refine⟨HF,ρ,x,sm,eo,hx,λv1 H1 HF1 g1 r1=>?_⟩;cases x<;>try cases hf
 simp?[Rep] at r1;let⟨b,vs,rfl,hs,rr⟩:=r1;exact⟨b,vs,rfl,ay g1.fh hs,λp hp=>q _ _ _ (g1.trans (.new g1.fh hp)) (c4 (g1.fh.free hp) rr.reverse)⟩
end Dl
namespace HT
open PySem PyProof.Rows
section
open PySem.SeqAt
open PySem.AutoSeq1 (wpAny_loadPart')
open PySem.MeetsSeq PySem.MeetsSeq2 PySem.MeetsSeq3
end
end HT
namespace Dl
open PySem L2 PySem.Spec PyProof.Rows
def gc:D->Option (List Int)|.tuple ds=>intsOf ds|_=>none
def ik(h:gc x=some ns):x=.tuple (ns.map PyData.int):=by
 cases x<;>try cases h
 rename_i xs;have h:intsOf xs=some ns:=h;rw[di h]
end Dl
namespace En
open PySem PyProof.Rows
open AutoSeq1 (wpAny_loadPart')
def noFill_tup:fillsNumberSlot (.type "tuple") "mul"=pure false:=PySem.fillsNumberSlot_seq (id:="tuple.__mul__") (r:=some (.builtin "tuple.__rmul__")) F.slot_tuple_mul.lookup (by decide +kernel) F.slot_tuple_rmul.lookup (by decide +kernel)
def repeat_tup:seqRepeat? (.type "tuple")=pure (some (.builtin "tuple.__mul__")):=by
 unfold seqRepeat?;rw[PySem.seqSlot_of (T:="tuple") (name:="__mul__") (id:="tuple.__mul__") F.slot_tuple_mul.lookup (by decide +kernel),PySem.seqSlot_of (T:="tuple") (name:="__rmul__") (id:="tuple.__rmul__") F.slot_tuple_rmul.lookup (by decide +kernel)];rfl
def rmul_tup(a:Int)(t:Tok)(l:Addr)(its:Array Value)(n:Nat)(dd:Option Addr)(sl:Array (Option Value)) :
  Meets (Builtin.«int.__rmul__» ⟨[.int a t,.ref l],[]⟩) (λ_ R s=>s.heap.get? l=some { cls:=.type "tuple",dict:=dd,data:=.seq its n,slots:=sl }/\R (.ok (.ret Value.notImplemented)) s) :=
 .of_wp λprog w A R s h=>by
  let⟨hp,g,d,tk,os⟩:=s;let⟨hl,h⟩:=h
  wp_walk
  exact⟨_,rfl,h⟩
def mulT_same(l:Addr)(its:Array Value)(n:Nat)(dd:Option Addr)(sl:Array (Option Value))(k:Int)(t:Tok)(h1:¬ (decide (k < -(2 ^ 63))||decide (k >= 2 ^ 63))=true)(h2:(its.isEmpty||k == 1)=true) :
  Meets (Builtin.«tuple.__mul__» ⟨[.ref l,.int k t],[]⟩) (λ_ R s=>s.heap.get? l=some { cls:=.type "tuple",dict:=dd,data:=.seq its n,slots:=sl }/\R (.ok (.ret (.ref l))) s) :=
 .of_wp λprog w A R s h=>by
  let⟨hp,g,d,tk,os⟩:=s;let⟨hl,h⟩:=h;have f1:=AutoSeq1.idx_int
  wp_walk using wpAny_loadPart' hl
  rw[yN h1]
  wp_walk using wpAny_loadPart' hl
  exact⟨_,rfl,h⟩
def mulT_none(l:Addr)(its:Array Value)(n:Nat)(dd:Option Addr)(sl:Array (Option Value))(k:Int)(t:Tok)(h1:¬ (decide (k < -(2 ^ 63))||decide (k >= 2 ^ 63))=true)(h2:¬ (its.isEmpty||k == 1)=true)(h3:(decide (k<=0)||its.isEmpty)=true) :
  Meets (Builtin.«tuple.__mul__» ⟨[.ref l,.int k t],[]⟩) (λ_ R s=>s.heap.get? l=some { cls:=.type "tuple",dict:=dd,data:=.seq its n,slots:=sl }/\R (.ok (.ret (.ref s.heap.objs.size))) { s with heap:=s.heap.push { cls:=.type "tuple",data:=.seq #[] } }) :=
 .of_wp λprog w A R s h=>by
  let⟨hp,g,d,tk,os⟩:=s;let⟨hl,h⟩:=h;have f1:=AutoSeq1.idx_int
  wp_walk using wpAny_loadPart' hl
  rw[yN h1]
  wp_walk using wpAny_loadPart' hl
  exact⟨_,rfl,h⟩
def mulT_many(l:Addr)(its:Array Value)(n:Nat)(dd:Option Addr)(sl:Array (Option Value))(k:Int)(t:Tok)(h1:¬ (decide (k < -(2 ^ 63))||decide (k >= 2 ^ 63))=true)(h2:¬ (its.isEmpty||k == 1)=true)(h3:¬ (decide (k<=0)||its.isEmpty)=true)
  (h4:¬ ((its.size:Nat):Int) * k > (2 ^ 63 - 1) / 8) (h5:¬ Builtin.Tuple.tupleTooMany (((its.size:Nat):Int) * k)=true) (hz:((List.replicate k.toNat its).foldl (·++·) #[]).size<=sizeLine) :
  Meets (Builtin.«tuple.__mul__» ⟨[.ref l,.int k t],[]⟩) (λ_ R s=>s.heap.get? l=some { cls:=.type "tuple",dict:=dd,data:=.seq its n,slots:=sl }/\R (.ok (.ret (.ref s.heap.objs.size))) { s with heap:=s.heap.push { cls:=.type "tuple",data:=.seq ((List.replicate k.toNat its).foldl (·++·) #[]) } }) :=
 .of_wp λprog w A R s h=>by
  let⟨hp,g,d,tk,os⟩:=s;let⟨hl,h⟩:=h;have f1:=AutoSeq1.idx_int
  wp_walk using wpAny_loadPart' hl
  rw[yN h1]
  wp_walk using wpAny_loadPart' hl
  rw[yN h4]
  wp_walk using wpAny_loadPart' hl
  exact⟨_,rfl,h⟩
end En
namespace Dl
open PySem L2 PySem.Spec PyProof.Rows
def KQ(K:W.Frag):R2:=λx y H Q=>∃a k xs,x=.ref a/\y=.int k/\eD K H a xs/\-(2 ^ 62)<=k/\k < 2 ^ 62/\xs.length * k.toNat<=sizeLine/\((List.replicate k.toNat xs).flatten=xs->Q (.ref a) H) /\
 ∀p,H p=none->Q (.ref p) (upd H p (.tup (List.replicate k.toNat xs).flatten))
def Kh:fT X (binaryOp .Mult) (KQ X.K):=by
 intro pins s σ H x y v u Q I rx ry h;let⟨a,k,xs,rfl,rfl,hq,k1,k2,hz,q1,q2⟩:=h;cases rx;let⟨t,rfl⟩:=ry;let⟨its,r,pl,hzx⟩:=I.tuple hq;have hl:=r.length;let⟨⟨cls,dd,data,sl⟩,ho,hc,n,hd⟩:=id pl;simp only at hc hd;subst hc hd;have b1:¬ (decide (k < -(2 ^ 63))||decide (k >= 2 ^ 63))=true:=by
  simp?[jB,zJ];lia
 refine wpAny_binaryOp_repeat_ref (T:="tuple") (U:="int") (by decide) ⟨_,ho,rfl⟩ (λs'=>typeIs_int s' k t) En.noFill_tup F.fills_int_mul F.slot_int_rmul En.repeat_tup F.slot_int_index.lookup
  (qX F.slot_int_rmul (typeIs_int s k t) F.entry_int_rmul (F.args_int_rmul_2 _ _) (En.rmul_tup k t a its.toArray n dd sl) ⟨ho,rfl,⟨_,ho,rfl⟩,?_⟩)
 have hfl:∀m:Nat,List.foldl (λx1 x2=>x1++x2) #[] (List.replicate m its.toArray)=(List.replicate m its).flatten.toArray:=λm=>by
  have:=foldl_rep its m [];rw[xO] at this;exact this
 by_cases h2:(its.toArray.isEmpty||k == 1)=true
 ·refine qX F.slot_tuple_mul ⟨_,ho,rfl⟩ wM (wA _ _) (En.mulT_same a its.toArray n dd sl k t b1 h2) ⟨ho,⟨.ref a,H,I,rfl,q1 ?_⟩⟩;rw[jB] at h2;rcases h2 with h2|h2
  ·have:xs=[]:=by
    have e:its=[]:=by simpa using h2
    rw[e] at hl;exact List.length_eq_zero_iff.mp hl
   rw[this];simp
  ·have:k=1:=eq_of_beq h2;subst this;simp
 ·by_cases h3:(decide (k<=0)||its.toArray.isEmpty)=true
  ·refine qX F.slot_tuple_mul ⟨_,ho,rfl⟩ wM (wA _ _) (En.mulT_none a its.toArray n dd sl k t b1 h2 h3) ⟨ho,?_⟩;have hk0:k.toNat=0:=by
    simp?[jB,zJ] at h3 h2;rcases h3 with h3|h3
    ·lia
    ·exact absurd (.inl h3) h2
   have q3:=q2 s.heap.objs.size I.fresh;rw[hk0] at q3;exact⟨.ref s.heap.objs.size,_,I.laid (t':=s.toks) (o:=.tup []) (λb ob q=>zU _ q) (yM _) ⟨xV _,[],.nil,oa.new _ _⟩,rfl,q3⟩
  ·have hm:its.length * k.toNat<=sizeLine:=by rw[<- hl];exact hz
   have hkn:(k.toNat:Int)=k:=by
    simp?[jB,zJ,not_or] at h3;lia
   have hmi:((its.toArray.size:Nat):Int) * k=((its.length * k.toNat:Nat):Int):=by rw[zH,Int.natCast_mul,hkn]
   have hv:=L2.aH.rep r k.toNat;have hlen2:(List.replicate k.toNat xs).flatten.length<=sizeLine:=by rw[len_rep,Nat.mul_comm];exact hz
   have hs8:(sizeLine:Nat)<=(2 ^ 63 - 1) / 8:=by decide
   have h4:¬ ((its.toArray.size:Nat):Int) * k > (2 ^ 63 - 1) / 8:=by rw[hmi];lia
   have h5:¬ Builtin.Tuple.tupleTooMany (((its.toArray.size:Nat):Int) * k)=true:=by
    unfold Builtin.Tuple.tupleTooMany;rw[hmi];simp?[zJ];lia
   refine qX F.slot_tuple_mul ⟨_,ho,rfl⟩ wM (wA _ _) (En.mulT_many a its.toArray n dd sl k t b1 h2 h3 h4 h5 (by rw[hfl,zH,<- hv.length];exact hlen2)) ⟨ho,?_⟩;rw[hfl];exact⟨.ref s.heap.objs.size,_,I.laid (t':=s.toks) (o:=.tup (List.replicate k.toNat xs).flatten) (λb ob q=>zU _ q) (yM _) ⟨hlen2,_,hv,oa.new _ _⟩,rfl,q2 _ I.fresh⟩
def wZ:D->D->Option D
 | .tuple ds,.int k=>if uy k=true/\ds.length * k.toNat<=sizeLine then some (.tuple (List.replicate k.toNat ds).flatten) else none
 | _,_=>none
def p6{K:W.Frag}(r:au K HF ds vs):∀k:Nat,au K HF (List.replicate k ds).flatten (List.replicate k vs).flatten
 | 0=>au.nil
 | k+1=>by rw[xE,xE,qM,qM];exact r.append (p6 r k)
def Fb{K:W.Frag}:dF K (KQ K) wZ:=by
 intro HF H x y v1 v2 d Q sm r1 r2 hg q;cases x<;>cases y<;>simp?[wZ] at hg<;>try cases hg
 split at hg
 ·rename_i xs k hh;cases hg;simp?[Rep] at r1 r2;let⟨a,vs,rfl,ha,ra⟩:=r1;have ok:=hh.1;unfold uy at ok;rw[zF] at ok;refine⟨a,k,vs,rfl,r2,ay sm ha,yQ ok.1,yQ ok.2,by rw[ra.length];exact hh.2,λe=>q _ H HF (.refl sm) ?_,λp hp=>q _ _ _ (.new sm hp) (c4 (sm.free hp) (p6 ra _))⟩;simp?[Rep];refine⟨a,vs,rfl,ha,?_⟩;have:=p6 ra k.toNat;rw[e] at this;exact this
 ·cases hg
end Dl
namespace En
open PySem PyProof.Rows
def call_setT(hh:A.handled=none)(hl:s.heap.IsTuple l its)(hi:IntsAre its.toList ns)(hb:its.size+1 < scanBound)
  (h:∀ (h':Heap) (tk:Nat),h'.SetOf (intKind prog w) s.heap.objs.size (λk'=>(firstMet (λi=>ns.getD i 0) its.size).any (· == k')) (firstMet (λi=>ns.getD i 0) its.size).length->(∀b o,b < s.heap.objs.size->s.heap.get? b=some o->h'.get? b=some o)->Q (.ref s.heap.objs.size) { s with heap:=h',toks:=tk }) :
  wpAny (model prog w) A (call (.type "set") [.ref l]) Q E s:=by
 let⟨c,tl,hmro⟩:=F.called_set.mro;have hmade:=F.called_set.made;have hsub:=F.called_set.sub;refine wpAny_call (codeAny_of_tree ?_);show wpAny _ _ (callAny (.type "set") _) _ _ _;refine zW ⟨Code.quiet_builtin _ (by decide +kernel),kC F.entry_type_call ?_⟩;rw[Around.under_plain (weight_type_call_type "set" [.ref l] []) rfl];have h1:=F.called_set.notType;have h2:=F.called_set.canCreate;have hct:=F.typeCall_set_1 (.ref l)
 repeat (any_goals (first|assumption|wp_step))
 refine jR (code_set_new_1 (.ref l) (E:=E) (Q₁:=λobj s1=>∃led:Bool,obj=.ref s.heap.objs.size/\s1={ s with heap:=s.heap.push { cls:=.type "set",dict:=none,data:=.set #[] 0 (.fresh 0 0 led) } }) λled=>⟨led,rfl,rfl⟩) λr s1 hr=>?_;cases r with
 | error e=>exact hr
 | ok fl =>
  cases fl with
  | ret obj =>
   let⟨led,rfl,rfl⟩:=hr;have hS:(s.heap.push { cls:=.type "set",dict:=none,data:=.set #[] 0 (.fresh 0 0 led) }).get? s.heap.objs.size=some { cls:=.type "set",dict:=none,data:=.set #[] 0 (.fresh 0 0 led) }:=by exact zX _ rfl
   have hT:Shared.TypeIs { s with heap:=s.heap.push { cls:=.type "set",dict:=none,data:=.set #[] 0 (.fresh 0 0 led) } } (.ref s.heap.objs.size) "set":=⟨_,hS,rfl⟩
   have hli:=F.called_set.init.lookup;have hbi:=F.called_set.init.bind (.ref s.heap.objs.size)
   repeat (any_goals (first|assumption|wp_step))
   refine jR (codeAny_call_builtin (R:=wants (λr s2=>r=.none/\∃h' tk,s2={ s with heap:=h',toks:=tk }/\h'.SetOf (intKind prog w) s.heap.objs.size (λk'=>(firstMet (λi=>ns.getD i 0) its.size).any (· == k')) (firstMet (λi=>ns.getD i 0) its.size).length /\
     (∀b o,b < s.heap.objs.size->s.heap.get? b=some o->h'.get? b=some o)) E) F.called_set.init.plain F.entry_set_init (check_set_init_1 hT ?_)) λr2 s2 hr2=>?_
   ·let⟨ol,hol,hcl,nl,hdl⟩:=hl;let⟨ocls,odict,odata,oslots⟩:=ol;simp only at hcl hdl;subst hcl hdl;have hol':(s.heap.push { cls:=.type "set",dict:=none,data:=.set #[] 0 (.fresh 0 0 led) }).get? l=some { cls:=.type "tuple",dict:=odict,data:=.seq its nl,slots:=oslots }:=zU _ hol;have hsls:=F.sub_tuple_set;have hslf:=F.sub_tuple_frozenset;have hne:(Value.type "tuple" == Value.type "dict")=false:=by decide
    have hl1:(s.heap.push { cls:=.type "set",dict:=none,data:=.set #[] 0 (.fresh 0 0 led) }).IsTuple l its:=⟨_,hol',rfl,nl,rfl⟩
    unfold Builtin.«set.__init__» noKeywords Builtin.Frozenset.updateFrom;generalize hPI:pyIter=PI
    wp_walk
    subst hPI;refine xR hl1 (zV (wpAny_runValue ?_));have hlS:l < s.heap.objs.size:=zY hol;have hh3:A.in1.in1.in1.handled=none:=by simp[hh]
    have hneI:l≠(s.heap.push { cls:=.type "set",dict:=none,data:=.set #[] 0 (.fresh 0 0 led) }).objs.size:=by rw[xJ];exact yR (jN hlS)
    have hSf:s.heap.objs.size∉[(s.heap.push { cls:=.type "set",dict:=none,data:=.set #[] 0 (.fresh 0 0 led) }).objs.size,l]:=by
     rw[xJ];simp?[zQ,yF,xU,not_or];exact⟨yR (kL _),jI hlS⟩
    have hval:∀ (i:Nat) (v:Value),its[i]?=some v->∃t,v=.int ((λi=>ns.getD i 0) i) t:=λi v hv=>IntsAre.int_at hi i v (by rw[Array.getElem?_toList];exact hv);refine codeAny_set_update_loopS ((Walks.tuple hh3 _ l hneI its).toS) s.heap.objs.size hSf (λi=>ns.getD i 0) hval hb (its.size - 0) 0 _ (by lia) (xV _) ⟨⟨_,zX _ rfl,rfl,rfl⟩,?ht⟩ ?hS0 ?hR
    case ht=>exact⟨_,zU _ hol',rfl,nl,rfl⟩
    case hS0 =>
     have hget:((s.heap.push { cls:=.type "set",dict:=none,data:=.set #[] 0 (.fresh 0 0 led) }).push { cls:=.type "tuple_iterator",data:=.fields #[.ref l,.int 0 0] }).get? s.heap.objs.size=some { cls:=.type "set",dict:=none,data:=.set #[] 0 (.fresh 0 0 led) }:=by exact zU _ hS
     exact SetOf_congr ((setObjOf_fresh (knd:=intKind prog w) led).setOf hget (by unfold scanBound;lia)) (λ_=>rfl) rfl
    case hR =>
     intro s' hm hS';let⟨h',g',d',tk',os'⟩:=s';have eg:g'=s.gens:=hm.gens;have ed:d'=s.drawn:=hm.drawn;have eo:os'=s.os:=hm.os;subst eg ed eo;show wpAny _ _ _ _ _ _;refine zW ?_;show wpAny _ _ (ret Value.none) _ _ _;refine zW ⟨rfl,h',tk',rfl,hS',λb o hb' e=>?_⟩;refine hm.heap b o ?_ (zU _ (zU _ e));simp?[zQ,yF,xU,not_or];exact⟨yR hb',by rw[xJ];exact yR (jN hb')⟩
   ·cases r2 with
    | error e=>exact hr2
    | ok fl2 =>
     cases fl2 with
     | ret r =>
      let⟨rfl,h',tk,rfl,hS',hk'⟩:=hr2
      repeat (any_goals (first|assumption|wp_step))
      exact h _ _ hS' hk'
     | _=>exact hr2.elim
  | _=>exact hr.elim
end En
namespace Dl
open PySem L2 PySem.Spec PyProof.Rows
variable {env:PySem.Env}
def many(ns:List Int):Nat:=(firstMet (λi=>ns.getD i 0) ns.length).length
def Dt(hc:X.calm=true):dq X (.type "set") (λxs H Q=>∃ (a:Addr) (ns:List Int),xs=[.ref a]/\eD X.K H a (ns.map V.int)/\ns.length+1 < scanBound/\∀q S,H q=none->Q (.ref q) (upd H q (.set S (many ns)))):=by
 intro pins s σ H xs us Q I r h;let⟨a,ns,rfl,hq,hb,q⟩:=h;let⟨u,rfl,rx⟩:=vals1 r;cases rx;let⟨its,rv,pl,hz⟩:=I.tuple hq;have hi:IntsAre its.toArray.toList ns:=intsAre_of rv;have hlen:its.toArray.size=ns.length:=by have:=rv.length;simpa using this.symm
 refine En.call_setT (I.ok.hd hc) (show s.heap.IsTuple a its.toArray from pl) hi (by rw[hlen];exact hb) λh' tk hS hk=>?_;rw[hlen] at hS;exact⟨.ref s.heap.objs.size,_,I.laid (t':=tk) (λb o e=>hk b o (zY e) e) (yM _) (show c7 X.prog X.w _ h' _ (.set _ (many ns)) from hS),rfl,q _ _ I.fresh⟩
def Dr:dq X (.builtin "len") (λxs H Q=>∃ (a:Addr) (S:Int->Bool) (n:Nat),xs=[.ref a]/\H a=some (.set S n)/\Q (.int n) H):=by
 intro pins s σ H xs us Q I r h;let⟨a,S,n,rfl,hq,q⟩:=h;let⟨u,rfl,rx⟩:=vals1 r;cases rx;let⟨o,es,ep,t,ho,hex,hd,hel,hmem,hlt,hf,hn⟩:=(show s.heap.SetOf (intKind X.prog X.w) a S n from I.hok a _ hq)
 have hfit:((es.size:Nat):Int) < 2 ^ 63:=by unfold scanBound at hlt;lia
 refine call_len_set ho hex hd hf hfit ⟨.int n,H,I.tok _,⟨s.toks+1,by rw[hn]⟩,q⟩
def j8:D->Option D:=λd=>(gc d).bind λns=>if ns.length+1 < scanBound then some (.int (many ns)) else none
def Du(hc:X.calm=true)(B:mF X "len" (.builtin "len"))(C:mF X "set" (.type "set"))(h:DE X e f)(he:starEach [e] X.env=(false,eval e X.env)::starEach [] X.env:=by rfl) :
  DE X (.Call (.Name "len" p) [.Call (.Name "set" p') [e] [] pos'] [] pos) (f1 j8 f) :=
 aN (mw Dr B.gl B.mg B.bt (cA (sy (Dt hc) C.gl C.mg C.bt (cA h eH he) (by decide) (by decide) he rfl) eH) (by decide) (by decide) rfl rfl) λσ H Q ⟨HF,ρ,d,sm,eo,hf,q⟩=>by
  let⟨x,hx,hf⟩:=bs hf;let⟨ns,h1,hf⟩:=bs hf;split at hf
  ·rename_i hb;cases hf;refine⟨HF,ρ,x,sm,eo,hx,λv1 H1 HF1 g1 r1=>?_⟩;rw[ik h1] at r1;simp?[Rep] at r1;let⟨a,vs,rfl,hs,rr⟩:=r1;have key:∀ {ns:List Int}{ws:List V},au X.K HF1 (ns.map PyData.int) ws->ws=ns.map V.int:=λ{ns}=>by
    induction ns with
    | nil=>exactλh=>h.nil_inv
    | cons n ns ih =>
     intro ws h;let⟨v,r,rfl,a,b⟩:=h.cons_inv;simp?[Rep] at a;rw[a,ih b];rfl
   have:=key rr;subst this;refine⟨a,ns,rfl,ay g1.fh hs,hb,λb S hb'=>⟨b,S,_,rfl,aG,q _ _ HF1 (g1.trans (.own g1.fh hb')) (by simp[Rep])⟩⟩
  ·cases hf
def jw(val:Nat->Int):∀i,(firstMet val i).length=i↔((List.range i).map val).Nodup
 | 0=>by simp[firstMet]
 | i+1=>by
  have hle:=firstMet_length_le val i;rw[firstMet_succ,step_length,List.range_succ,jA,wK];have ha:=firstMet_any val i (val i);have ih:=jw val i;constructor
  ·intro h;by_cases hin:(firstMet val i).any (· == val i)=true
   ·rw[yL hin] at h;lia
   ·rw[yN hin] at h;refine⟨ih.mp (by lia),by simp,λa hm b hb z=>?_⟩;have hb':b=val i:=by simpa using hb
    subst z hb';rw[ha] at hin;exact hin (List.any_eq_true.mpr ⟨_,hm,by simp⟩)
  ·rintro⟨h1,_,h3⟩;rw[yN ?_]
   ·rw[ih.mpr h1]
   ·rw[ha];intro hin;let⟨x,hx,he⟩:=List.any_eq_true.mp hin;have he':x=val i:=by simpa using he
    exact h3 x hx (val i) (by simp) he'
def AF(ns:List Int):many ns=ns.length↔ns.Nodup:=by
 unfold many;rw[jw];have:(List.range ns.length).map (λi=>ns.getD i 0)=ns:=jt ns 0;rw[this]
def yl{K:W.Frag}(h:dF K r g)(h':dF K r' g'):dF K (λx y H Q=>r x y H Q\/r' x y H Q) (λx y=>(g x y).or (g' x y)):=by
 intro HF H x y v1 v2 d Q sm r1 r2 hg q;cases e:g x y with
 | some d' =>
  have hg:(g x y).or (g' x y)=some d:=hg;rw[e] at hg;cases hg;exact .inl (h HF H x y v1 v2 d Q sm r1 r2 e q)
 | none =>
  have hg:(g x y).or (g' x y)=some d:=hg;rw[e] at hg;exact .inr (h' HF H x y v1 v2 d Q sm r1 r2 hg q)
def CS{K:W.Frag}:dF K (E2 K) (λx y=>(n6 x y).map PyData.list):=by
 intro HF H x y v1 v2 d Q sm r1 r2 hg q;let⟨zs,hg',rfl⟩:=af hg;clear hg;cases x<;>cases y<;>simp?[n6] at hg'<;>try cases hg'
 let⟨rfl,hz⟩:=dS hg';simp?[Rep] at r1 r2;let⟨a,vs,rfl,ha,ra⟩:=r1;let⟨b,us,rfl,hb,rb⟩:=r2;refine⟨a,b,vs,us,rfl,rfl,sm.seq ha,sm.seq hb,by rw[ra.length,rb.length,<- zN];exact hz,λp hp=>q _ _ _ (.new sm hp) ?_⟩;simp?[Rep];exact⟨p,_,rfl,.inl (.inl aG),(ra.append rb).mono (bL (sm.free hp))⟩
def aA:D->D->Option D:=λx y=>((uU (λ_ _=>True) λi j=>.int (i+j)) x y).or ((J0 x y).or ((n6 x y).map PyData.list))
def Bk.add(C:Bk X N sc k)(ha:DE X a fa)(hb:DE X b fb):DE X (.BinOp a .Add b pos) (f2 aA fa fb):=r8 (Mq.or (C2.or yc)) (yl Eb (yl JX CS)) ha hb
def iz:D->D->Option D:=uU (λ_ _=>True) λi j=>.int (i - j)
def Bk.sub(C:Bk X N sc k)(ha:DE X a fa)(hb:DE X b fb):DE X (.BinOp a .Sub b pos) (f2 iz fa fb):=r8 Li Eb ha hb
def dv:D->D->Option D:=λx y=>((uU rg λi j=>.int (i * j)) x y).or (wZ x y)
def Bk.mul(C:Bk X N sc k)(ha:DE X a fa)(hb:DE X b fb):DE X (.BinOp a .Mult b pos) (f2 dv fa fb):=r8 (Lb.or Kh) (yl FF Fb) ha hb
def lM:D->D->Option D:=uU Ih λi j=>.int (i / j)
def Bk.div(C:Bk X N sc k)(ha:DE X a fa)(hb:DE X b fb):DE X (.BinOp a .FloorDiv b pos) (f2 lM fa fb):=r8 J9 FF ha hb
def kl:D->D->Option D:=uU (λ_ j=>0 < j) λi j=>.int (i % j)
def Bk.mod(C:Bk X N sc k)(ha:DE X a fa)(hb:DE X b fb):DE X (.BinOp a .Mod b pos) (f2 kl fa fb):=r8 Lv FF ha hb
def Ic:D->D->Option D:=uU (λ_ _=>True) λi j=>.bool (decide (i < j))
def Cf:D->D->Option D:=uU (λ_ _=>True) λi j=>.bool (decide (i<=j))
def si:D->D->Option D:=uU (λ_ _=>True) λi j=>.bool (decide (j < i))
def bo:D->D->Option D:=λx y=>(KH x y).map PyData.bool
def cO:D->D->Option D:=λx y=>(NL x y).map PyData.bool
def Bk.u64(C:Bk X N sc k):X.A.units+64 < cLine:=C.room.units
def Bk.lt(C:Bk X N sc k)(ha:DE X a fa)(hb:DE X b fb):DE X (.Compare a [.Lt] [b] pos) (f2 Ic fa fb):=gF GA jr ha hb (dA _)
def Bk.le(C:Bk X N sc k)(ha:DE X a fa)(hb:DE X b fb):DE X (.Compare a [.LtE] [b] pos) (f2 Cf fa fb):=gF D1 jr ha hb (dA _)
def Bk.gt(C:Bk X N sc k)(ha:DE X a fa)(hb:DE X b fb):DE X (.Compare a [.Gt] [b] pos) (f2 si fa fb):=gF KE jr ha hb (dA _)
def Bk.eq(C:Bk X N sc k)(ha:DE X a fa)(hb:DE X b fb):DE X (.Compare a [.Eq] [b] pos) (f2 bo fa fb):=gF (Gf C.u64) jy ha hb (dA _)
def Bk.ne(C:Bk X N sc k)(ha:DE X a fa)(hb:DE X b fb):DE X (.Compare a [.NotEq] [b] pos) (f2 cO fa fb):=gF (G9 C.u64) jy ha hb (dA _)
def Bk.tlt(C:Bk X N sc k)(ha:DE X a fa)(hb:DE X b fb):DT X (.Compare a [.Lt] [b] pos) (fB (f2 Ic fa fb)):=gp GA jr ha hb (dA _)
def Bk.tle(C:Bk X N sc k)(ha:DE X a fa)(hb:DE X b fb):DT X (.Compare a [.LtE] [b] pos) (fB (f2 Cf fa fb)):=gp D1 jr ha hb (dA _)
def Bk.tgt(C:Bk X N sc k)(ha:DE X a fa)(hb:DE X b fb):DT X (.Compare a [.Gt] [b] pos) (fB (f2 si fa fb)):=gp KE jr ha hb (dA _)
def Bk.teq(C:Bk X N sc k)(ha:DE X a fa)(hb:DE X b fb):DT X (.Compare a [.Eq] [b] pos) (fB (f2 bo fa fb)):=gp (Gf C.u64) jy ha hb (dA _)
def Bk.tne(C:Bk X N sc k)(ha:DE X a fa)(hb:DE X b fb):DT X (.Compare a [.NotEq] [b] pos) (fB (f2 cO fa fb)):=gp (G9 C.u64) jy ha hb (dA _)
def b0:D->Option Int->Option Int->Option D|.tuple ds,lo,hi=>some (.tuple (cut ds lo hi))|.list ds,lo,hi=>some (.list (cut ds lo hi))|_,_,_=>none
def Bk.cut(C:Bk X N sc k){lo:Option Expr}{fl:Env->Option (Option Int)}(ha:DE X a fa)(hl:DO X lo fl)(hh:DO X hi fh):DE X (.Subscript a (.Slice lo hi none p2) pos) (dw b0 fa fl fh):=aN (wx (Nw.or HJ) ha hl hh) λσ H Q ⟨HF,ρ,d,sm,eo,hf,q⟩=>by
 let⟨x,hx,hf⟩:=bs hf;let⟨l,hl,hf⟩:=bs hf;let⟨u,hu,hf⟩:=bs hf;refine⟨HF,ρ,x,sm,eo,hx,λv1 H1 HF1 g1 r1=>⟨HF1,ρ,l,g1.fh,eo.mono g1.ff,hl,λH2 HF2 g2=>⟨HF2,ρ,u,g2.fh,eo.mono (g1.ff.trans g2.ff),hu,λH3 HF3 g3=>?_⟩⟩⟩;have G:=(g1.trans g2).trans g3;have r3:=r1.mono (g2.ff.trans g3.ff);cases x<;>try cases hf
 ·simp?[Rep] at r3;let⟨b,vs,rfl,hs,rr⟩:=r3;refine .inr ⟨b,vs,rfl,G.fh.seq hs,λp hp=>q _ _ _ (G.trans (.new G.fh hp)) ?_⟩;simp?[Rep];exact⟨p,_,rfl,.inl (.inl aG),(pf rr l u).mono (bL (G.fh.free hp))⟩
 ·simp?[Rep] at r3;let⟨b,vs,rfl,hs,rr⟩:=r3;refine .inl ⟨b,vs,rfl,ay G.fh hs,λe=>q _ H3 HF3 G ?_,λp hp=>q _ _ _ (G.trans (.new G.fh hp)) (c4 (G.fh.free hp) (pf rr l u))⟩;simp?[Rep];refine⟨b,vs,rfl,hs,?_⟩;have:=pf rr l u;rw[e] at this;exact this
def lI:D->Option D|.int i=>some (.int (-i))|_=>none
def Bk.neg(C:Bk X N sc k)(ha:DE X a fa):DE X (.UnaryOp .USub a pos) (f1 lI fa):=aN (Gv ze ha) λσ H Q ⟨HF,ρ,d,sm,eo,hf,q⟩=>by
 let⟨x,hx,hf⟩:=bs hf;refine⟨HF,ρ,x,sm,eo,hx,λv1 H1 HF1 g1 r1=>?_⟩;cases x<;>try cases hf
 exact⟨_,by simpa only[Rep] using r1,q _ H1 HF1 g1 (by simp[Rep])⟩
def AA:bootBuiltins "len"=some (.builtin "len"):=by decide +kernel
def qw:bootBuiltins "isinstance"=some (.builtin "isinstance"):=by decide +kernel
def Ma:bootBuiltins "int"=some (.type "int"):=by decide +kernel
def He:bootBuiltins "tuple"=some (.type "tuple"):=by decide +kernel
def qa:bootBuiltins "range"=some (.type "range"):=by decide +kernel
def MP:bootBuiltins "all"=some (.builtin "all"):=by decide +kernel
def LR:bootBuiltins "set"=some (.type "set"):=by decide +kernel
def m9:bootBuiltins "sorted"=some (.builtin "sorted"):=by decide +kernel
def uO:bootBuiltins "enumerate"=some (.type "enumerate"):=by decide +kernel
def LH:bootBuiltins "zip"=some (.type "zip"):=by decide +kernel
abbrev bc(f:Env->Option (List D)):Env->Option D:=λρ=>(f ρ).map PyData.list
abbrev bS:List D->Option D:=λds=>(dI ds).map PyData.tuple
def Bk.locl(C:Bk X N sc k)(h:decide (sc.names.lookup x=some .local)=true):X.env.scope.names.lookup x=some .local:=by
 rcases C.tb x _ (yQ h) with q|⟨q,_⟩
 ·exact q
 ·cases q
def isStar:Expr->Bool|.Starred ..=>true|_=>false
def aO(h:isStar e=false):starEach (e::es) env=(false,eval e env)::starEach es env:=by
 cases e<;>first|rfl|cases h
def Mp(he:DE X e f)(hs:DA X es g)(h:isStar e=false:=by rfl):DA X (e::es) (aa f g):=BE he hs (aO h)
def qf:swapsWith (.ListComp elt gens scope pos) (some (.Name x py)) line env=pure (env.blockKind == .function&&env.kindOf x == some .local && py.line == pos.line
     &&!(scope.names.any λ(n,k)=>n == x&&(k == .local || k == .cell))):=rfl
def Kr(h:env.scope.kind=.function):env.blockKind=.function:=by unfold PySem.Env.blockKind;rw[h];rfl
def Bk.swap(C:Bk X N sc k)(h:decide (sc.names.lookup x=some .local)=true)(h2:(py.line == pos.line&&!(scope.names.any λ(n,k)=>n == x&&(k == .local || k == .cell)))=true) :
  swapsWith (.ListComp elt gens scope pos) (some (.Name x py)) line X.env=pure true:=by
 rw[qf,Kr C.kd,show X.env.kindOf x=some .local from C.locl h];rw[Bool.and_assoc,h2];rfl
def Bk.noswap(C:Bk X N sc k)(h:decide (sc.names.lookup x=some .cell)=true) :
  swapsWith (.ListComp elt gens scope pos) (some (.Name x py)) line X.env=pure false:=by
 have q:X.env.kindOf x=some .cell:=by
  rcases C.tb x _ (yQ h) with q|⟨q,_⟩
  ·exact q
  ·cases q
 rw[qf,q,Kr C.kd];rfl
section
variable {K:W.Frag}
structure iW(K:W.Frag)(x:Str)(st:Stmt)(ps:List Str):Prop where
 ex:∃ (f:Addr) (fd:FuncData),W.nsIn K mainGlobals x=some (some (.ref f))/\IA K x x st f fd/\Binds K fd ps []
structure HV(K:W.Frag)(mg:Str->Option Value)(x:Str)(st:Stmt)(ps:List Str):Prop where
 ex:∃ (f:Addr) (fd:FuncData),mg x=some (.ref f)/\IA K x x st f fd/\Binds K fd ps []
def iW.mg{h:Heap}{mg:Str->Option Value}{st:Stmt}(D:iW K x st ps)(X:K.In h)(G:h.Ns mainGlobals mg):HV K mg x st ps:=by
 let⟨f,fd,a,b,c⟩:=D.ex;exact⟨f,fd,W.mg_of X G a,b,c⟩
def gC(st:Stmt)(ps:List Str):Prop:=∀ (x qual:Str) (kV doc pm:Value) (an:Option Addr) (cdv ct:Value) (us:List Value),us.length=ps.length->bindArgs (W.fnOf x qual (eY st) (bV st) (aK st) .none kV doc pm an cdv ct) ⟨us,[]⟩=pure (ps.zip us)
def OS{st:Stmt}{kV:Value}(hb:gC st ps)(a:W.nsIn K mainGlobals x=some (some (.ref f)))(l:K.lookup f=some ⟨oc,od,.func (W.fnOf x x (eY st) (bV st) (aK st) .none kV doc pm an cdv ct),osl⟩)
  (c:W.codeIn K cdv x=true) (k:W.keepIn K (.ref f)=true):iW K x st ps:=⟨f,_,a,uA (st:=st) l c k,(uA (st:=st) l c k).binds λkV doc pm an cdv ct us h=>hb _ _ kV doc pm an cdv ct us h⟩
structure nN(K:W.Frag)(x:Str)(st:Stmt)(ps:List Str):Prop where
 ex:∃ (f:Addr) (fd:FuncData) (c P:Addr),W.nsIn K mainGlobals x=some (some (.ref f))/\IA K x x st f fd/\Binds K fd ps []/\fd.code=.ref c/\W.codeHdIn K c P=true
structure MW(K:W.Frag)(mg:Str->Option Value)(x:Str)(st:Stmt)(ps:List Str):Prop where
 ex:∃ (f:Addr) (fd:FuncData) (c P:Addr),mg x=some (.ref f)/\IA K x x st f fd/\Binds K fd ps []/\fd.code=.ref c/\W.codeHdIn K c P=true
def nN.mg{h:Heap}{mg:Str->Option Value}{st:Stmt}(D:nN K x st ps)(X:K.In h)(G:h.Ns mainGlobals mg):MW K mg x st ps:=by
 let⟨f,fd,c,P,a,b⟩:=D.ex;exact⟨f,fd,c,P,W.mg_of X G a,b⟩
def Fh(K:W.Frag)(c:Addr):Addr:=match K.lookup c with
 | some ⟨_,_,.fields vs,_⟩=>(match (vs[11]?:Option Value) with|some (.ref P)=>P|_=>0)
 | _=>0
def Oi{st:Stmt}{kV:Value}(hb:gC st ps)(a:W.nsIn K mainGlobals x=some (some (.ref f)))(l:K.lookup f=some ⟨oc,od,.func (W.fnOf x x (eY st) (bV st) (aK st) .none kV doc pm an (.ref c) ct),osl⟩)
  (cd:W.codeIn K (.ref c) x=true) (k:W.keepIn K (.ref f)=true) (hh:W.codeHdIn K c (Fh K c)=true):nN K x st ps:=⟨f,_,c,Fh K c,a,uA (st:=st) l cd k,(uA (st:=st) l cd k).binds λkV doc pm an cdv ct us h=>hb _ _ kV doc pm an cdv ct us h,rfl,hh⟩
def LW{K:W.Frag}(h:(dy.all λx=>match W.nsIn K mainGlobals x with|some none=>true|_=>false)=true):∀x∈dy,W.nsIn K mainGlobals x=some none:=by
 intro x hx;have:=List.all_eq_true.mp h x hx;split at this
 ·assumption
 ·cases this
def zg{K:W.Frag}{H:Hp}{a:Addr}{ns:List Int}{m:List D->Option D}(hS:gH K H a (ns.map V.int))(hT:fH K H)(h:m [.list (ns.map PyData.int)]=some (.bool true)){X:_}:Pa K 1 m [.ref a] H (λv _=>v=.bl true) X:=by
 refine⟨H,[.list (ns.map PyData.int)],.bool true,.refl _,hT,au.cons ?_ au.nil,rfl,h,λv H' HF' G r=>by simpa only[Rep] using r⟩;simp?[Rep];refine⟨a,_,rfl,hS,?_⟩;clear h hS hT
 induction ns with
 | nil=>exact au.nil
 | cons n ns ih=>exact au.cons (by simp[Rep]) ih
end
def PD(h:isStar e=false)(he:DE X e f)(hs:DA X es g):DA X (e::es) (aa f g):=Mp he hs h
def DL:ao->Option Out:=λ_=>none
def N6{st:Stmt}:DS X HF₀ H₀ st DL:=λpins s σ H E I ⟨HF,ρ,o,S,hg,q⟩=>by cases hg
def k8(f:Env->Option D):ao->Option Out:=λρ=>(f (aR ρ)).map λ_=>.nx ρ
def HH(hs:swapsWith e none pos.line X.env=pure false)(h:DE X e f):DS X HF₀ H₀ (.Expr e pos) (k8 f):=b9 (oE h hs) λE σ H ⟨HF,ρ,o,S,hg,q⟩=>by
 let⟨d,h,rfl⟩:=af hg;exact⟨H,aR ρ,d,.refl _,S.all,h,λv H' HF' G r=>q σ H' HF (S.step G.hh) (.refl _)⟩
def DU(t:Env->Option Bool)(gb:ao->Option Out):Nat->ao->Option Out
 | 0,_=>none
 | n+1,ρ=>(t (aR ρ)).bind λb=>if b=true then (gb ρ).bind fun|.nx ρ'=>DU t gb n ρ'|.rt d=>some (.rt d) else some (.nx ρ)
def FH(n:Nat)(hp:PassesOwn (model X.prog X.w) X.A X.env X.xe)(hc:DT X c t)(hb:AJ X HF₀ H₀ body gb):DS X HF₀ H₀ (.While c body [] pos) (DU t gb n) :=
 b9 (GH hp hc hb) λE σ H ⟨HF,ρ,o,S,hg,q⟩=>by
  refine⟨λm σ' H'=>∃HF' ρ',dO X.K HF₀ H₀ HF' H' ρ' σ'/\aP HF HF'/\DU t gb m ρ'=some o,⟨n,HF,ρ,S,.refl _,hg⟩,?_⟩;rintro m σ' H' ⟨HF',ρ',S',s',hf⟩;cases m with
  | zero=>cases hf
  | succ m =>
   unfold DU at hf;let⟨b,hb,hf⟩:=bs hf;refine⟨H',aR ρ',b,.refl _,S'.all,hb,λH1 HF1 G=>?_⟩;cases b with
   | false =>
    rw[yN yZ] at hf ⊢;cases hf;exact q σ' H1 HF' (S'.step G.hh) s'
   | true =>
    rw[yL rfl] at hf ⊢;let⟨o1,h2,hf⟩:=bs hf;refine⟨λσ2 H3=>∃HF3 ρ3,dO X.K HF₀ H₀ HF3 H3 ρ3 σ2/\aP HF HF3/\DU t gb m ρ3=some o,λσ2 H3 ⟨HF3,ρ3,a1,a2,a3⟩=>⟨m,kL _,HF3,ρ3,a1,a2,a3⟩,HF',ρ',o1,S'.step G.hh,h2,?_⟩;cases o1 with
    | nx ρ2=>exactλσ4 H4 HF4 S4 s4=>⟨HF4,ρ2,S4,s'.trans s4,hf⟩
    | rt d=>cases hf;exact q
def MU:List D->Option D
 | [.int a,.int b]=>some (.int (min a b))
 | [.int a,.int b,.int c]=>some (.int (min (min a b) c))
 | _=>none
def EB(hc:X.calm=true):dq X (.builtin "min") (λxs H Q=>(∃a b:Int,xs=[.int a,.int b]/\Q (.int (min a b)) H)\/(∃a b c:Int,xs=[.int a,.int b,.int c]/\Q (.int (min (min a b) c)) H)):=by
 intro pins s σ H xs us Q I r h;have hh:X.A.handled=none:=I.ok.hd hc;rcases h with ⟨a,b,rfl,q⟩|⟨a,b,c,rfl,q⟩
 ·cases r with
  | cons r1 r =>
   cases r with
   | cons r2 r =>
    cases r;let⟨t,rfl⟩:=r1;let⟨u,rfl⟩:=r2;refine min_two_ints hh λh' tk kp=>⟨.int (min a b),H,I.kept (t':=tk) kp,?_,q⟩
    by_cases h:b < a
    ·rw[yL h,show min a b=b by lia];exact⟨_,rfl⟩
    ·rw[yN h,show min a b=a by lia];exact⟨_,rfl⟩
 ·cases r with
  | cons r1 r =>
   cases r with
   | cons r2 r =>
    cases r with
    | cons r3 r =>
     cases r;let⟨t,rfl⟩:=r1;let⟨u,rfl⟩:=r2;let⟨x,rfl⟩:=r3;refine min_three_ints hh λh' tk kp=>⟨.int (min (min a b) c),H,I.kept (t':=tk) kp,?_,q⟩
     by_cases h:b < a
     ·rw[yL h];by_cases h2:c < b
      ·rw[yL h2,show min (min a b) c=c by lia];exact⟨_,rfl⟩
      ·rw[yN h2,show min (min a b) c=b by lia];exact⟨_,rfl⟩
     ·rw[yN h];by_cases h2:c < a
      ·rw[yL h2,show min (min a b) c=c by lia];exact⟨_,rfl⟩
      ·rw[yN h2,show min (min a b) c=a by lia];exact⟨_,rfl⟩
def vn{K:W.Frag}(r:Rep K H d v):∀ {ds:List D}{vs:List V}(j:Nat),au K H ds vs->au K H (ds.set j d) (vs.set j v)
 | [],vs,j,h=>by rw[h.nil_inv];exact au.nil
 | x::ds,vs,j,h=>by
  let⟨u,us,rfl,a,b⟩:=h.cons_inv;cases j with
  | zero=>exact au.cons r b
  | succ j=>exact au.cons a (vn r j b)
def Dh(i:Nat)(fz:List Nat)(fk f:Env->Option D):ao->Option Out:=λρ=>(lW fz f ρ).bind λp=>(fk (aR p.2)).bind λkd=>match kd with
 | .int k=>mv i (λds=>(DQ ds.length k).map λj=>ds.set j p.1) p.2
 | _=>none
def Hb(i:Nat)(fz:List Nat)(hN:X.N[i]?=some x)(hv:AV X.env.scope x)(hk:DE X e fk)(h:DE X e2 f)(hd:(x == ("__debug__":Str))=false:=by decide)(hcd:(x == ("__classdict__":Str))=false:=by decide)
  (ha:∀v,assign (.Subscript (.Name x px) e spos) X.env v=(do
   let ov <- holding [v] (eval (.Name x px) X.env)
   let iv <- holding [v,ov] (eval e X.env)
   standAt spos
   holding [v,ov,iv] (setItem ov iv v)
   release [v,ov,iv] []):=by intro _;rfl)
  (hs:swapsWithSole [.Subscript (.Name x px) e spos] e2 pos.line X.env=pure false:=by rfl) (hw:swappedStores [.Subscript (.Name x px) e spos] e2 X.env=pure none:=by rfl)
  (h1:(assignEach [.Subscript (.Name x px) e spos] X.env).map (·.2)=[assign (.Subscript (.Name x px) e spos) X.env]:=by rfl):DS X HF₀ H₀ (.Assign [.Subscript (.Name x px) e spos] e2 pos) (Dh i fz fk f) :=
 b9 (zl h (yk (fF hN hv hd hcd) hk set_list ha) hs hw h1) λE σ H ⟨HF,ρ,o,S,hg,q⟩=>by
  let⟨⟨d,ρ'⟩,h1,hg⟩:=bs hg;let⟨kd,h2,hg⟩:=bs hg;cases kd<;>try cases hg
  rename_i k;let⟨ds,es,h3,h4,rfl⟩:=j6 hg;let⟨j,hj,rfl⟩:=af h4;refine m8 S h1 λv H1 HF1 s1 S1 s2 r=>?_;let⟨a,vs,e1,e2,e3,e5,e4⟩:=S1.own i ds h3;refine⟨.ref a,e1,H1,aR ρ',.int k,.refl _,S1.all,h2,λkv H2 HF2 G rk=>?_⟩;simp?[Rep] at rk;have S2:=S1.step G.hh;let⟨a',vs',f1,f2,f3,f5,f4⟩:=S2.own i ds h3;rw[e1] at f1;cases f1;exact⟨a,vs',k,j,rfl,rk,f2,by rw[f4.length];exact hj,q σ _ HF1 (S2.mut h3 e1 f2 (vn r j f4)) s1⟩
def O8:D->Bool|.none=>true|_=>false
def ow{K:W.Frag}(r:Rep K HF d v):decide (v=.non)=O8 d:=by
 cases d<;>simp?[Rep] at r<;>first
  | (subst r;rfl)
  | (let⟨a,vs,rfl,_⟩:=r;rfl)
  | (let⟨a,ks,us,rfl,_⟩:=r;rfl)
  | exact r.elim
def rf:D->D->Option D:=λx y=>if O8 y=true then some (.bool (O8 x)) else none
def lH:D->D->Option D:=λx y=>if O8 y=true then some (.bool (!O8 x)) else none
def BC{K:W.Frag}:dF K (λx y H Q=>y=.non/\Q (.bl (decide (x=.non))) H) rf:=by
 intro HF H x y v1 v2 d Q sm r1 r2 hg q;unfold rf at hg;split at hg
 ·rename_i h;cases hg;have h2:=ow r2;rw[h,zJ] at h2;refine⟨h2,?_⟩;rw[ow r1];exact q _ H HF (.refl sm) (by simp[Rep])
 ·cases hg
def yb{K:W.Frag}:dF K (λx y H Q=>y=.non/\Q (.bl (!decide (x=.non))) H) lH:=by
 intro HF H x y v1 v2 d Q sm r1 r2 hg q;unfold lH at hg;split at hg
 ·rename_i h;cases hg;have h2:=ow r2;rw[h,zJ] at h2;refine⟨h2,?_⟩;rw[ow r1];exact q _ H HF (.refl sm) (by simp[Rep])
 ·cases hg
def Bk.is0(C:Bk X N sc k)(ha:DE X a fa)(hb:DE X b fb):DE X (.Compare a [.Is] [b] pos) (f2 rf fa fb):=gF DY BC ha hb (dA _)
def Bk.not0(C:Bk X N sc k)(ha:DE X a fa)(hb:DE X b fb):DE X (.Compare a [.IsNot] [b] pos) (f2 lH fa fb):=gF Bq yb ha hb (dA _)
def Bk.tis0(C:Bk X N sc k)(ha:DE X a fa)(hb:DE X b fb):DT X (.Compare a [.Is] [b] pos) (fB (f2 rf fa fb)):=gp DY BC ha hb (dA _)
def Bk.tnot0(C:Bk X N sc k)(ha:DE X a fa)(hb:DE X b fb):DT X (.Compare a [.IsNot] [b] pos) (fB (f2 lH fa fb)):=gp Bq yb ha hb (dA _)
def My(hc:X.calm=true)(B:mF X "min" (.builtin "min"))(he:starEach (e::es) X.env=(false,eval e X.env)::starEach es X.env)(hpl:(backTo pos (starEach es X.env)).any (·.1)=false)(ha:DA X (e::es) fs):DE X (.Call (.Name "min" p) (e::es) [] pos) (aS MU fs) :=
 fM (EB hc) (by
  intro HF H ds vs d Q sm r hg q;unfold MU at hg;split at hg
  ·cases hg;let⟨v1,r1,rfl,a1,b1⟩:=r.cons_inv;let⟨v2,r2,rfl,a2,b2⟩:=b1.cons_inv;rw[b2.nil_inv];simp?[Rep] at a1 a2;exact .inl ⟨_,_,by rw[a1,a2],q _ H HF (.refl sm) (by simp[Rep])⟩
  ·cases hg;let⟨v1,r1,rfl,a1,b1⟩:=r.cons_inv;let⟨v2,r2,rfl,a2,b2⟩:=b1.cons_inv;let⟨v3,r3,rfl,a3,b3⟩:=b2.cons_inv;rw[b3.nil_inv];simp?[Rep] at a1 a2 a3;exact .inr ⟨_,_,_,by rw[a1,a2,a3],q _ H HF (.refl sm) (by simp[Rep])⟩
  ·cases hg) B ha (by decide) (by decide) he hpl
section
variable {fl fs:Env->Option (List D)}
def Ai(hc:X.calm=true):dq X (.builtin "any") (λxs H Q=>∃ (a:Addr) (bs:List Bool),xs=[.ref a]/\gH X.K H a (bs.map V.bl)/\Q (.bl (bs.any id)) H):=by
 intro pins s σ H xs us Q I r h;let⟨a,bs,rfl,hq,q⟩:=h;let⟨u,rfl,rx⟩:=vals1 r;cases rx;let⟨its,rv,pl,hz⟩:=I.list hq;have hv:=k7 rv;subst hv;have hh:X.A.in1.handled=none:=I.ok.hd hc;refine call_any_walk (qK pl.isList ?_);let⟨o,ho,hcl,n,hd⟩:=pl.isList;have hne:a≠s.heap.objs.size:=yR (zY ho);refine⟨_,_,_,_,_,_,λi=>bs.getD i false,rfl,Walks.list hh s.heap.objs.size a hne (bs.map Value.bool).toArray,⟨⟨_,zX _ rfl,rfl,rfl⟩,pl.isList.push _⟩,λi v s' Q' E' hP hQ=>?_,λh' tk kp=>?_⟩
 ·have e:v=Value.bool (bs.getD i false):=by
   have hP:(bs.map Value.bool).toArray[i]?=some v:=hP;rw[vR,zO] at hP;let⟨b,hb,rfl⟩:=af hP;rw[zG,hb];rfl
  subst e;exact xW hQ
 ·refine⟨.bl (bs.any id),H,?_,?_,q⟩
  ·exact I.kept (t':=tk) λb o' e=>kp b o' (by simp;exact yR (zY e)) (zU _ e)
  ·show Value.bool _=Value.bool _;have:=range_any bs;simp?[zH,zD];rw[this]
end
def Nu(hc:X.calm=true)(B:mF X "any" (.builtin "any"))(he:starEach [e] X.env=(false,eval e X.env)::starEach [] X.env)(ha:DA X [e] fs):DE X (.Call (.Name "any" p) [e] [] pos) (aS (λds=>(oneOf ds).bind λd=>match d with
 | .list es=>(boolsOf es).map λbs=>.bool (bs.any id)
 | _=>none) fs) :=
 fM (Ai hc) (by
  intro HF H ds vs d Q sm r hg q;let⟨x,hx,hg⟩:=bs hg;rw[fO hx] at r;cases x<;>try cases hg
  let⟨bs,hb,rfl⟩:=af hg;let⟨v,r',rfl,a,b⟩:=r.cons_inv;rw[b.nil_inv];simp?[Rep] at a;let⟨p,us,rfl,h,rr⟩:=a;rw[il hb] at rr;have:=lA rr;subst this;exact⟨p,bs,rfl,sm.seq h,q _ H HF (.refl sm) (by simp[Rep])⟩) B ha (by decide) (by decide) he rfl
def nM(ns:List Int):∀j:Nat,preSum (λi=>ns.getD i 0) j=(ns.take j).sum
 | 0=>by simp[preSum]
 | j+1=>by
  rw[preSum,nM ns j,wJ,List.sum_append]
  congr 1
  rw[zG];cases ns[j]?<;>simp
def rS(val:Nat->Int)(B:Int)(h:∀i,-B<=val i/\val i<=B):∀j:Nat,-(B * j)<=preSum val j/\preSum val j<=B * j
 | 0=>by simp[preSum]
 | j+1=>by
  have ih:=rS val B h j;have:=h j;rw[preSum];have e:B * ((j+1:Nat):Int)=B * (j:Int)+B:=by rw[Int.natCast_add,Int.mul_add];simp
  rw[e];lia
def Mu(ns:List Int):Bool:=decide (ns.length<=1000)&&ns.all λn=>decide (-1000000<=n)&&decide (n<=1000000)
def K9(h:Mu ns=true):ns.length<=1000/\∀i,-1000000<=ns.getD i 0/\ns.getD i 0<=1000000:=by
 unfold Mu at h;rw[zF,zJ,xG] at h;refine⟨h.1,λi=>?_⟩;rw[zG];cases e:ns[i]? with
 | none=>simp
 | some n =>
  have:=h.2 n (qB e);simpa using this
def oO{ns:List Int}{its:List Value}(r:aH (ns.map V.int) its){i:Nat}(h:its.toArray[i]?=some v):∃t,v=.int (ns.getD i 0) t:=by
 rw[vR] at h
 induction ns generalizing its i with
 | nil=>cases r;simp at h
 | cons n ns ih =>
  cases r with
  | cons r1 rr =>
   cases i with
   | zero =>
    simp?[xQ,yK] at h;subst h;let⟨t,rfl⟩:=r1;exact⟨t,rfl⟩
   | succ i =>
    simp?[yY] at h;exact ih rr h
def AB(hc:X.calm=true):dq X (.builtin "sum") (λxs H Q=>∃ (a:Addr) (ns:List Int),xs=[.ref a]/\(gH X.K H a (ns.map V.int)\/eD X.K H a (ns.map V.int))/\Mu ns=true/\Q (.int ns.sum) H):=by
 intro pins s σ H xs us Q I r h;let⟨a,ns,rfl,hq,hok,q⟩:=h;let⟨u,rfl,rx⟩:=vals1 r;cases rx;have hh:X.A.in1.handled=none:=I.ok.hd hc;let⟨hlen,hbd⟩:=K9 hok;have hin:∀n:Nat,n<=1000->∀j,j < n->InLong ((λi=>ns.getD i 0) j)/\InLong (preSum (λi=>ns.getD i 0) (j+1)):=λn hn j hj=>by
  have h1:=hbd j;have h2:=rS (λi=>ns.getD i 0) 1000000 hbd (j+1);refine⟨⟨?_,?_⟩,?_,?_⟩
  ·show -(2 ^ 63)<=ns.getD j 0;lia
  ·show ns.getD j 0 < 2 ^ 63;lia
  ·lia
  ·lia
 have hsum:preSum (λi=>ns.getD i 0) ns.length=ns.sum:=by rw[nM,List.take_length]
 rcases hq with hq|hq
 ·let⟨its,rv,pl,hz⟩:=I.list hq;have hl:its.length=ns.length:=by rw[<- rv.length,zD]
  refine call_sum_walk (qK pl.isList ?_);let⟨o,ho,hcl,n,hd⟩:=pl.isList;have hlt:=zY ho;have hne:a≠s.heap.objs.size:=yR hlt;refine⟨_,_,_,_,_,_,λi=>ns.getD i 0,rfl,Walks.list hh s.heap.objs.size a hne its.toArray,⟨⟨_,zX _ rfl,rfl,rfl⟩,pl.isList.push _⟩,λb hb=>?_,λi v hP=>oO rv hP,by rw[zH,hl];exact hin _ hlen,λh' tk t' kp=>?_⟩
  ·show b < (s.heap.push _).objs.size;rw[xJ];simp?[zQ,yF,xU] at hb;rcases hb with rfl|rfl
   ·exact kL _
   ·exact jN hlt
  ·refine⟨.int ns.sum,H,I.kept (t':=tk) λb o' e=>kp b o' (by simp;exact yR (zY e)) (zU _ e),⟨t',?_⟩,q⟩;rw[zH,hl,hsum]
 ·let⟨its,rv,pl,hz⟩:=I.tuple hq;have pl:s.heap.IsTuple a its.toArray:=pl;have hl:its.length=ns.length:=by rw[<- rv.length,zD]
  refine call_sum_walk (xR pl ?_);let⟨o,ho,hcl,n,hd⟩:=id pl;have hlt:=zY ho;have hne:a≠s.heap.objs.size:=yR hlt;refine⟨_,_,_,_,_,_,λi=>ns.getD i 0,rfl,Walks.tuple hh s.heap.objs.size a hne its.toArray,⟨⟨_,zX _ rfl,rfl,rfl⟩,pl.push _⟩,λb hb=>?_,λi v hP=>oO rv hP,by rw[zH,hl];exact hin _ hlen,λh' tk t' kp=>?_⟩
  ·show b < (s.heap.push _).objs.size;rw[xJ];simp?[zQ,yF,xU] at hb;rcases hb with rfl|rfl
   ·exact kL _
   ·exact jN hlt
  ·refine⟨.int ns.sum,H,I.kept (t':=tk) λb o' e=>kp b o' (by simp;exact yR (zY e)) (zU _ e),⟨t',?_⟩,q⟩;rw[zH,hl,hsum]
def qq:List D->Option D:=λds=>(dI ds).bind λes=>(intsOf es).bind λns=>if Mu ns=true then some (.int ns.sum) else none
def ft{K:W.Frag}:∀ {ns:List Int}{vs:List V},au K H (ns.map PyData.int) vs->vs=ns.map V.int
 | [],vs,h=>h.nil_inv
 | b::bs,vs,h=>by
  let⟨v,r,rfl,a,c⟩:=h.cons_inv;simp?[Rep] at a;rw[a,ft c];rfl
def Mi(hc:X.calm=true)(B:mF X "sum" (.builtin "sum"))(he:starEach [e] X.env=(false,eval e X.env)::starEach [] X.env)(ha:DA X [e] fs):DE X (.Call (.Name "sum" p) [e] [] pos) (aS qq fs) :=
 fM (AB hc) (by
  intro HF H ds vs d Q sm r hg q;let⟨es,h1,hg⟩:=bs hg;let⟨ns,h2,hg⟩:=bs hg;have hg:(if Mu ns=true then some (PyData.int ns.sum) else none)=some d:=hg;split at hg
  ·rename_i hok;cases hg;have e2:=di h2;subst e2;rcases js h1 with rfl|rfl
   all_goals
    let⟨v,r',rfl,a,b⟩:=r.cons_inv;rw[b.nil_inv];simp?[Rep] at a;let⟨p,us,rfl,h,rr⟩:=a;have:=ft rr;subst this
   ·exact⟨p,ns,rfl,.inr (ay sm h),hok,q _ H HF (.refl sm) (by simp[Rep])⟩
   ·exact⟨p,ns,rfl,.inl (sm.seq h),hok,q _ H HF (.refl sm) (by simp[Rep])⟩
  ·cases hg) B ha (by decide) (by decide) he rfl
def NQ(i:Int):Value->Bool|.int a _=>a == i|_=>false
def CK:K5 X "list.index" (λx vs H Q=>∃ (l:Addr) (ns:List Int) (i:Int) (j:Nat),x=.ref l/\vs=[.int i]/\gH X.K H l (ns.map V.int)/\ns[j]?=some i/\(∀m,m < j->ns[m]?≠some i)/\Q (.int j) H):=by
 intro pins s σ H x vs v us Q I rx rv h;let⟨l,ns,i,j,rfl,rfl,hq,hj,hno,q⟩:=h;cases rx;let⟨u,rfl,ru⟩:=rv.one;let⟨t,rfl⟩:=ru;let⟨its,r,pl,hz⟩:=I.list hq;let⟨⟨cls,dd,data,sl⟩,ho,hc,n,hd⟩:=id pl.isList;simp only at hc hd;subst hc hd;have hl:its.length=ns.length:=by rw[<- r.length,zD]
 have hj1:j < ns.length:=(List.getElem?_eq_some_iff.mp hj).1;have hz':ns.length<=sizeLine:=by rw[zD] at hz;exact hz
 have hs63:(sizeLine:Nat) < 2 ^ 62:=by decide
 have at_:∀m (hm:m < its.toArray.size),∃t',its.toArray[m]=.int (ns.getD m 0) t':=λm hm=>oO r (jX hm);refine qX F.slot_list_index ⟨_,ho,rfl⟩ F.entry_list_index (F.args_list_index_2 _ _) (PySem.SeqAt.list_indexAt l its.toArray n dd sl (.int i t) (NQ i) j (by rw[zH,hl];exact hj1) (by lia) ?_ ?_) ⟨ho,?_,?_⟩
 ·let⟨t',e⟩:=at_ j (by rw[zH,hl];exact hj1);rw[e,NQ,zG,hj];simp
 ·intro m hm hmj;let⟨t',e⟩:=at_ m hm;have hm':m < ns.length:=by lia
  have:=hno m hmj;rw[e,NQ,zG];rw[zK hm'] at this ⊢;simp?[qG,beq_eq_false_iff_ne];exactλh=>this (by rw[h])
 ·intro y hy;let⟨m,hm,rfl⟩:=Array.getElem_of_mem hy;let⟨t',e⟩:=at_ m hm;rw[e];exact PySem.SeqAt.EqAt.int_int _ _ _ _
 ·exact⟨.int j,H,I.tok _,⟨_,rfl⟩,q⟩
def vq(i:Int):List Int->Option Nat
 | []=>none
 | n::ns=>if n=i then some 0 else (vq i ns).map (·+1)
def mM:∀ {ns:List Int}{j:Nat},vq i ns=some j->ns[j]?=some i/\∀m,m < j->ns[m]?≠some i
 | [],j,h=>by cases h
 | n::ns,j,h=>by
  unfold vq at h;split at h
  ·cases h;rename_i e;exact⟨by rw[e];rfl,λm hm=>absurd hm (vN _)⟩
  ·rename_i e;let⟨k,hk,rfl⟩:=af h;let⟨a,b⟩:=mM hk;refine⟨by simpa using a,λm hm=>?_⟩;cases m with
   | zero=>simpa using e
   | succ m=>simpa using b m (by lia)
def P4:D->D->Option D
 | .list es,.int i=>(intsOf es).bind λns=>(vq i ns).map λj=>.int ((j:Nat):Int)
 | _,_=>none
def EV{fo:Env->Option D}(hbase:attributeBase o "index" X.env (eval o X.env)=eval o X.env)
  (hfew:((backTo cpos (starEach [e] X.env)).all (λx=>!x.1)&&(backToKw cpos (keywordEach [] X.env)).all (λx=>x.1.isSome)&&decide ([e].length+([]:List Keyword).length+(if ([]:List Keyword).isEmpty then 0 else 1) < 30))=true)
  (hline:(apos.endLine == cpos.line)=true) (hs:starEach [e] X.env=(false,eval e X.env)::starEach [] X.env) (ho:DE X o fo) (he:DE X e fe):DE X (.Call (.Attribute o "index" apos) [e] [] cpos) (f2 P4 fo fe) :=
 aN (nW qN PySem.F.slot_list_index PySem.F.type_list_index CK ho (cA he eH hs) hbase hfew hline hs rfl) λσ H Q ⟨HF,ρ,d,sm,eo,hf,q⟩=>by
  let⟨x,hx,hf⟩:=bs hf;let⟨y,hy,hg⟩:=bs hf;refine⟨HF,ρ,x,sm,eo,hx,λv1 H1 HF1 g1 r1=>?_⟩;cases x<;>try cases hg
  cases y<;>try cases hg
  rename_i es i;let⟨ns,h1,hg⟩:=bs hg;let⟨j,h2,rfl⟩:=af hg;have e1:=di h1;subst e1;simp?[Rep] at r1;let⟨l,us,rfl,hq,rr⟩:=r1;have:=ft rr;subst this;refine⟨.inl ⟨rfl,_,g1.fh.seq hq⟩,HF1,ρ,.int i,g1.fh,eo.mono g1.ff,hy,λv2 H2 HF2 g2 r2=>?_⟩;simp?[Rep] at r2;let⟨a,b⟩:=mM h2;exact⟨l,ns,i,j,rfl,by rw[r2],g2.fh.seq (g2.ff.seq hq),a,b,q _ H2 HF2 (g1.trans g2) (by simp[Rep])⟩
abbrev PX(X:Cx):=tupleKind (dZ X.prog X.w)
def oZ{P:Program}{w:World}:∀ {ns:List Int}{us:List Value},aH (ns.map V.int) us->ItemsAre (dZ P w) (ns.map Sum.inl) us
 | [],_,r=>by cases r;exact .nil
 | n::ns,_,r=>by
  rw[zI] at r ⊢;cases r with
  | cons h t=>let⟨t',rfl⟩:=h;exact .cons (u0 P w n t') (oZ t)
def uL{X:Cx}{ns:List Int}(I:Inv X pins σ H s)(h:eD X.K H b (ns.map V.int)):(PX X).is s.heap (ns.map Sum.inl) b:=by
 let⟨its,rv,⟨o,h1,h2,n,h3⟩,_⟩:=I.tuple h;exact⟨o,its.toArray,n,h1,h2,h3,by simpa using oZ rv⟩
def GX{X:Cx}{xs:List (List dG×Addr×Value)}(I:Inv X pins σ H s)(e:H a=some (.dT xs))(k:DR X.K H xs):xs.length<=sizeLine/\(a == sysModules)=false/\s.heap.DictOfH (PX X) a xs:=by
 let⟨z,y,o,es,ep,h1,h2,h3,h4,h5⟩:=(show c7 X.prog X.w H s.heap a (.dT xs) from I.hok a _ e)
 refine⟨z,y,o,es,ep,h1,h2,h3,h4,λx hx=>?_,h5⟩;let⟨ns,q1,q2⟩:=k x hx;rw[q1];exact uL I q2
def Qh(K:W.Frag):R2:=λx y H Q=>∃ (b:Addr) (ns:List Int) (a:Addr) (xs:List (List dG×Addr×Value)),x=.ref b/\eD K H b (ns.map V.int)/\y=.ref a/\H a=some (.dT xs)/\DR K H xs/\Q (.bl (atKey xs (ns.map Sum.inl)).isSome) H
def Na{X:Cx}(hu:X.A.units+1 < cLine):fT X (compareOp .In) (Qh X.K):=by
 intro pins s σ H x y v u Q I rx ry h;let⟨b,ns,a,xs,rfl,hb,rfl,ha,hk,q⟩:=h;cases rx;cases ry;let⟨z,hd,dd⟩:=GX I ha hk;exact wpAny_in_heap (tupleKind_room_in1 hu) (uL I hb) hd dd ⟨.bl _,H,I.tok _,rfl,q⟩
def Pb(K:W.Frag):V->V->V->Hp->(Hp->Prop)->Prop:=λo i v H Q=>∃ (a:Addr) (xs:List (List dG×Addr×Value)) (b:Addr) (ns:List Int),o=.ref a/\i=.ref b/\H a=some (.dT xs)/\eD K H b (ns.map V.int)/\DR K H xs/\xs.length < sizeLine/\∀u:Value,Q (upd H a (.dT (storedH xs (ns.map Sum.inl) b u)))
def zx{xs:List (List dG×Addr×Value)}{k:List dG}{b:Addr}{u:Value}(h:xs.length < sizeLine):(storedH xs k b u).length<=sizeLine:=by
 unfold storedH;split
 ·rw[zD];lia
 ·rw[zN,zL,xK];lia
def Km{X:Cx}(hu:X.A.units+1 < cLine):Jz X (Pb X.K):=by
 intro pins s σ H o i v ov iv u Q I ro ri rv h;let⟨a,xs,b,ns,rfl,rfl,ha,hb,hk,hl,q⟩:=h;cases ro;cases ri;let⟨z,hd,dd⟩:=GX I ha hk;refine wpAny_setItem_heap (hsz:=z) (tupleKind_room_in1 hu) (uL I hb) dd λh' dd' hs=>?_;let⟨q',es,ep,hq,h2,h3,h4,_,h5⟩:=dd';exact⟨_,I.write (o:=.dT (storedH xs (ns.map Sum.inl) b u)) (x:=a) (e:=a) (by rw[ha];exact True.intro) (.inl rfl) (λc w' hc z=>(hs.2 c hc).trans z) ⟨q',hq⟩ ⟨zx hl,hd,q',es,ep,hq,h2,h3,h4,h5⟩,q u⟩
def N5(K:W.Frag)(tk tv:TE):TE:=λσ H Q=>∀p,H p=none->tk σ (upd H p (.dT [])) λx H1=>tv σ H1 λ_ H2=>∃ (b:Addr) (ns:List Int),x=.ref b/\eD K H2 b (ns.map V.int)/\H2 p=some (.dT [])/\∀u:Value,Q (.ref p) (upd H2 p (.dT [(ns.map Sum.inl,b,u)]))
def HY{X:Cx}{k v:Expr}(hu:X.A.units+1 < cLine)(hk:PE X k tk)(hv:PE X v tv):PE X (.Dict [some k] [v] pos) (N5 X.K tk tv):=by
 intro pins s σ H Q I q;have hn:=I.hok.fresh (yM s.heap.objs.size);have big:sysModules < s.heap.objs.size:=wG (by decide) (show mainGlobals < s.heap.objs.size from (I.mod.glob.keeps I.bk).lt);have I1:=I.laid (a:=s.heap.objs.size) (o:=.dT []) (h':=s.heap.push { cls:=.type "dict",data:=.dict #[] }) (t':=s.toks) (λ_ _ q=>zU _ q) (yM _)
  ⟨xV _,beq_eq_false_iff_ne.mpr (jM (yR big)),_,#[],0,zX _ rfl,⟨rfl,rfl,rfl⟩,rfl,rfl,List.nodup_nil⟩
 rw[arm_eval_Dict,zip_pairTrees _ _ _ _ rfl rfl,dictDisplay_pairs _ (by simp[pairTrees]) (by simp[pairTrees])];refine zV (vA (zV ?_));unfold subDict;refine zV (wpAny_alloc ?_);refine zV (xX ?_);rw[yL (by simp[pairTrees])];refine zV (pairTrees_cons_walk (bR (hk pins _ σ _ _ I1 (q _ hn)) λu s1 ⟨x,H1,J1,rx,q1⟩=>bR (hv pins s1 σ H1 _ J1 q1) λw2 s2 ⟨y,H2,J2,ry,b,ns,e,hb,hp,q2⟩=>pairTrees_nil_walk ?_));subst e;cases rx;refine xX ?_;let⟨z,hd,dd⟩:=GX J2 hp (λx hx=>by cases hx);show wpAny _ _ (forIn [(Value.ref b,w2)] _ _ >>= _) _ _ _;rw[List.forIn_cons];refine zV (zV (zV (wpAny_dictSet_heap (hsz:=z) (show (PX X).room X.A from Nat.lt_of_succ_lt hu) (uL J2 hb) dd λh' dd' hs=>?_)));let⟨q',es,ep,hq,h2,h3,h4,_,h5⟩:=dd';refine zW (zW (zW (zW (zW ⟨.ref _,_,?_,rfl,q2 w2⟩))));exact J2.write (o:=.dT [(ns.map Sum.inl,b,w2)]) (x:=s.heap.objs.size) (e:=s.heap.objs.size) (by rw[hp];exact True.intro) (.inl rfl) (λc w' hc z=>(hs.2 c hc).trans z) ⟨q',hq⟩ ⟨by rw[qU];simp,hd,q',es,ep,hq,h2,h3,h4,h5⟩
def sT:Slot->Bool|.tab _=>false|_=>true
def dO.setT{K:W.Frag}{xs:List (List dG×Addr×Value)}{ks:List (List Int)}(S:dO K HF₀ H₀ HF H ρ σ)(h1:H a=some (.dT xs))(h2:HF a=none)(h3:H₀ a=none)(h4:xs.map (·.1)=ks.map (·.map Sum.inl))(h5:DR K HF xs)(nt:ρ.all sT=true) :
  dO K HF₀ H₀ HF H (ρ.set i (.tab ks)) (σ.set i (some (.ref a))):=by
 have old:∀ {j:Nat}{t:Slot},(ρ.set i (.tab ks))[j]?=some t->sT t=true->i≠j/\ρ[j]?=some t:=λ{j t} h hn=>by
  rw[xI] at h;by_cases hij:i=j
  ·rw[yL hij] at h;split at h
   ·cases h;cases hn
   ·cases h
  ·rw[yN hij] at h;exact⟨hij,h⟩
 have new:∀ {j:Nat}{ls:List (List Int)},(ρ.set i (.tab ks))[j]?=some (.tab ls)->i=j/\ls=ks/\i < ρ.length:=λ{j ls} h=>by
  rw[xI] at h;by_cases hij:i=j
  ·rw[yL hij] at h;split at h
   ·rename_i hl;cases h;exact⟨hij,rfl,hij ▸ hl⟩
   ·cases h
  ·rw[yN hij] at h;have:=List.all_eq_true.mp nt _ (qB h);cases this
 refine⟨S.gr,λj e h=>?_,λj es h=>?_,λj k xs ys b e1 e2 e3 e4=>?_,by rw[yC,yC];exact S.len,S.tb,λj ls h=>by let⟨hij,h⟩:=old h rfl;rw[xI,yN hij];exact S.dic j ls h,λj k ls ms g1 g2=>S.one j k ls ms (old g1 rfl).2 (old g2 rfl).2,λj ls h=>?_,λj k ls ms g1 g2=>(new g1).1.symm.trans (new g2).1⟩
 ·let⟨hij,h⟩:=old h rfl;rw[xI,yN hij];exact S.val j e h
 ·let⟨hij,h⟩:=old h rfl;rw[xI,yN hij];exact S.own j es h
 ·let⟨n1,e1⟩:=old e1 rfl;let⟨n2,e2⟩:=old e2 rfl;rw[xI,yN n1] at e3;rw[xI,yN n2] at e4;exact S.inj j k xs ys b e1 e2 e3 e4
 ·let⟨rfl,rfl,hl⟩:=new h;rw[xI,yL rfl,yL (zP hl S.len)];exact⟨a,xs,rfl,h1,h2,h3,h4,h5⟩
def dO.putT{K:W.Frag}{xs:List (List dG×Addr×Value)}{ks:List (List Int)}(S:dO K HF₀ H₀ HF H ρ σ)(h:ρ[i]?=some (.tab ls))(ha:σ[i]?=some (some (.ref a)))(h4:xs.map (·.1)=ks.map (·.map Sum.inl))(h5:DR K HF xs) :
  dO K HF₀ H₀ HF (upd H a (.dT xs)) (ρ.set i (.tab ks)) σ:=by
 let⟨a',ys,e1,e2,e3,e5,_⟩:=S.tab i ls h;rw[ha] at e1;cases e1;have hl:i < ρ.length:=(List.getElem?_eq_some_iff.mp h).1;have gr:bF HF₀ H₀ HF (upd H a (.dT xs)):=⟨λb o e=>by rw[ax (aF e e5)];exact S.gr.hh b o e,S.gr.ff,λb o e=>by rw[ax (aF e e3)];exact S.gr.fh b o e,S.gr.nw⟩
 have old:∀ {j:Nat}{t:Slot},(ρ.set i (.tab ks))[j]?=some t->sT t=true->ρ[j]?=some t:=λ{j t} h hn=>by
  rw[xI] at h;by_cases hij:i=j
  ·rw[yL hij,yL hl] at h;cases h;cases hn
  ·rw[yN hij] at h;exact h
 have new:∀ {j:Nat}{ms:List (List Int)},(ρ.set i (.tab ks))[j]?=some (.tab ms)->i=j/\ms=ks:=λ{j ms} g=>by
  rw[xI] at g;by_cases hij:i=j
  ·rw[yL hij,yL hl] at g;cases g;exact⟨hij,rfl⟩
  ·rw[yN hij] at g;exact absurd (S.oneT i j ls ms h g) hij
 refine⟨gr,λj e g=>S.val j e (old g rfl),λj es g=>?_,λj k xs ys b f1 f2=>S.inj j k xs ys b (old f1 rfl) (old f2 rfl),by rw[yC];exact S.len,S.tb,λj ms g=>?dc,λj k ms qs g1 g2=>S.one j k ms qs (old g1 rfl) (old g2 rfl),λj ms g=>?tb,λj k ms qs g1 g2=>(new g1).1.symm.trans (new g2).1⟩
 ·let⟨b,vs,f1,f2,f3,f5,f4⟩:=S.own j es (old g rfl);refine⟨b,vs,f1,?_,f3,f5,f4⟩;rw[ax λz=>by rw[z,e2] at f2;cases f2];exact f2
 case dc =>
  let⟨b,vs,f1,f2,f3,f5,f4⟩:=S.dic j ms (old g rfl);refine⟨b,vs,f1,?_,f3,f5,f4⟩;rw[ax λz=>by rw[z,e2] at f2;cases f2];exact f2
 case tb =>
  let⟨rfl,rfl⟩:=new g;exact⟨a,xs,ha,aG,e3,e5,h4,h5⟩
def zf:Option Slot->Option (List Int)
 | some (.val d)=>gc d
 | _=>none
def nj{K:W.Frag}{ρ:ao}{σ:L2.St}{i:Nat}(S:dO K HF₀ H₀ HF H ρ σ)(h:zf ρ[i]?=some ns):∃b,σ[i]?=some (some (V.ref b))/\eD K HF b (ns.map V.int):=by
 cases hd:ρ[i]? with
 | none=>rw[hd] at h;cases h
 | some t =>
  rw[hd] at h;cases t with
  | val d =>
   have h:gc d=some ns:=h;let⟨v,e1,r⟩:=S.val i d hd;rw[ik h] at r;simp?[Rep] at r;let⟨b,vs,rfl,hs,rr⟩:=r;rw[ft rr] at hs;exact⟨b,e1,hs⟩
  | _=>cases h
def tabS:Option Slot->Option (List (List Int))
 | some (.tab ks)=>some ks
 | _=>none
def mY{ρ:ao}{i:Nat}(h:tabS ρ[i]?=some ks):ρ[i]?=some (.tab ks):=by
 cases hd:ρ[i]? with
 | none=>rw[hd] at h;cases h
 | some t =>
  rw[hd] at h;cases t with
  | tab ls=>cases h;rfl
  | _=>cases h
def Ef:∀ {a b:List Int},(a.map Sum.inl:List dG)=b.map Sum.inl->a=b
 | [],[],_=>rfl
 | [],_::_,h=>by simp at h
 | _::_,[],h=>by simp at h
 | x::a,y::b,h=>by
  rw[zI,zI] at h;injection h with h1 h2
  injection h1 with h1
  rw[h1,Ef h2]
def KW{xs:List (List dG×Addr×Value)}{ks:List (List Int)}{ns:List Int}(h:xs.map (·.1)=ks.map (·.map Sum.inl)):(atKey xs (ns.map Sum.inl)).isSome=ks.contains ns:=by
 rw[kR,List.contains_iff_mem];unfold atKey;rw[Option.isSome_map,List.find?_isSome];constructor
 ·rintro⟨x,h1,h2⟩;have:x.1∈ks.map (·.map Sum.inl):=h ▸ List.mem_map_of_mem h1;rw[yQ h2] at this;let⟨k,h3,h4⟩:=List.mem_map.mp this;exact Ef h4 ▸ h3
 ·intro z;have:(ns.map Sum.inl:List dG)∈xs.map (·.1):=h ▸ List.mem_map.mpr ⟨ns,z,rfl⟩;let⟨x,h1,h2⟩:=List.mem_map.mp this;exact⟨x,h1,yA h2⟩
def rN(i j:Nat)(g1 g2:ao->Option Out):ao->Option Out:=λρ=>(zf ρ[i]?).bind λns=>(tabS ρ[j]?).bind λks=>if ks.contains ns=true then g1 ρ else g2 ρ
def Ka{X:Cx}(i j:Nat)(hu:X.A.units+1 < cLine)(hN:X.N[i]?=some x)(hv:AV X.env.scope x)(hN':X.N[j]?=some y)(hv':AV X.env.scope y)(ha:AJ X HF₀ H₀ a g1)(hb:AJ X HF₀ H₀ b g2)
  (hd:(x == ("__debug__":Str))=false) (hcd:(x == ("__classdict__":Str))=false) (hd':(y == ("__debug__":Str))=false) (hcd':(y == ("__classdict__":Str))=false) :
  DS X HF₀ H₀ (.If (.Compare (.Name x px) [.In] [.Name y py] cp) a b pos) (rN i j g1 g2) :=
 b9 (K0 (Bp (Na hu) (fF hN hv hd hcd) (fF hN' hv' hd' hcd') rfl) ha hb) λE σ H ⟨HF,ρ,o,S,hg,q⟩=>by
  let⟨ns,h1,hg⟩:=bs hg;let⟨ks,h2,hg⟩:=bs hg;let⟨b,e1,hs⟩:=nj S h1;let⟨a,xs,f1,f2,f3,f5,f4,fk⟩:=S.tab j ks (mY h2);refine⟨_,e1,_,f1,b,ns,a,xs,rfl,ay S.gr.fh hs,rfl,f2,fk.mono S.gr.fh,_,rfl,?_⟩;rw[KW f4];cases hc:ks.contains ns with
  | true=>rw[hc] at hg;exact uk ⟨HF,ρ,o,S,hg,q⟩
  | false=>rw[hc] at hg;exact tM ⟨HF,ρ,o,S,hg,q⟩
def rD(j i:Nat)(f:Env->Option D):ao->Option Out:=λρ=>(zf ρ[i]?).bind λns=>(tabS ρ[j]?).bind λks=>(f (aR ρ)).bind λd=>if (je d&&decide (ks.length < sizeLine))=true then some (.nx (ρ.set j (.tab (if ks.contains ns=true then ks else ks++[ns])))) else none
def uY{xs:List (List dG×Addr×Value)}{ks:List (List Int)}{ns:List Int}(h:xs.map (·.1)=ks.map (·.map Sum.inl)):(storedH xs (ns.map Sum.inl) b u).map (·.1)=(if ks.contains ns=true then ks else ks++[ns]).map (·.map Sum.inl):=by
 unfold storedH;rw[KW h];split
 ·rw[<- h,zM];refine yI λx _=>?_;show (putAt _ _ x).1=x.1;unfold putAt;split<;>rfl
 ·rw[jA,jA,h];rfl
def DR.stored{K:W.Frag}{xs:List (List dG×Addr×Value)}{ns:List Int}(h:DR K HF xs)(hb:eD K HF b (ns.map V.int)):DR K HF (storedH xs (ns.map Sum.inl) b u):=λx hx=>by
 unfold storedH at hx;split at hx
 ·let⟨y,hy,rfl⟩:=List.mem_map.mp hx;let⟨ms,e1,e2⟩:=h y hy;refine⟨ms,?_,?_⟩<;>(unfold putAt;split<;>assumption)
 ·rcases List.mem_append.mp hx with hx|hx
  ·exact h x hx
  ·rw[yJ] at hx;subst hx;exact⟨ns,rfl,hb⟩
def J4{X:Cx}(j i:Nat)(hu:X.A.units+1 < cLine)(hN:X.N[i]?=some x)(hv:AV X.env.scope x)(hN':X.N[j]?=some y)(hv':AV X.env.scope y)(h:DE X e2 f)
  (hd:(x == ("__debug__":Str))=false) (hcd:(x == ("__classdict__":Str))=false) (hd':(y == ("__debug__":Str))=false) (hcd':(y == ("__classdict__":Str))=false)
  (ha:∀v,assign (.Subscript (.Name y py) (.Name x px) spos) X.env v=(do
   let ov <- holding [v] (eval (.Name y py) X.env)
   let iv <- holding [v,ov] (eval (.Name x px) X.env)
   standAt spos
   holding [v,ov,iv] (setItem ov iv v)
   release [v,ov,iv] []):=by intro _;rfl)
  (hs:swapsWithSole [.Subscript (.Name y py) (.Name x px) spos] e2 pos.line X.env=pure false:=by rfl) (hw:swappedStores [.Subscript (.Name y py) (.Name x px) spos] e2 X.env=pure none:=by rfl)
  (h1:(assignEach [.Subscript (.Name y py) (.Name x px) spos] X.env).map (·.2)=[assign (.Subscript (.Name y py) (.Name x px) spos) X.env]:=by rfl) :
  DS X HF₀ H₀ (.Assign [.Subscript (.Name y py) (.Name x px) spos] e2 pos) (rD j i f) :=
 b9 (zl h (yk (fF hN' hv' hd' hcd') (fF hN hv hd hcd) (Km hu) ha) hs hw h1) λE σ H ⟨HF,ρ,o,S,hg,q⟩=>by
  let⟨ns,h1,hg⟩:=bs hg;let⟨ks,h2,hg⟩:=bs hg;let⟨d,h3,hg⟩:=bs hg;split at hg
  ·rename_i hc;rw[zF,zJ] at hc;cases hg;refine⟨H,aR ρ,d,.refl _,S.all,h3,λv H' HF' G r=>?_⟩;have S':=S.step G.hh;let⟨b,e1,hs⟩:=nj S' h1;let⟨a,xs,f1,f2,f3,f5,f4,fk⟩:=S'.tab j ks (mY h2);refine⟨_,f1,_,e1,a,xs,b,ns,rfl,rfl,f2,ay S'.gr.fh hs,fk.mono S'.gr.fh,?_,λu=>q σ _ HF (S'.putT (mY h2) f1 (uY f4) (fk.stored hs)) (.refl _)⟩;have:=jC List.length f4;rw[zD,zD] at this;lia
  ·cases hg
def sE(j i:Nat)(f:Env->Option D):ao->Option Out:=λρ=>(zf ρ[i]?).bind λns=>(f (aR ρ)).bind λd=>if (je d&&ρ.all sT)=true then some (.nx (ρ.set j (.tab [ns]))) else none
def JQ{X:Cx}(j i:Nat)(hu:X.A.units+1 < cLine)(hN:X.N[i]?=some x)(hv:AV X.env.scope x)(hd:(x == ("__debug__":Str))=false)(hcd:(x == ("__classdict__":Str))=false)(h:DE X e2 f)(hN':X.N.Nodup)(hi:X.N[j]?=some y)(hy:Loc X.env.scope y)
  (hs:swapsWith (.Dict [some (.Name x px)] [e2] dp) (some (.Name y pos')) pos.line X.env=pure false:=by rfl)
  (hf:X.fn y=true\/X.env.scope.names.lookup y=some .local:=by first|exact .inl rfl|exact .inr rfl|assumption):DS X HF₀ H₀ (.Assign [.Name y pos'] (.Dict [some (.Name x px)] [e2] dp) pos) (sE j i f) :=
 b9 (uJ hN' hi hy (HY hu (fF hN hv hd hcd) h) hs hf) λE σ H ⟨HF,ρ,o,S,hg,q⟩=>by
  let⟨ns,h1,hg⟩:=bs hg;let⟨d,h3,hg⟩:=bs hg;split at hg
  ·rename_i hc;rw[zF] at hc;cases hg;let⟨b,e1,hs⟩:=nj S h1;refineλp hp=>⟨_,e1,upd H p (.dT []),aR ρ,d,.refl _,?_,h3,λv H' HF' G r=>?_⟩
   ·exact (S.step (bL hp)).all
   ·have S':=(S.step (bL hp)).step G.hh;have hp':H' p=some (.dT []):=G.hh _ _ aG;refine⟨b,ns,rfl,ay S'.gr.fh hs,hp',λu=>?_⟩;have S2:dO X.K HF₀ H₀ HF (upd H' p (.dT [(ns.map Sum.inl,b,u)])) ρ σ:=S.step λc w' e=>by rw[ax (aF e hp)];exact G.hh c w' (bL hp c w' e)
    exact q _ _ HF (S2.setT (i:=j) aG (S.gr.fh.free hp) (S.gr.hh.free hp) rfl (λx hx=>by rw[yJ] at hx;subst hx;exact⟨ns,rfl,hs⟩) hc.2) (.refl _)
  ·cases hg
end Dl
namespace Tx
open PySem PySem.SeqAt PyProof.Rows
open PySem.AutoSeq1 (wpAny_loadPart')
open PySem.MeetsSeq PySem.MeetsSeq2 PySem.MeetsSeq3
def wpR(f:Nat->β->Sem (ForInStep β))(I:List Nat->β->Shared->Prop)(Q:β->Shared->Prop)
  (turn:∀x rest b s,I (x::rest) b s->wpAny M A (f x b) (λr s'=>match r with|.yield b'=>I rest b' s'|.done b'=>Q b' s') E s)
  (fin:∀b s,I [] b s->Q b s) (n:Nat) (b:β) (h:I (List.range' 0 n 1) b s):wpAny M A (forIn [:n] b f) Q E s:=by
 have e:forIn [:n] b f=forIn (List.range' 0 n 1) b f:=by
  rw[Std.Legacy.Range.forIn_eq_forIn_range'];simp[Std.Legacy.Range.size]
 rw[e];exact wpAny_forIn_list f I Q turn fin _ b h
def tuple_indexAt(l:Addr)(items:Array Value)(n:Nat)(dd:Option Addr)(sl:Array (Option Value))(x:Value)(e:Value->Bool)(j:Nat)(hj:j < items.size)(h1:e items[j]=true)(h2:∀m (hm:m < items.size),m < j->e items[m]=false) :
  Meets (Builtin.«tuple.index» ⟨[.ref l,x],[]⟩)
   (λA R s=>s.heap.get? l=some { cls:=.type "tuple",dict:=dd,data:=.seq items n,slots:=sl }/\(∀y,y∈items->EqAt A.in1 s y x (e y))/\R (.ok (.ret (.int (j:Nat) s.toks))) { s with toks:=s.toks+1 }) :=
 .of_wp λprog w A R s h=>by
  let⟨hp,g,d,tk,os⟩:=s;let⟨hl,he,h⟩:=h
  wp_walk using wpAny_loadPart' hl,wpR _ (λrest b s'=>s'=⟨hp,g,d,tk,os⟩/\b.1=none/\∃i,i<=j/\rest=List.range' i (items.size - i) 1) _
  case turn =>
   rintro i rest b s' ⟨rfl,hb,i',hi,e1⟩;have hlt:i' < items.size:=by lia
   rw[show items.size - i'=(items.size - (i'+1))+1 by lia,vD] at e1;injection e1 with e2 e3
   subst e2;subst e3;simp?[jX hlt];refine zV (he _ (Array.getElem_mem hlt) prog w _ _ ?_);by_cases hij:i=j
   ·subst hij;rw[h1]
    wp_walk
    exact⟨_,rfl,h⟩
   ·rw[h2 i hlt (by lia)]
    wp_walk
    exact⟨rfl,rfl,i+1,by lia,rfl⟩
  case fin =>
   rintro b s' ⟨rfl,hb,i,hi,e1⟩;have:=jC List.length e1;simp at this;lia
  case h =>
   exact⟨rfl,rfl,0,xV _,by simp⟩
end Tx
namespace Dl
open PySem L2 PySem.Spec PyProof.Rows
def Ds:K5 X "tuple.index" (λx vs H Q=>∃ (l:Addr) (ns:List Int) (i:Int) (j:Nat),x=.ref l/\vs=[.int i]/\eD X.K H l (ns.map V.int)/\ns[j]?=some i/\(∀m,m < j->ns[m]?≠some i)/\Q (.int j) H):=by
 intro pins s σ H x vs v us Q I rx rv h;let⟨l,ns,i,j,rfl,rfl,hq,hj,hno,q⟩:=h;cases rx;let⟨u,rfl,ru⟩:=rv.one;let⟨t,rfl⟩:=ru;let⟨its,r,pl,hz⟩:=I.tuple hq;let⟨⟨cls,dd,data,sl⟩,ho,hc,n,hd⟩:=id pl;simp only at hc hd;subst hc hd;have hl:its.length=ns.length:=by rw[<- r.length,zD]
 have hj1:j < ns.length:=(List.getElem?_eq_some_iff.mp hj).1;have at_:∀m (hm:m < its.toArray.size),∃t',its.toArray[m]=.int (ns.getD m 0) t':=λm hm=>oO r (jX hm);refine qX F.slot_tuple_index ⟨_,ho,rfl⟩ F.entry_tuple_index (F.args_tuple_index_2 _ _) (Tx.tuple_indexAt l its.toArray n dd sl (.int i t) (NQ i) j (by rw[zH,hl];exact hj1) ?_ ?_) ⟨ho,?_,?_⟩
 ·let⟨t',e⟩:=at_ j (by rw[zH,hl];exact hj1);rw[e,NQ,zG,hj];simp
 ·intro m hm hmj;let⟨t',e⟩:=at_ m hm;have hm':m < ns.length:=by
   rw[zH] at hm;lia
  have:=hno m hmj;rw[e,NQ,zG];rw[zK hm'] at this ⊢;simp?[qG,beq_eq_false_iff_ne];exactλh=>this (by rw[h])
 ·intro y hy;let⟨m,hm,rfl⟩:=Array.getElem_of_mem hy;let⟨t',e⟩:=at_ m hm;rw[e];exact PySem.SeqAt.EqAt.int_int _ _ _ _
 ·exact⟨.int j,H,I.tok _,⟨_,rfl⟩,q⟩
def F1(h:PE X e t)(g:PE X e u):PE X e (λσ H Q=>t σ H Q\/u σ H Q):=λpins s σ H Q I q=>q.elim (h pins s σ H Q I) (g pins s σ H Q I)
def oh:D->D->Option D
 | .list es,.int i=>(intsOf es).bind λns=>(vq i ns).map λj=>.int ((j:Nat):Int)
 | .tuple es,.int i=>(intsOf es).bind λns=>(vq i ns).map λj=>.int ((j:Nat):Int)
 | _,_=>none
def Cp{fo:Env->Option D}(hbase:attributeBase o "index" X.env (eval o X.env)=eval o X.env)
  (hfew:((backTo cpos (starEach [e] X.env)).all (λx=>!x.1)&&(backToKw cpos (keywordEach [] X.env)).all (λx=>x.1.isSome)&&decide ([e].length+([]:List Keyword).length+(if ([]:List Keyword).isEmpty then 0 else 1) < 30))=true)
  (hline:(apos.endLine == cpos.line)=true) (hs:starEach [e] X.env=(false,eval e X.env)::starEach [] X.env) (ho:DE X o fo) (he:DE X e fe):DE X (.Call (.Attribute o "index" apos) [e] [] cpos) (f2 oh fo fe) :=
 aN (F1 (EV hbase hfew hline hs ho he) (nW PySem.F.plainAttrs_tuple PySem.F.slot_tuple_index PySem.F.type_tuple_index Ds ho (cA he eH hs) hbase hfew hline hs rfl)) λσ H Q ⟨HF,ρ,d,sm,eo,hf,q⟩=>by
  let⟨x,hx,hf⟩:=bs hf;let⟨y,hy,hg⟩:=bs hf;cases x<;>try cases hg
  ·cases y<;>try cases hg
   rename_i es i;exact .inl ⟨HF,ρ,d,sm,eo,by simp?[f2,hx,hy,zA];exact hg,q⟩
  ·cases y<;>try cases hg
   rename_i es i;let⟨ns,h1,hg⟩:=bs hg;let⟨j,h2,rfl⟩:=af hg;have e1:=di h1;subst e1;refine .inr ⟨HF,ρ,_,sm,eo,hx,λv1 H1 HF1 g1 r1=>?_⟩;simp?[Rep] at r1;let⟨l,us,rfl,hq,rr⟩:=r1;have:=ft rr;subst this;refine⟨?_,HF1,ρ,.int i,g1.fh,eo.mono g1.ff,hy,λv2 H2 HF2 g2 r2=>?_⟩
   ·first|exact .inr (.inl ⟨rfl,_,ay g1.fh hq⟩)|exact .inl ⟨rfl,_,ay g1.fh hq⟩|exact .inr ⟨rfl,_,ay g1.fh hq⟩
   ·simp?[Rep] at r2;let⟨a,b⟩:=mM h2;exact⟨l,ns,i,j,rfl,by rw[r2],ay g2.fh (ay g2.ff hq),a,b,q _ H2 HF2 (g1.trans g2) (by simp[Rep])⟩
end Dl
namespace Zp
open PySem PyProof.Rows
def IsI(b:Bool)(h:Heap)(it l:Addr)(k:Nat):Prop:=match b with|true=>h.IsTupleIter it l k|false=>h.IsListIter it l k
def IsS(b:Bool)(h:Heap)(l:Addr)(xs:Array Value):Prop:=match b with|true=>h.IsTuple l xs|false=>h.IsList l xs
def IsI.obj(x:IsI b h it l k):∃o,h.get? it=some o/\∀v,o.data≠.cell v:=by
 cases b
 ·let⟨o,e,_,d⟩:=(show h.IsListIter it l k from x);exact⟨o,e,λv q=>by rw[d] at q;cases q⟩
 ·let⟨o,e,_,d⟩:=(show h.IsTupleIter it l k from x);exact⟨o,e,λv q=>by rw[d] at q;cases q⟩
def IsI.at(x:IsI b h it l k)(e:∀o,h.get? it=some o->h'.get? it=some o):IsI b h' it l k:=by
 cases b
 ·exact Heap.IsListIter.at x e
 ·exact Heap.IsTupleIter.at x e
def IsI.extBut(x:IsI b h it l k)(e:Heap.ExtBut a h h')(n:it≠a):IsI b h' it l k:=x.at λo q=>e it o n q
def IsS.at(x:IsS b h l xs)(e:∀o,h.get? l=some o->h'.get? l=some o):IsS b h' l xs:=by
 cases b
 ·let⟨o,q,r⟩:=(show h.IsList l xs from x);exact⟨o,e o q,r⟩
 ·let⟨o,q,r⟩:=(show h.IsTuple l xs from x);exact⟨o,e o q,r⟩
def IsS.extBut(x:IsS b h l xs)(e:Heap.ExtBut a h h')(n:l≠a):IsS b h' l xs:=x.at λo q=>e l o n q
section
def nxt(hj:IsI b s.heap j t k)(ht:IsS b s.heap t its)(hv:its[k]?=some v)
  (hQ:∀g,IsI b g j t (k+1)->Heap.SameBut j s.heap g->Q v { s with heap:=g }):wpAny (model prog w) A (Builtin.SmallTypes.nextOf (.ref j)) Q E s:=by
 cases b
 ·exact wpAny_nextOf_list_item hj ht hv hQ
 ·exact En.nextT_item hj ht hv hQ
def nxtE{Q:Value->Shared->Prop}(hh:A.handled=none)(hj:IsI b s.heap j t k)(ht:IsS b s.heap t its)(hv:its[k]?=none)
  (hE:∀g x,Heap.ExtBut j s.heap g->(∃o,g.get? x=some o/\o.cls=.type "StopIteration")->E (.ref x) { s with heap:=g }):wpAny (model prog w) A (Builtin.SmallTypes.nextOf (.ref j)) Q E s:=by
 cases b
 ·exact wpAny_nextOf_list_end hh hj ht hv hE
 ·exact En.nextT_end hh hj ht hv hE
structure ZS(b₁ b₂:Bool)(h₀ h:Heap)(z TI TO i j l m:Addr)(xs ys:Array Value)(f:Value)(p q:Nat)(a b:Value):Prop where
 zo:IsZip h z TI TO f
 ti:IsPair h TI (.ref i) (.ref j)
 to:IsPair h TO a b
 wi:IsI b₁ h i l p
 wj:IsI b₂ h j m q
 sl:IsS b₁ h l xs
 sm:IsS b₂ h m ys
 kp:∀c o,c≠z->c≠TO->c≠i->c≠j->h₀.get? c=some o->h.get? c=some o
 sz:h.objs.size=h₀.objs.size
section
variable {z TI TO i j l m:Addr}
def ZS.fl(Z:ZS b₁ b₂ h₀ h z TI TO i j l m xs ys f p q a b)(D:ZipApart z TI TO i j l m)(e:IsZip g z TI TO f')(t:Heap.SameBut z h g):ZS b₁ b₂ h₀ g z TI TO i j l m xs ys f' p q a b :=
 ⟨e,t.extBut _ _ D.TIz Z.ti,t.extBut _ _ D.TOz Z.to,Z.wi.extBut t.extBut D.i1z,Z.wj.extBut t.extBut D.i2z,Z.sl.extBut t.extBut D.l1z,Z.sm.extBut t.extBut D.l2z,λc o n1 n2 n3 n4 r=>t.extBut _ _ n1 (Z.kp c o n1 n2 n3 n4 r),t.1.trans Z.sz⟩
def ZS.fst(Z:ZS b₁ b₂ h₀ h z TI TO i j l m xs ys f p q a b)(D:ZipApart z TI TO i j l m)(e:IsI b₁ g i l (p+1))(t:Heap.SameBut i h g):ZS b₁ b₂ h₀ g z TI TO i j l m xs ys f (p+1) q a b :=
 ⟨t.extBut _ _ D.i1z.symm Z.zo,t.extBut _ _ D.TIi1 Z.ti,t.extBut _ _ D.TOi1 Z.to,e,Z.wj.extBut t.extBut D.i12.symm,Z.sl.extBut t.extBut D.l1i1,Z.sm.extBut t.extBut D.l2i1,λc o n1 n2 n3 n4 r=>t.extBut _ _ n3 (Z.kp c o n1 n2 n3 n4 r),t.1.trans Z.sz⟩
def ZS.snd(Z:ZS b₁ b₂ h₀ h z TI TO i j l m xs ys f p q a b)(D:ZipApart z TI TO i j l m)(e:IsI b₂ g j m (q+1))(t:Heap.SameBut j h g):ZS b₁ b₂ h₀ g z TI TO i j l m xs ys f p (q+1) a b :=
 ⟨t.extBut _ _ D.i2z.symm Z.zo,t.extBut _ _ D.TIi2 Z.ti,t.extBut _ _ D.TOi2 Z.to,Z.wi.extBut t.extBut D.i12,e,Z.sl.extBut t.extBut D.l1i2,Z.sm.extBut t.extBut D.l2i2,λc o n1 n2 n3 n4 r=>t.extBut _ _ n4 (Z.kp c o n1 n2 n3 n4 r),t.1.trans Z.sz⟩
def ZS.put(Z:ZS b₁ b₂ h₀ h z TI TO i j l m xs ys f p q a b)(D:ZipApart z TI TO i j l m)(e:IsPair g TO x y)(t:Heap.SameBut TO h g):ZS b₁ b₂ h₀ g z TI TO i j l m xs ys f p q x y :=
 ⟨t.extBut _ _ D.TOz.symm Z.zo,t.extBut _ _ D.TITO Z.ti,e,Z.wi.extBut t.extBut D.TOi1.symm,Z.wj.extBut t.extBut D.TOi2.symm,Z.sl.extBut t.extBut D.l1TO,Z.sm.extBut t.extBut D.l2TO,λc o n1 n2 n3 n4 r=>t.extBut _ _ n2 (Z.kp c o n1 n2 n3 n4 r),t.1.trans Z.sz⟩
end
variable {z TI TO i j l m:Addr}
def zipN{Q:Value->Shared->Prop}(hn:A.handled=none)(D:ZipApart z TI TO i j l m)(Z:ZS b₁ b₂ s.heap s.heap z TI TO i j l m xs ys .none p q a b)
  (item:∀x y g g',xs[p]?=some x->ys[q]?=some y->ZS b₁ b₂ s.heap g z TI TO i j l m xs ys .ellipsis (p+1) (q+1) x y->IsZip g' z TI TO (rawInt g.objs.size) ->
   Heap.SameBut z (g.push { cls:=.type "tuple",data:=.seq #[x,y] }) g'->Q (.ref g.objs.size) { s with heap:=g' })
  (over:(xs[p]?=none\/ys[q]?=none)->∀g e,(∀c o,c≠z->c≠TO->c≠i->c≠j->s.heap.get? c=some o->g.get? c=some o)->(∃o,g.get? e=some o/\o.cls=.type "StopIteration")->E (.ref e) { s with heap:=g }) :
  wpAny (model prog w) A (Builtin.«zip.__next__» ⟨[.ref z],[]⟩) (λr s'=>∃v,r=.done (.ret v)/\Q v s') E s:=by
 have stop:∀ {g1 g2:Heap}{e:Addr}{c:Addr}{p' q':Nat}{a' b':Value},ZS b₁ b₂ s.heap g1 z TI TO i j l m xs ys .ellipsis p' q' a' b'->(c=i\/c=j)->(xs[p]?=none\/ys[q]?=none)->Heap.ExtBut c g1 g2 ->
   (∃o,g2.get? e=some o/\o.cls=.type "StopIteration")->wpAny (model prog w) A (setField (.ref z) 0 Value.none) (λ_ t=>E (.ref e) t) E { s with heap:=g2 }:=by
  intro g1 g2 e c p' q' a' b' Y hc hv k ⟨o,ho,ht⟩;have cz:z≠c:=hc.elim (λe=>e ▸ D.i1z.symm) λe=>e ▸ D.i2z.symm;have Yz:IsZip g2 z TI TO .ellipsis:=k _ _ cz Y.zo;refine kU Yz (by simp) λg3 _ t=>over hv g3 e (λd u n1 n2 n3 n4 r=>t.extBut _ _ n1 (k _ _ ?_ (Y.kp d u n1 n2 n3 n4 r))) ⟨o,t.extBut _ _ ?_ ho,ht⟩
  ·exact hc.elim (λe=>e ▸ n3) λe=>e ▸ n4
  ·rintro rfl;rw[Yz] at ho;cases ho;simp at ht
 show wpAny _ _ (field (.ref z) 2 >>= _) _ _ _;refine zV (qT Z.zo rfl (x:=.bool false) rfl (zV (qT Z.zo rfl (x:=.ref TI) rfl (zV (kF Z.ti rfl (zV (m:=Builtin.SmallTypes.ownedTupleIsFree _) ?_))))));refine zV (qT Z.zo rfl (x:=.none) rfl (zW ?_));rw[yL rfl];refine zV (vY (zV (qT Z.zo rfl (x:=.ref TO) rfl (zV (kU Z.zo (by simp) λg1 e1 t1=>?_)))));have Z1:=Z.fl D (f':=.ellipsis) e1 t1;refine zV ?_;simp?[List.zipIdx_cons,List.zipIdx_nil,List.forIn_cons,List.forIn_nil];refine zV (zV (wpAny_onRaise (zV (m:=Builtin.SmallTypes.nextOf _) ?_)));cases hx:xs[p]? with
 | none=>exact nxtE hn Z1.wi Z1.sl hx λg2 e k o=>stop Z1 (.inl rfl) (.inl hx) k o
 | some x =>
 refine nxt Z1.wi Z1.sl hx λg2 e2 t2=>zW ?_;have Z2:=Z1.fst D e2 t2;refine zV (kF Z2.to rfl (zV (wpAny_updateSeq_pair Z2.to λg3 e3 t3=>zV (wpAny_letGo (zW ?_)))));have Z3:=Z2.put D (x:=x) (y:=b) e3 t3;refine zV (zV (wpAny_onRaise (zV (m:=Builtin.SmallTypes.nextOf _) ?_)));cases hy:ys[q]? with
 | none=>exact nxtE hn Z3.wj Z3.sm hy λg4 e k o=>stop Z3 (.inr rfl) (.inr hy) k o
 | some y =>
 refine nxt Z3.wj Z3.sm hy λg4 e4 t4=>zW ?_;have Z4:=Z3.snd D e4 t4;refine zV (kF Z4.to rfl (zV (wpAny_updateSeq_pair Z4.to λg5 e5 t5=>zV (wpAny_letGo (zW (zW ?_))))));have Z5:=Z4.put D (x:=x) (y:=y) e5 t5;refine zV (kF Z5.to rfl (zV (wpAny_newTuple (zV (m:=Builtin.SmallTypes.ownedTupleHandOut _ _) ?_))));refine zV (kU (zU _ Z5.zo) (by simp) λg6 e6 t6=>kU e6 (by simp) λg7 e7 t7=>zW ⟨_,rfl,?_⟩);exact item x y g5 g7 hx hy Z5 e7 (t6.trans t7)
def nextZ(hn:A.handled=none)(D:ZipApart z TI TO i j l m)
  (qz:IsZip s.heap z TI TO .none) (qI:IsPair s.heap TI (.ref i) (.ref j)) (qO:IsPair s.heap TO a b)
  (p1:IsI b₁ s.heap i l p) (p2:IsI b₂ s.heap j m q) (r1:IsS b₁ s.heap l xs) (r2:IsS b₂ s.heap m ys) (ex:xs[p]?=some x) (ey:ys[q]?=some y)
  (kQ:∀g,IsZip g z TI TO (rawInt s.heap.objs.size)->IsPair g TO x y->IsI b₁ g i l (p+1)->IsI b₂ g j m (q+1)->IsPair g s.heap.objs.size x y->g.objs.size=s.heap.objs.size+1 ->
   (∀c o,c≠z->c≠TO->c≠i->c≠j->s.heap.get? c=some o->g.get? c=some o)->Q (some (.ref s.heap.objs.size)) { s with heap:=g }) :
  wpAny (model prog w) A (pyNext (.ref z)) Q E s:=by
 have ty:s.TypeIs (.ref z) "zip":=⟨_,qz,rfl⟩
 have Z:ZS b₁ b₂ s.heap s.heap z TI TO i j l m xs ys .none p q a b:=⟨qz,qI,qO,p1,p2,r1,r2,λ_ _ _ _ _ _ e=>e,rfl⟩
 refine zV (kN (qC (name:=Str.ofString "__next__") ty vQ (qV vQ ty F.entry_zip_next (zipN hn D Z ?_ ?_) (F.args_zip_next_1 _))))
 ·intro x' y' g g' hx hy Y ez t;rw[ex] at hx;rw[ey] at hy;cases hx;cases hy;rw[Y.sz] at ez ⊢;have lt:=zY Y.zo;have up:∀c o,c≠z->g.get? c=some o->g'.get? c=some o:=λc o n e=>t.extBut _ _ n (zU _ e);refine zW (kQ g' ez (up _ _ D.TOz Y.to) (Y.wi.at λo e=>up _ _ D.i1z e) (Y.wj.at λo e=>up _ _ D.i2z e) ?_ (by rw[t.1,xJ,Y.sz]) λc o n1 n2 n3 n4 e=>up c o n1 (Y.kp c o n1 n2 n3 n4 e));rw[<- Y.sz];exact t.extBut _ _ (jI lt) (zX _ rfl)
 ·intro no;rw[ex,ey] at no;rcases no with no|no<;>cases no
def nextZE(hn:A.handled=none)(D:ZipApart z TI TO i j l m)
  (qz:IsZip s.heap z TI TO .none) (qI:IsPair s.heap TI (.ref i) (.ref j)) (qO:IsPair s.heap TO a b)
  (p1:IsI b₁ s.heap i l p) (p2:IsI b₂ s.heap j m q) (r1:IsS b₁ s.heap l xs) (r2:IsS b₂ s.heap m ys) (ends:xs[p]?=none\/ys[q]?=none)
  (kQ:∀g,(∀c o,c≠z->c≠TO->c≠i->c≠j->s.heap.get? c=some o->g.get? c=some o)->Q none { s with heap:=g }):wpAny (model prog w) A (pyNext (.ref z)) Q E s:=by
 have ty:s.TypeIs (.ref z) "zip":=⟨_,qz,rfl⟩
 have Z:ZS b₁ b₂ s.heap s.heap z TI TO i j l m xs ys .none p q a b:=⟨qz,qI,qO,p1,p2,r1,r2,λ_ _ _ _ _ _ e=>e,rfl⟩
 refine zV (kN (qC (name:=Str.ofString "__next__") ty vQ (qV vQ ty F.entry_zip_next (zipN hn D Z ?_ ?_) (F.args_zip_next_1 _))))
 ·intro x y g g' hx hy;rw[hx,hy] at ends;rcases ends with no|no<;>cases no
 ·rintro _ g e kp ⟨o,ho,ht⟩;exact zV (wpAny_isInstance (T:="StopIteration") (b:=true) ⟨o,ho,ht⟩ isSubtype_stop (zW (kQ _ kp)))
end
abbrev itO(b:Bool)(l:Addr):Obj:={ cls:=.type (if b then "tuple_iterator" else "list_iterator"),data:=.fields #[.ref l,.int 0 0] }
abbrev z1(b:Bool)(h:Heap)(l:Addr):Heap:=h.push (itO b l)
abbrev z2(b c:Bool)(h:Heap)(l m:Addr):Heap:=(z1 b h l).push (itO c m)
abbrev z3(b c:Bool)(h:Heap)(l m:Addr):Heap:=(z2 b c h l m).push { cls:=.type "tuple",data:=.seq #[.ref h.objs.size,.ref (z1 b h l).objs.size] }
abbrev z4(b c:Bool)(h:Heap)(l m:Addr):Heap:=(z3 b c h l m).push { cls:=.type "tuple",data:=.seq #[.none,.none] }
abbrev z5(b c:Bool)(h:Heap)(l m:Addr):Heap:=(z4 b c h l m).push { cls:=.type "zip",data:=.fields #[.none,.bool false,.bool false,.ref (z2 b c h l m).objs.size,.ref (z3 b c h l m).objs.size] }
def IsS.push(x:IsS b h l xs)(o:Obj):IsS b (h.push o) l xs:=x.at λo' e=>zU _ e
def new_zip(b c:Bool)(l m:Addr)(xs ys:Array Value):Meets (Builtin.«zip.__new__» ⟨[.type "zip",.ref l,.ref m],[]⟩) (λ_ R s=>IsS b s.heap l xs/\IsS c s.heap m ys/\R (.ok (.ret (.ref (z4 b c s.heap l m).objs.size))) { s with heap:=z5 b c s.heap l m }) :=
 .of_wp λprog w A R s h=>by
  let⟨hp,g,d,tk,os⟩:=s;let⟨q1,q2,h⟩:=h;have hsub:=sub_zip;cases b<;>cases c
  ·have L1:Heap.IsList (Shared.heap ⟨hp,g,d,tk,os⟩) l xs:=q1;have L2:Heap.IsList (Shared.heap ⟨hp.push { cls:=.type "list_iterator",data:=.fields #[.ref l,.int 0 0] },g,d,tk,os⟩) m ys:=IsS.push (b:=false) q2 _
   wp_walk using qK L1,qK L2
   exact⟨_,rfl,h⟩
  ·have L1:Heap.IsList (Shared.heap ⟨hp,g,d,tk,os⟩) l xs:=q1;have L2:Heap.IsTuple (Shared.heap ⟨hp.push { cls:=.type "list_iterator",data:=.fields #[.ref l,.int 0 0] },g,d,tk,os⟩) m ys:=IsS.push (b:=true) q2 _
   wp_walk using qK L1,xR L2
   exact⟨_,rfl,h⟩
  ·have L1:Heap.IsTuple (Shared.heap ⟨hp,g,d,tk,os⟩) l xs:=q1;have L2:Heap.IsList (Shared.heap ⟨hp.push { cls:=.type "tuple_iterator",data:=.fields #[.ref l,.int 0 0] },g,d,tk,os⟩) m ys:=IsS.push (b:=false) q2 _
   wp_walk using xR L1,qK L2
   exact⟨_,rfl,h⟩
  ·have L1:Heap.IsTuple (Shared.heap ⟨hp,g,d,tk,os⟩) l xs:=q1;have L2:Heap.IsTuple (Shared.heap ⟨hp.push { cls:=.type "tuple_iterator",data:=.fields #[.ref l,.int 0 0] },g,d,tk,os⟩) m ys:=IsS.push (b:=true) q2 _
   wp_walk using xR L1,xR L2
   exact⟨_,rfl,h⟩
def isI_new(e:h.get? it=some (itO b l)):IsI b h it l 0:=by
 cases b
 ·exact⟨_,e,rfl,rfl⟩
 ·exact⟨_,e,rfl,rfl⟩
def call_zip(q1:IsS b s.heap l xs)(q2:IsS c s.heap m ys)
  (h:∀g,IsZip g (s.heap.objs.size+4) (s.heap.objs.size+2) (s.heap.objs.size+3) .none->IsPair g (s.heap.objs.size+2) (.ref s.heap.objs.size) (.ref (s.heap.objs.size+1))->IsPair g (s.heap.objs.size+3) .none .none ->
   IsI b g s.heap.objs.size l 0->IsI c g (s.heap.objs.size+1) m 0->(∀a o,s.heap.get? a=some o->g.get? a=some o)->Q (.ref (s.heap.objs.size+4)) { s with heap:=g }) :
  wpAny (model prog w) A (call (.type "zip") [.ref l,.ref m]) Q E s:=by
 refine callType_new F.called_zip (by decide) (F.typeCall_zip_2 _ _) (F.newCall_zip_2 _ _) (λobj=>F.args_object_init_3 obj _ _) F.entry_zip_new (new_zip b c l m xs ys) ⟨q1,q2,?_⟩;have n1:(z1 b s.heap l).objs.size=s.heap.objs.size+1:=xJ ..;have n2:(z2 b c s.heap l m).objs.size=s.heap.objs.size+2:=by rw[xJ,n1]
 have n3:(z3 b c s.heap l m).objs.size=s.heap.objs.size+3:=by rw[xJ,n2]
 have n4:(z4 b c s.heap l m).objs.size=s.heap.objs.size+4:=by rw[xJ,n3]
 have g5:(z5 b c s.heap l m).get? (z4 b c s.heap l m).objs.size=some _:=zX _ rfl;have g4:(z5 b c s.heap l m).get? (z3 b c s.heap l m).objs.size=some _:=zU _ (zX _ rfl);have g3:(z5 b c s.heap l m).get? (z2 b c s.heap l m).objs.size=some _:=zU _ (zU _ (zX _ rfl));have g2:(z5 b c s.heap l m).get? (z1 b s.heap l).objs.size=some (itO c m):=zU _ (zU _ (zU _ (zX _ rfl)));have g1:(z5 b c s.heap l m).get? s.heap.objs.size=some (itO b l):=zU _ (zU _ (zU _ (zU _ (zX _ rfl))));show _/\_;rw[n2,n3,n4] at g5;rw[n1,n2] at g3;rw[n3] at g4;rw[n1] at g2;rw[n4];exact⟨⟨_,g5,rfl⟩,h _ g5 g3 g4 (isI_new g1) (isI_new g2) λa o x=>zU _ (zU _ (zU _ (zU _ (zU _ x))))⟩
end Zp
namespace Dl
open PySem L2 PySem.Spec PyProof.Rows Zp
def sv(K:W.Frag)(b:Bool)(a:Addr)(H:Hp)(xs:List V):Prop:=match b with|true=>eD K H a xs|false=>gH K H a xs
def sv.src(I:Inv X pins σ H s)(h:sv X.K b a H xs):∃its:List Value,aH xs its/\IsS b s.heap a its.toArray/\xs.length<=sizeLine:=by
 cases b
 ·let⟨its,rv,pl,hz⟩:=I.list (show gH X.K H a xs from h);exact⟨its,rv,pl.isList,hz⟩
 ·let⟨its,rv,pl,hz⟩:=I.tuple (show eD X.K H a xs from h);exact⟨its,rv,pl,hz⟩
def sv.ne(I:Inv X pins σ H s)(hf:cq X pins H c)(h:sv X.K b a H xs):a≠c:=by
 cases b
 ·exact Mg I hf h
 ·exact Ld I hf h
def sv.inj(I:Inv X pins σ H s)(h:sv X.K b a H xs)(h':sv X.K b a H ys):xs=ys:=by
 cases b
 ·exact I.list_inj h h'
 ·exact I.tuple_inj h h'
def sv.mono{K:W.Frag}(e:aP H H')(h:sv K b a H xs):sv K b a H' xs:=by
 cases b
 ·exact e.seq h
 ·exact ay e h
def Dd{K:W.Frag}(b c:Bool)(l1 l2 z TI TO i1 i2:Addr)(Z:Rg z TI TO i1 i2) :
  Turn P w K (.Tuple elts k pos) (P3 (sv K b l1) (sv K c l2)) [z,TI,TO,i1,i2] z (λi h=>IsZip h z TI TO .none/\IsPair h TI (.ref i1) (.ref i2)/\(∃a b,IsPair h TO a b)/\IsI b h i1 l1 i/\IsI c h i2 l2 i) where
 mem:=by simp
 obj:=λi h st d hd=>by
  let⟨hz,hTI,⟨a,b',hTO⟩,p1,p2⟩:=st;simp?[zQ,yF,xU] at hd;rcases hd with rfl|rfl|rfl|rfl|rfl
  ·exact⟨_,hz,λv q=>by have q:Data.fields _=Data.cell v:=q;cases q⟩
  ·exact⟨_,hTI,λv q=>by have q:Data.seq _ _=Data.cell v:=q;cases q⟩
  ·exact⟨_,hTO,λv q=>by have q:Data.seq _ _=Data.cell v:=q;cases q⟩
  ·exact p1.obj
  ·exact p2.obj
 keep:=λi h h' st kk=>by
  let⟨hz,hTI,⟨a,b',hTO⟩,h1,h2⟩:=st;exact⟨kk z (by simp) _ hz,kk TI (by simp) _ hTI,⟨a,b',kk TO (by simp) _ hTO⟩,h1.at λo q=>kk i1 (by simp) o q,h2.at λo q=>kk i2 (by simp) o q⟩
 item:=by
  intro X hP hw hK hc i pins s σ H E I hf st hg;subst hP hw hK;let⟨xs,ys,x,y,hq1,hq2,hx,hy⟩:=hg;let⟨its1,rv1,p1,hz1⟩:=hq1.src I;let⟨its2,rv2,p2,hz2⟩:=hq2.src I;let⟨u1,hu1,ru1⟩:=rv1.get hx;let⟨u2,hu2,ru2⟩:=rv2.get hy;have D:ZipApart z TI TO i1 i2 l1 l2:=⟨Z.a1,Z.a2,Z.a3,Z.a4,Z.a5,Z.a6,Z.a7,Z.a8,Z.a9,Z.a0,hq1.ne I (hf z (by simp)),hq1.ne I (hf TO (by simp)),hq1.ne I (hf i1 (by simp)),hq1.ne I (hf i2 (by simp)),hq2.ne I (hf z (by simp)),hq2.ne I (hf TO (by simp)),hq2.ne I (hf i1 (by simp)),hq2.ne I (hf i2 (by simp))⟩
  let⟨hz,hTI,⟨a,b',hTO⟩,h1,h2⟩:=st;refine nextZ (I.ok.hd hc) D hz hTI hTO h1 h2 p1 p2 (x:=u1) (y:=u2) (by simpa using hu1) (by simpa using hu2) λg b1 b2 b3 b4 b5 b6 hk=>⟨.ref s.heap.objs.size,rfl,?_⟩
  have lt:∀ {c:Addr}{o:Obj},s.heap.get? c=some o->s.heap.objs.size≠c:=λe=>jI (zY e);refine wpAny_letOwnedTupleGo_zip (s:={ s with heap:=g }) b1 λg' hz' hs'=>?_;have b5':g'.get? s.heap.objs.size=some { cls:=.type "tuple",data:=.seq #[u1,u2] }:=hs'.extBut _ _ (lt hz) b5;have ht:oa g' s.heap.objs.size (List.toArray [u1,u2]):=⟨⟨_,b5',rfl,_,rfl⟩,_,b5',rfl⟩
  refine⟨.ref s.heap.objs.size,_,wy (ch:=[z,TI,TO,i1,i2]) (xs:=[x,y]) (t':=s.toks) I hf (λb o hb q=>?_) (yM _) ht (.cons ru1 (.cons ru2 .nil)) (by show 2<=sizeLine;decide),rfl,
   ⟨s.heap.objs.size,x,y,rfl,I.fresh,rfl,λzs hzs=>by rw[hzs.inj I hq1];exact hx,λzs hzs=>by rw[hzs.inj I hq2];exact hy⟩,
   ⟨hz',hs'.extBut _ _ Z.a1 (hk _ _ D.TIz D.TITO D.TIi1 D.TIi2 hTI),⟨_,_,hs'.extBut _ _ Z.a2 b2⟩,b3.extBut hs'.extBut Z.a3,b4.extBut hs'.extBut Z.a4⟩,λb hb=>?_⟩
  ·simp?[zQ,yF,xU,not_or] at hb;exact hs'.extBut _ _ hb.1 (hk b o hb.1 hb.2.2.1 hb.2.2.2.1 hb.2.2.2.2 q)
  ·have:s.heap.objs.size≠b:=by
    simp?[zQ,yF,xU] at hb;let⟨o1,g1,_⟩:=h1.obj;let⟨o2,g2,_⟩:=h2.obj;rcases hb with rfl|rfl|rfl|rfl|rfl
    ·exact lt hz
    ·exact lt hTI
    ·exact lt hTO
    ·exact lt g1
    ·exact lt g2
   rw[ax (jM this)];exact (hf b hb).1
 done:=by
  intro X hP hw hK hc i pins s σ H E I hf st hg;subst hP hw hK;let⟨xs,ys,hq1,hq2,hx⟩:=hg;let⟨its1,rv1,p1,hz1⟩:=hq1.src I;let⟨its2,rv2,p2,hz2⟩:=hq2.src I;have D:ZipApart z TI TO i1 i2 l1 l2:=⟨Z.a1,Z.a2,Z.a3,Z.a4,Z.a5,Z.a6,Z.a7,Z.a8,Z.a9,Z.a0,hq1.ne I (hf z (by simp)),hq1.ne I (hf TO (by simp)),hq1.ne I (hf i1 (by simp)),hq1.ne I (hf i2 (by simp)),hq2.ne I (hf z (by simp)),hq2.ne I (hf TO (by simp)),hq2.ne I (hf i1 (by simp)),hq2.ne I (hf i2 (by simp))⟩
  let⟨hz,hTI,⟨a,b',hTO⟩,h1,h2⟩:=st;have e1:=rv1.length;have e2:=rv2.length;refine nextZE (I.ok.hd hc) D hz hTI hTO h1 h2 p1 p2 (hx.elim (λq=>.inl (by simp;lia)) λq=>.inr (by simp;lia)) λg hk=>⟨rfl,?_⟩
  refine CM (ch:=[z,TI,TO,i1,i2]) (t':=s.toks) I hf λb o hb q=>?_;simp?[zQ,yF,xU,not_or] at hb;exact hk b o hb.1 hb.2.2.1 hb.2.2.2.1 hb.2.2.2.2 q
 self:=λ_ _ _ _ _ st h=>wpAny_pyIter_zip st.1 h
def Jx(B:mF X "zip" (.type "zip"))(ha:PA X [l,l'] tl)(hs:starEach [l,l'] X.env=(false,eval l X.env)::starEach [l'] X.env)(hs2:(backTo pos (starEach [l'] X.env)).any (·.1)=false) :
  PI X (.Tuple elts k tp) (.Call (.Name "zip" p) [l,l'] [] pos) (λσ H R=>tl σ H λvs H1=>∃a b,vs=[.ref a,.ref b]/\∃c d xs ys,sv X.K c a H1 xs/\sv X.K d b H1 ys/\R (P3 (sv X.K c a) (sv X.K d b)) H1):=by
 intro pins s σ H R I h;refine Call_ (gE I B.gl B.mg B.bt (qS (bR (ha pos pins s σ H _ I h) λus s1 ⟨vs,H1,I1,r1,q1⟩=>?_) hs hs2));let⟨a,b,e,c,d,xs,ys,hq1,hq2,q⟩:=q1;subst e;let⟨u,u',rfl,rx,ry⟩:=vals2 r1;cases rx;cases ry;let⟨its,rv,pl,hz⟩:=hq1.src I1;let⟨its',rv',pl',hz'⟩:=hq2.src I1;refine call_zip pl pl' λg b1 b2 b3 b4 b5 kp=>wpAny_pyIter_zip (s:={ s1 with heap:=g }) b1 ?_;refine⟨_,_,_,_,H1,rfl,I1.kept (t':=s1.toks) kp,Dd c d a b (s1.heap.objs.size+4) (s1.heap.objs.size+2) (s1.heap.objs.size+3) s1.heap.objs.size (s1.heap.objs.size+1) ?_,⟨b1,b2,⟨_,_,b3⟩,b4,b5⟩,λc hc=>?_,q⟩
 ·constructor<;>(intro z;have z:(_:Nat)=_:=z;lia)
 ·have hge:s1.heap.objs.size<=c:=by
   simp?[zQ,yF,xU] at hc;rcases hc with rfl|rfl|rfl|rfl|rfl
   ·exact jU _ _
   ·exact jU _ _
   ·exact jU _ _
   ·exact yM _
   ·exact jU _ _
  exact I1.fpOk hge (I1.hok.fresh hge)
def Og:List D->Option (List D):=λds=>match ds with
 | [x,y]=>(eN x).bind λxs=>(eN y).map λys=>ja xs ys
 | _=>none
def Ap{K:W.Frag}(h:eN d=some xs)(r:Rep K HF d v):∃b a vs,v=.ref a/\sv K b a HF vs/\au K HF xs vs:=by
 rcases ll h with rfl|rfl
 ·simp?[Rep] at r;let⟨a,vs,rfl,q,rr⟩:=r;exact⟨true,a,vs,rfl,q,rr⟩
 ·simp?[Rep] at r;let⟨a,vs,rfl,q,rr⟩:=r;exact⟨false,a,vs,rfl,q,rr⟩
def eS(fs:Env->Option (List D)):Env->Option (List D):=λρ=>(fs ρ).bind Og
def Kg(B:mF X "zip" (.type "zip"))(hs:starEach [l,l'] X.env=(false,eval l X.env)::starEach [l'] X.env)(hs2:(backTo pos (starEach [l'] X.env)).any (·.1)=false)(h:DA X [l,l'] fs) :
  DI X (.Tuple elts k tp) (.Call (.Name "zip" p) [l,l'] [] pos) (eS fs) :=
 pF (Jx B h hs hs2) λσ H R ⟨HF,ρ,ds,sm,eo,hf,q⟩=>by
  let⟨x,hx,hf⟩:=bs hf;refine⟨HF,ρ,_,sm,eo,hx,λvs H1 HF1 g1 r1=>?_⟩;unfold Og at hf;split at hf
  ·let⟨xs,h1,hf⟩:=bs hf;let⟨ys,h2,rfl⟩:=af hf;let⟨v,r',rfl,a,b⟩:=r1.cons_inv;let⟨v',r'',rfl,a',b'⟩:=b.cons_inv;rw[b'.nil_inv];let⟨c,ad,us,rfl,hq,rr⟩:=Ap h1 a;let⟨c',ad',us',rfl,hq',rr'⟩:=Ap h2 a';exact⟨ad,ad',rfl,c,c',us,us',hq.mono g1.fh,hq'.mono g1.fh,q _ H1 HF1 g1 (EI hq (λ_ _ s h=>h.mono s) hq' (λ_ _ s h=>h.mono s) rr rr')⟩
  ·cases hf
end Dl
namespace Zp
open PySem PyProof.Rows
def IsI.ne(x:IsI b h it l k)(y:IsS b h l xs):l≠it:=by
 rintro rfl;cases b
 ·let⟨o,e,c,d⟩:=(show h.IsListIter l l k from x)
  let⟨o',e',r⟩:=(show h.IsList l xs from y)
  rw[e] at e';cases e';simp_all
 ·let⟨o,e,c,d⟩:=(show h.IsTupleIter l l k from x)
  let⟨o',e',r⟩:=(show h.IsTuple l xs from y)
  rw[e] at e';cases e';simp_all
def drawsI(hn:A.handled=none)(b:Bool)(it l:Addr)(xs:Array Value):Draws prog w A it [it,l] xs.size (λi x=>xs[i]?=some x) (λi h=>IsI b h it l i/\IsS b h l xs) where
 live:=λi h st=>let ⟨o,e,_⟩:=st.1.obj;⟨o,e⟩
 frame:=λi h h' st k=>⟨st.1.at (k it (by simp)),st.2.at (k l (by simp))⟩
 item:=λi s Q E hi st hQ=>nxt st.1 st.2 (v:=xs[i]) (by simp[hi]) λg e t=>hQ _ g s.toks (by simp[hi]) ⟨e,st.2.extBut t.extBut (st.1.ne st.2)⟩ t
 done:=λs Q E st hE=>nxtE hn st.1 st.2 (by simp) hE
def nextE{b₁:Bool}{e it l:Addr}{i:Nat}{items:Array Value}{x old:Value}{Q:Option Value->Shared->Prop}(hn:A.handled=none)
  (qe:IsEnum s.heap e it i old) (qi:IsI b₁ s.heap it l i) (ql:IsS b₁ s.heap l items) (ex:items[i]?=some x) (nei:e≠it)
  (kQ:∀g tk,IsEnumOut g e it ((i:Int)+1) x s.heap.objs.size->IsI b₁ g it l (i+1)->g.get? s.heap.objs.size=some { cls:=.type "tuple",data:=.seq #[.int i tk,x] } ->
   g.objs.size=s.heap.objs.size+1->(∀c o,c≠e->c≠it->s.heap.get? c=some o->g.get? c=some o)->Q (some (.ref s.heap.objs.size)) { s with heap:=g,toks:=tk+1 }) :
  wpAny (model prog w) A (pyNext (.ref e)) Q E s:=by
 have nel:e≠l:=by
  rintro rfl;cases b₁
  ·let⟨o,e1,r⟩:=(show s.heap.IsList e items from ql)
   rw[qe] at e1;cases e1;simp at r
  ·let⟨o,e1,r⟩:=(show s.heap.IsTuple e items from ql)
   rw[qe] at e1;cases e1;simp at r
 have D:Draws prog w A.in1 it [it,l] items.size (λi x=>items[i]?=some x) (λi h=>IsI b₁ h it l i/\IsS b₁ h l items):=drawsI (A:=A.in1) hn b₁ it l items;refine wpAny_pyNext_enum_itemD D qe ⟨qi,ql⟩ (Array.getElem?_eq_some_iff.mp ex).1 nei (by simp[nei,nel]) λy g tk hy a b c d k=>?_;rw[ex] at hy;cases hy;exact kQ g tk a b.1 c d k
end Zp
namespace Dl
open PySem L2 PySem.Spec PyProof.Rows Zp
def pb{K:W.Frag}(b:Bool)(a it e:Addr)(hei:e≠it):Turn P w K (.Tuple elts k pos) (Qi (sv K b a)) [e,it] e (λi h=>(∃old,IsEnum h e it i old)/\IsI b h it a i) where
 mem:=by simp
 obj:=λi h st c hc=>by
  let⟨⟨old,he⟩,hi⟩:=st;rcases List.mem_cons.mp hc with z|z
  ·subst z;exact⟨_,he,λv q=>by have q:Data.fields _=Data.cell v:=q;cases q⟩
  ·rw[List.mem_singleton.mp z];exact hi.obj
 keep:=λi h h' st kk=>⟨let ⟨old,he⟩:=st.1;⟨old,kk e (by simp) _ he⟩,st.2.at λo q=>kk it (by simp) o q⟩
 item:=by
  intro X hP hw hK hc i pins s σ H E I hf st hg;subst hP hw hK;let⟨xs,x,hq,hx⟩:=hg;let⟨its,rv,p,hz⟩:=hq.src I;let⟨u,hu,ru⟩:=rv.get hx;let⟨⟨old,he⟩,hi⟩:=st;refine nextE (I.ok.hd hc) he hi p (x:=u) (by simpa using hu) hei λg tk b1 b2 b3 b4 hk=>⟨.ref s.heap.objs.size,rfl,?_⟩
  have lt:∀ {c:Addr}{o:Obj},s.heap.get? c=some o->s.heap.objs.size≠c:=λe=>jI (zY e);have hte:s.heap.objs.size≠e:=lt he;refine wpAny_letOwnedTupleGo_enum (s:={ s with heap:=g,toks:=tk+1 }) b1 λg' he' hs'=>?_;have b3':g'.get? s.heap.objs.size=some { cls:=.type "tuple",data:=.seq #[.int i tk,u] }:=hs'.extBut _ _ hte b3;have ht:oa g' s.heap.objs.size (List.toArray [Value.int (i:Nat) tk,u]):=⟨⟨_,b3',rfl,_,rfl⟩,_,b3',rfl⟩
  refine⟨.ref s.heap.objs.size,_,wy (ch:=[e,it]) (xs:=[.int (i:Nat),x]) (t':=tk+1) I hf (λc o hb q=>?_) (yM _) ht (.cons ⟨_,rfl⟩ (.cons ru .nil)) (by show 2<=sizeLine;decide),rfl,
   ⟨s.heap.objs.size,x,rfl,I.fresh,rfl,λzs hzs=>by rw[hzs.inj I hq];exact hx⟩,⟨⟨_,he'⟩,b2.extBut hs'.extBut (jM hei)⟩,λc hc'=>?_⟩
  ·simp?[zQ,yF,xU,not_or] at hb;exact hs'.extBut _ _ hb.1 (hk c o hb.1 hb.2 q)
  ·have:s.heap.objs.size≠c:=by
    simp?[zQ,yF,xU] at hc';let⟨o1,g1,_⟩:=hi.obj;rcases hc' with rfl|rfl
    ·exact lt he
    ·exact lt g1
   rw[ax (jM this)];exact (hf c hc').1
 done:=by
  intro X hP hw hK hc i pins s σ H E I hf st hg;subst hP hw hK;let⟨xs,hq,hx⟩:=hg;let⟨its,rv,p,hz⟩:=hq.src I;have hh:X.A.in1.handled=none:=I.ok.hd hc;have hl:=rv.length;let⟨⟨old,he⟩,hi⟩:=st;have hT:s.TypeIs (.ref e) "enumerate":=⟨_,he,rfl⟩
  unfold pyNext;refine zV (kN (qC (name:=Str.ofString "__next__") hT F.slot_enumerate_next (qV F.slot_enumerate_next hT F.entry_enumerate_next ?_ (F.args_enumerate_next_1 _))));refine zV (m:=field (.ref e) 2) (qT he rfl (x:=.ref it) rfl ?_);refine zV (nxtE hh hi p (by simp;lia) λh1 x k1 hx1=>?_);let⟨o,ho,hc1⟩:=hx1;refine zV (wpAny_isInstance (T:="StopIteration") (b:=true) ⟨o,ho,hc1⟩ isSubtype_stop (zW ⟨rfl,?_⟩));let⟨f0,f1,f2,f3,f4,f5⟩:=hf it (by simp);exact I.turned (t':=s.toks) (λb o hb q=>k1 b o hb q) f0 f1 f3 f4 f5
 self:=λ_ _ _ _ _ st h=>let ⟨_,he⟩:=st.1;wI he h
def IK(B:mF X "enumerate" (.type "enumerate"))(ha:PA X [l] tl)(hs:starEach [l] X.env=[(false,eval l X.env)]):PI X (.Tuple elts k tp) (.Call (.Name "enumerate" p) [l] [] pos) (λσ H R=>tl σ H λvs H1=>∃a,vs=[.ref a]/\∃b xs,sv X.K b a H1 xs/\R (Qi (sv X.K b a)) H1):=by
 intro pins s σ H R I h;refine Call_ (gE I B.gl B.mg B.bt (qS (bR (ha pos pins s σ H _ I h) λus s1 ⟨vs,H1,I1,r1,q1⟩=>?_) hs rfl));let⟨a,e,b,xs,hq,q⟩:=q1;subst e;let⟨u,rfl,rx⟩:=vals1 r1;cases rx;have fresh:∀b∈[s1.heap.objs.size+1,s1.heap.objs.size],cq X pins H1 b:=λb hb=>by
  rcases List.mem_cons.mp hb with z|z
  ·subst z;exact I1.fpOk (Nat.le_succ _) (I1.hok.fresh (Nat.le_succ _))
  ·cases List.mem_singleton.mp z;exact I1.fpOk (yM _) I1.fresh
 let⟨its,rv,pl,hz⟩:=hq.src I1;cases b with
 | false =>
  refine call_enumerate_list pl λh' he hit hsz kp=>wI (s:={ s1 with heap:=h' }) he ?_;exact⟨_,_,_,_,H1,rfl,I1.kept (t':=s1.toks) kp,pb false a s1.heap.objs.size (s1.heap.objs.size+1) (Nat.succ_ne_self _),⟨⟨_,he⟩,hit⟩,fresh,q⟩
 | true =>
  refine En.call_enumT (show s1.heap.IsTuple a its.toArray from pl) λh' he hit hsz kp=>wI (s:={ s1 with heap:=h' }) he ?_;exact⟨_,_,_,_,H1,rfl,I1.kept (t':=s1.toks) kp,pb true a s1.heap.objs.size (s1.heap.objs.size+1) (Nat.succ_ne_self _),⟨⟨_,he⟩,hit⟩,fresh,q⟩
def bf(fs:Env->Option (List D)):Env->Option (List D):=λρ=>(fs ρ).bind λds=>(dI ds).map (br 0)
def JH(B:mF X "enumerate" (.type "enumerate"))(h:DA X [l] fs)(hs:starEach [l] X.env=[(false,eval l X.env)]):DI X (.Tuple elts k tp) (.Call (.Name "enumerate" p) [l] [] pos) (bf fs) :=
 pF (IK B h hs) λσ H R ⟨HF,ρ,ds,sm,eo,hf,q⟩=>by
  let⟨x,hx,hf⟩:=bs hf;let⟨es,h1,rfl⟩:=af hf;let⟨d,h0,h1⟩:=bs h1;rw[fO h0] at hx;refine⟨HF,ρ,_,sm,eo,hx,λvs H1 HF1 g1 r1=>?_⟩;let⟨v,r',rfl,a,b⟩:=r1.cons_inv;rw[b.nil_inv];let⟨c,ad,us,rfl,hq,rr⟩:=Ap h1 a;exact⟨ad,rfl,c,us,hq.mono g1.fh,q _ H1 HF1 g1 (CF hq (λ_ _ s h=>h.mono s) rr)⟩
end Dl
namespace Srt
open PySem PySem.W PySem.Calls PyProof.Rows L2
def cq.at(h:cq X pins H b)(e:H' b=none):cq X pins H' b:=⟨e,h.2⟩
def upd_inv{g:Array Value->Array Value}(I:Inv X pins σ H s)(f:cq X pins H b):Inv X pins σ H { s with heap:=s.heap.update b (Obj.mapSeq g) }:=by
 let⟨f0,f1,f2,f3,f4,f5⟩:=f;exact I.turned (t':=s.toks) (h':=s.heap.update b (Obj.mapSeq g)) (λc o hc e=>(xN _ _ (jM hc)).trans e) f0 f1 f3 f4 f5
def pin_get(I:Inv X (pins++nh fp h) σ H' s')(hb:b∈fp)(e:h.get? b=some o):s'.heap.get? b=some o/\H' b=none :=
 let q:=I.pin (b,o) (yE _ (yE _ (cZ hb e)));⟨q.1,q.2.1⟩
def list_sortK(I:Inv X pins σ H s)(ho:s.heap.get? a=some (seqObj "list" vs.toArray n))(fa:cq X pins H a)(h64:vs.length < 64)
  (J:List Value->Hp->Prop) (j0:J [] H)
  (step:∀us v,vs[us.length]?=some v->∀pl s' H',Inv X (pins++pl) σ H' s'->J us H'->wpAny (model X.prog X.w) A (call f [v]) (λu s''=>∃H'',Inv X (pins++pl) σ H'' s''/\J (us++[u]) H'') (λ_ _=>False) s')
  (fin:∀us H',us.length=vs.length->J us H'->∃ (z:Nat->Int) (κ:SortKind),(2<=vs.length->∀s',Inv X pins σ H' s'->(∀Q':SortKind->Shared->Prop,Q' κ s'->wpAny (model X.prog X.w) A (keyKind' us.toArray) Q' (λ_ _=>False) s') /\
    ∀i j C,i < vs.length->j < vs.length->C (SP.dH z i j) s'->kas_ask X.prog X.w A κ us i j C s') /\
   ∀s' c,Inv X pins σ H' s'->cq X pins H' a->s'.heap.get? a=some (seqObj "list" (outV z vs).toArray c)->P (.done (.ret .none)) s') :
  wpAny (model X.prog X.w) A (ksk_tree a f false) P E s:=by
 have hsl:vs.length<=sizeLine:=by rw[qU];lia
 unfold ksk_tree;refine zV (vH ho rfl ?_);refine zV (jZ ho rfl ?_ (by simpa using hsl) (xV _));obtain⟨e1,ho1⟩:∃e,(s.heap.update a (Obj.mapSeq λ_=>(#[]:Array Value))).get? a=some (seqObj "list" #[] e):=⟨_,kA ho λ_=>#[]⟩
 have I1:=upd_inv (g:=λ_=>(#[]:Array Value)) I fa;refine zV (seqEpoch_at ho1 rfl ?_);refine zV (wpAny_newTuple ?_ (by simpa using hsl));refine zV (kM ?_ (xV _));refine xX ?_;have ho3:(((s.heap.update a (Obj.mapSeq λ_=>(#[]:Array Value))).push (seqObj "tuple" vs.toArray 0)).push (seqObj "list" #[] 0)).get? a=some (seqObj "list" #[] e1):=zU _ (zU _ ho1);have hk3:(((s.heap.update a (Obj.mapSeq λ_=>(#[]:Array Value))).push (seqObj "tuple" vs.toArray 0)).push (seqObj "list" #[] 0)).get? ((s.heap.update a (Obj.mapSeq λ_=>(#[]:Array Value))).push (seqObj "tuple" vs.toArray 0)).objs.size=some (seqObj "list" #[] 0):=zX _ rfl;have I3:=(I1.kept (t':=s.toks) (h':=((s.heap.update a (Obj.mapSeq λ_=>(#[]:Array Value))).push (seqObj "tuple" vs.toArray 0)).push (seqObj "list" #[] 0)) λb o e=>zU _ (zU _ e))
 have I2:=(I1.kept (t':=s.toks) (h':=(s.heap.update a (Obj.mapSeq λ_=>(#[]:Array Value))).push (seqObj "tuple" vs.toArray 0)) λb o e=>zU _ e)
 have fk:cq X pins H ((s.heap.update a (Obj.mapSeq λ_=>(#[]:Array Value))).push (seqObj "tuple" vs.toArray 0)).objs.size:=I2.fpOk (yM _) (I2.hok.fresh (yM _));have hka:((s.heap.update a (Obj.mapSeq λ_=>(#[]:Array Value))).push (seqObj "tuple" vs.toArray 0)).objs.size≠a:=by
  have hlt:=zY ho1;rw[xJ];exact jI (jN hlt)
 show wpAny _ A _ P E { s with heap:=((s.heap.update a (Obj.mapSeq λ_=>(#[]:Array Value))).push (seqObj "tuple" vs.toArray 0)).push (seqObj "list" #[] 0) };generalize ((s.heap.update a (Obj.mapSeq λ_=>(#[]:Array Value))).push (seqObj "tuple" vs.toArray 0)).objs.size=kS at hk3 fk hka;generalize e3:({ s with heap:=((s.heap.update a (Obj.mapSeq λ_=>(#[]:Array Value))).push (seqObj "tuple" vs.toArray 0)).push (seqObj "list" #[] 0) }:Shared)=s3 at I3;have ho3:s3.heap.get? a=some (seqObj "list" #[] e1):=by rw[<- e3];exact ho3
 have hk3:s3.heap.get? kS=some (seqObj "list" #[] 0):=by rw[<- e3];exact hk3
 clear e3 I2 I1 ho1 ho;unfold ksk_rest;refine zV (vY ?_)
 first
  | rw[List.forIn_toArray]
  | (rw[<- Array.forIn_toList];simp?[List.toList_toArray])
  | rw[<- Array.forIn_toList]
 refine zV (ksk_fold (λi s'=>∃us H' e,us.length=i/\Inv X pins σ H' s'/\H' a=none/\H' kS=none/\s'.heap.get? a=some (seqObj "list" #[] e1)/\s'.heap.get? kS=some (seqObj "list" us.toArray e)/\J us H') vs 0 s3
  ⟨[],H,0,rfl,I3,fa.1,fk.1,ho3,hk3,j0⟩ ?step ?done)
 case step =>
  rintro j x s' hx ⟨us,H',e,hu,I',ha',hk',hoa,hok,j'⟩;have hu:us.length=j:=by lia
  have hj:j < vs.length:=(List.getElem?_eq_some_iff.mp hx).1;have Ip:=I'.pinned (fp:=[a,kS]) (λb hb=>by
   rcases List.mem_cons.mp hb with rfl|hb
   ·exact cq.at fa ha'
   ·rw[List.mem_singleton.mp hb];exact cq.at fk hk') (λb hb=>by
   rcases List.mem_cons.mp hb with rfl|hb
   ·exact⟨_,hoa,λv z=>by cases z⟩
   ·rw[List.mem_singleton.mp hb];exact⟨_,hok,λv z=>by cases z⟩)
  refine zV (kN (xA (step us x (by rw[hu];exact hx) _ s' H' Ip j') (λu s'' he=>?_) λ_ _ hF=>hF.elim));let⟨H'',I'',j''⟩:=he
  try dsimp only
  let⟨ga,na⟩:=pin_get I'' (b:=a) zE hoa;let⟨gk,nk⟩:=pin_get I'' (b:=kS) (zC _ zE) hok;have I4:=I''.unpinned;obtain⟨c2,hc2⟩:∃c2,(s''.heap.update kS (Obj.mapSeq (·.push u))).get? kS=some (seqObj "list" (us.toArray.push u) c2):=⟨_,kA gk (·.push u)⟩
  refine zV (jZ gk rfl ?_ (by rw[zH,qU];lia) (yD (Nat.le_of_eq (Array.size_push ..)) (by rw[zH,qU];lia)));refine zW ⟨rfl,us++[u],H'',c2,by rw[zN,hu];simp,upd_inv I4 (cq.at fk nk),na,nk,(xN _ _ hka).trans ga,?_,j''⟩;rw[hc2];simp
 case done =>
  rintro s' ⟨us,H',e,hu,I',ha',hk',hoa,hok,j'⟩;have hu:us.length=vs.length:=by lia
  try dsimp only
  refine zV (vH hok rfl ?_);let⟨z,κ,hz,hP⟩:=fin us H' hu j';have last:∀st':SortSt,(arrOf st').map (·.2)=(outV z vs).toArray->failedOf st'=none->wpAny (model X.prog X.w) A (ksk_tail a false e1 (.ref kS) st') P E s':=λst' h1 h2=>by
   unfold ksk_tail
   try dsimp only
   rw[h1,h2];have na1:(s'.heap.update kS (Obj.mapSeq λ_=>(#[]:Array Value))).get? a=some (seqObj "list" #[] e1):=(xN _ _ hka).trans hoa;have I5:=upd_inv (g:=λ_=>(#[]:Array Value)) I' (cq.at fk hk');have I6:=upd_inv (s:={ s' with heap:=s'.heap.update kS (Obj.mapSeq λ_=>(#[]:Array Value)) }) (g:=λ_=>(outV z vs).toArray) I5 (cq.at fa ha');refine zV (jZ hok rfl ?_ (by rw[zH,qU];lia) (xV _));refine zV (wpAny_letGo ?_);refine zV (seqEpoch_at na1 rfl ?_);refine zV (jZ na1 rfl ?_ (xV _) (by
    simp?[yO,qP];show (outV z vs).toArray.size<=_;rw[zH,outV_len];lia))
   obtain⟨c,hc⟩:∃c,((s'.heap.update kS (Obj.mapSeq λ_=>(#[]:Array Value))).update a (Obj.mapSeq λ_=>(outV z vs).toArray)).get? a=some (seqObj "list" (outV z vs).toArray c):=⟨_,kA na1 λ_=>(outV z vs).toArray⟩
   simp?[bne_self_eq_false,yO,qP];exact zW (hP _ c I6 (cq.at fa ha') hc)
  unfold ksk_end
  try dsimp only
  simp?[yO,qP];by_cases h2:vs.toArray.size < 2
  ·rw[yL h2,yL h2];refine zV (zW ?_);rw[StateT.run_pure];refine zV (zW (last _ ?_ rfl));have h2':vs.length < 2:=by simpa using h2
   unfold outV;rw[yL h2'];show ((us.toArray.zip vs.toArray).map (·.2))=vs.toArray;apply Array.toList_inj.mp;simp?[Array.toList_map,Array.toList_zip];exact List.map_snd_zip (by rw[hu];exact yM _)
  ·rw[yN h2,yN h2];have h2':2<=vs.length:=by
    have:¬ vs.length < 2:=by simpa using h2
    lia
   let⟨hk,hlt⟩:=hz h2' s' I';refine zV (xA (hk (λκ' s''=>κ'=κ/\s''=s') ⟨rfl,rfl⟩) (λκ' s'' hs=>?_) λ_ _ x=>x.elim);let⟨rfl,rfl⟩:=hs;refine zV (xA (kat_run (Q:=λst' s2=>s2=s''/\(arrOf st').map (·.2)=(outV z vs).toArray/\failedOf st'=none) (G:=λp s2=>s2=s''/\p=SP.run (SP.dH z) (kas_sort vs.length))
    hu h2' h64 (λp st' s2 a1 a2 a3 a4=>⟨a4.1,?_,a3⟩) (SP.wp_run hlt (kas_sort vs.length) (SP.EC (by lia)) ⟨rfl,rfl⟩)) ?_ λ_ _ e=>e)
   ·rw[kat_snds hu a2,a4.2];unfold outV;rw[yN (by lia)]
   ·rintro⟨⟨⟩,st'⟩ s2 ⟨hs,h4,h5⟩;subst hs;exact last st' h4 h5
def sortedK{l:Value}{f:Addr}{Q:Value->Shared->Prop}(I:Inv X pins σ H s)(h64:vs.length < 64)
  (hcol:∀ {Q':List Value->Shared->Prop},(∀h':Heap,(∀b o,s.heap.get? b=some o->h'.get? b=some o)->Q' vs { s with heap:=h' })->wpAny (model X.prog X.w) A.in1 (collect l) Q' E s)
  (J:List Value->Hp->Prop) (j0:J [] H)
  (step:∀us v,vs[us.length]?=some v->∀pl s' H',Inv X (pins++pl) σ H' s'->J us H'->wpAny (model X.prog X.w) A.in1.in1 (call (.ref f) [v]) (λu s''=>∃H'',Inv X (pins++pl) σ H'' s''/\J (us++[u]) H'') (λ_ _=>False) s')
  (fin:∀us H',us.length=vs.length->J us H'->∃ (z:Nat->Int) (κ:SortKind),(2<=vs.length->∀s',Inv X pins σ H' s'->(∀Q':SortKind->Shared->Prop,Q' κ s'->wpAny (model X.prog X.w) A.in1.in1 (keyKind' us.toArray) Q' (λ_ _=>False) s') /\
    ∀i j C,i < vs.length->j < vs.length->C (SP.dH z i j) s'->kas_ask X.prog X.w A.in1.in1 κ us i j C s') /\
   ∀s' D c,Inv X pins σ H' s'->cq X pins H' D->s'.heap.get? D=some (seqObj "list" (outV z vs).toArray c)->Q (.ref D) s') :
  wpAny (model X.prog X.w) A (call (.builtin "sorted") [l] [(Str.ofString "key",.ref f)]) Q E s:=by
 have hsl:vs.length<=sizeLine:=by rw[qU];lia
 refine call_function_entry_kw kind_sorted plain_sorted entry_sorted (ksk_s1 _ _) ?_;unfold Builtin.«sorted»;refine zV (m:=checkCount "sorted" 1 1 _) (zW (zV (hcol λh1 kp=>?_)));refine zV (kM ?_ (by simpa using hsl));have I1:=I.kept (t':=s.toks) kp;have fD:cq X pins H h1.objs.size:=I1.fpOk (yM _) (I1.hok.fresh (yM _));have hoD:(h1.push (seqObj "list" vs.toArray 0)).get? h1.objs.size=some (seqObj "list" vs.toArray 0):=zX _ rfl;have I2:=I1.kept (t':=s.toks) (h':=h1.push (seqObj "list" vs.toArray 0)) λb o e=>zU _ e;show wpAny _ _ _ _ _ { s with heap:=h1.push (seqObj "list" vs.toArray 0) };refine zV (xX (wpAny_call_entry_kw slot_list_sort ⟨_,hoD,rfl⟩ entry_list_sort ?body (ksk_l1 _ _)))
 case body =>
  show wpAny (model X.prog X.w) A.in1.in1 (Builtin.«list.sort» ⟨[.ref h1.objs.size],[(Str.ofString "key",.ref f)]⟩) _ _ _;rw[ksk_t1];refine list_sortK I2 hoD fD h64 J j0 step λus H' hu j'=>?_;let⟨z,κ,hz,hP⟩:=fin us H' hu j';exact⟨z,κ,hz,λs' c I' f' e=>⟨_,rfl,zW ⟨_,rfl,hP s' _ c I' f' e⟩⟩⟩
end Srt
namespace Dl
open PySem L2 PySem.Spec PyProof.Rows
def _root_.L2.Inv.track(I:Inv X pins σ H s)(f:cq X pins H b)(ho:c7 X.prog X.w (upd H b o) s.heap b o):Inv X pins σ (upd H b o) s:=by
 let⟨f0,f1,f2,f3,f4,f5⟩:=f;have up:∀c u,H c=some u->upd H b o c=some u:=λc u e=>by rw[ax (aF e f0)];exact e
 refine⟨I.ok,I.os,I.bare,⟨I.base.keep,I.base.slot,λc oc e n hx=>?_,I.base.there,λc xs e=>up c _ (I.base.tups c xs e),λc oc u e=>up c _ (I.base.frzs c oc u e),⟨λc u e t=>up c u (I.base.tbls.st c u e t),I.base.tbls.gr⟩⟩,I.loc,I.cell,?_,λx c e=>?_,λp hp=>?_,λc u e=>?_,I.len⟩
 ·have hne:c≠b:=λz=>by
   rcases f3 with g|g
   ·exact hx (z ▸ g)
   ·exact absurd (zP (zY e) (z ▸ g)) (qE _)
  rw[ax hne];exact I.base.free c oc e n hx
 ·rw[ax (jM f1)];exact I.free
 ·rw[ax (f4 x c e)];exact I.freeC x c e
 ·let⟨e,n,r⟩:=I.pin p hp;exact⟨e,by rw[ax (f5 p hp)];exact n,r⟩
 ·by_cases hc:c=b
  ·subst hc;rw[aG] at e;cases e;exact ho
  ·rw[ax hc] at e;exact (I.hok c u e).stay (λd w _ q=>q) (λd q=>up d _ q) λd w q _=>up d _ q
def nG(scope:Scope)(N':List Str)(p:Str):Bool:=scope.names.all (λq=>!decide (q.2=NameKind.cell))&&decide (N'[0]?=some p)&&decide (scope.names.lookup p=some .local)&&decide (scope.isCoroutine=false)&&decide (scope.isGenerator=false)
section
def Gm(C:Bk X N sc (k+3))(hA:eF (k+1) A)(hk:scope.kind=.function)(hnd:N'.Nodup)(hl:nG scope N' p=true):Bk (gm X A qual scope N' f c s H) N' scope k where
 n:=rfl
 nd:=hnd
 tb:=λx kd hx=>.inl hx
 calm:=rfl
 fn:=λx hx=>by
  unfold nG at hl;simp?[zF,xG,yP,xB] at hl;exact absurd rfl (hl.1.1.1.1 _ (mem_of_lookup hx))
 room:=hA.deeper _
 xe:=rfl
 kd:=hk
structure pA(X:Cx)(qual:Str):Prop where
 ex:∃c P,X.env.code=.ref c/\X.env.qual++"<lambda>"=qual/\W.codeHdIn X.K c P=true/\∀HF,fH X.K HF->HF P=some (.tab qual)
def g9(te:Env->Option D)(ρ:Env):List D->Option (List D)
 | []=>some []
 | d::ds=>(te (ρ.set 0 (some d))).bind λx=>(g9 te ρ ds).map (x::·)
def m5:∀ {ds ks:List D},g9 te ρ ds=some ks->ks.length=ds.length
 | [],ks,h=>by cases h;rfl
 | d'::ds,ks,h=>by
  unfold g9 at h;let⟨y,h1,h⟩:=bs h;let⟨ys,h2,rfl⟩:=af h;simp[m5 h2]
def pL:∀ {ds ks:List D}{i:Nat}{d:D},g9 te ρ ds=some ks->ds[i]?=some d->∃x,te (ρ.set 0 (some d))=some x/\ks[i]?=some x
 | [],ks,i,d,h,e=>by simp at e
 | d'::ds,ks,i,d,h,e=>by
  unfold g9 at h;let⟨y,h1,h⟩:=bs h;let⟨ys,h2,rfl⟩:=af h;cases i with
  | zero=>simp at e;subst e;exact⟨y,h1,rfl⟩
  | succ i=>let⟨x,a,b⟩:=pL h2 (by simpa using e);exact⟨x,a,by simpa using b⟩
def nc(cs:List Nat)(fl te:Env->Option D):Env->Option (List D):=λρ=>(fl ρ).bind λl=>match l with
 | .list ds=>(g9 te (dm 1 cs ρ) ds).bind λks=>(intsOf ks).bind λzs=>if ds.length < 64 then some (oN (λi=>zs.getD i 0) ds .none) else none
 | _=>none
def xl{K:W.Frag}{cs:List Nat}(eo:cB K HF ρ σ)(r:Rep K HF d v):cB K HF ((dm 1 cs ρ).set 0 (some d)) ((jh 1 cs σ).set 0 (some v)):=ir (BK eo) r
def lX{K:W.Frag}:∀ {ks:List D}{zs:List Int}{kvs:List V}{us:List Value},intsOf ks=some zs->au K HF ks kvs->aH kvs us->IntsAre us zs
 | [],zs,kvs,us,h,r,v=>by
  cases h;rw[r.nil_inv] at v;cases v;exact .nil
 | d::ks,zs,kvs,us,h,r,v=>by
  cases d<;>simp?[intsOf] at h<;>try cases h
  rename_i i;let⟨ys,h2,rfl⟩:=af h;let⟨w,ws,rfl,a,b⟩:=r.cons_inv;simp?[Rep] at a;subst a;cases v with
  | cons r1 r2 =>
   let⟨t,rfl⟩:=r1;exact .cons i t (lX h2 b r2)
def iC:∀ {us:List Value}{zs:List Int}{i:Nat},IntsAre us zs->i < us.length->∃t,us.getD i Value.none=.int (zs.getD i 0) t
 | _,_,i,.nil,h=>by simp at h
 | _,_,0,.cons n t r,h=>⟨t,rfl⟩
 | _,_,i+1,.cons n t r,h=>by
  let⟨t',e⟩:=iC (i:=i) r (by simpa using h);exact⟨t',by simpa using e⟩
variable {fl te:Env->Option D}{cs:List Nat}
def Bk.sortK(C:Bk X N sc (k+3))(B:mF X "sorted" (.builtin "sorted"))(L:pA X qual)(ok:iw sc scope N N' 1 cs=true)(hl:nG scope N' p=true)
  (hb:∀ (cl:List (Str×Addr)) (pm ctv u:Value) (c:Addr),bindArgs (W.kla_fn "<lambda>" qual params body scope cl pm (.ref c) ctv) ⟨[u],[]⟩=pure [(p,u)]) (hdef:defaultsOf params X.env=([],[])) (h:DE X l fl)
  (hY:∀A f c s H,Bk (gm X A qual scope N' f c s H) N' scope k->DE (gm X A qual scope N' f c s H) body te)
  (hst:starEach [l] X.env=(false,eval l X.env)::starEach [] X.env) (he:backTo pos (starEach [l] X.env)=(false,eval l X.env)::backTo pos (starEach [] X.env)) (hpl:(backTo pos (starEach [l] X.env)).any (·.1)=false) :
  DF X (.Call (.Name "sorted" p0) [l] [⟨some "key",.Lambda params body scope lpos,kpos⟩] pos) (nc cs fl te):=by
 let⟨S,_⟩:=C.comp ok;have hnd:N'.Nodup:=by
  unfold iw at ok;simp?[zF,zJ] at ok;exact ok.2
 have hl':=hl;unfold nG at hl';simp?[zF,xG,yP,xB,zJ] at hl';obtain⟨⟨⟨⟨hnc,hN0⟩,hp⟩,hco⟩,hgen⟩:=hl';let⟨cc,P,hcode,hqual,hhd,d7⟩:=L.ex;intro pins s σ H Q I ⟨HF,ρ,out,sm,eo,hf,q⟩;let⟨ld,hld,hf⟩:=bs hf;cases ld<;>try cases hf
 rename_i ds;let⟨ks,hks,hf⟩:=bs hf;let⟨zs,hzs,hf⟩:=bs hf;split at hf<;>cases hf;rename_i h64;refine qY (gE I B.gl B.mg B.bt ?_ (by decide) (by decide));refine PyProof.Rows.callWith_kw (e:=l) (rest:=[]) (kws:=[⟨some "key",.Lambda params body scope lpos,kpos⟩]) ?_ he hpl rfl rfl;refine bR (BE h FL hst pos pins s σ H _ I ⟨HF,ρ,[.list ds],sm,eo,by simp[aa,ae,hld],λvs H1 HF1 g1 r1=>(⟨HF1,g1,r1⟩:∃HF1,bF HF H HF1 H1/\au X.K HF1 [.list ds] vs)⟩) λus s1 ⟨vs,H1,I1,rv,HF1,g1,r1⟩=>?_;let⟨v,vr,rfl,a1,b1⟩:=r1.cons_inv;rw[b1.nil_inv] at rv;let⟨u,rfl,rx⟩:=vals1 rv;simp?[Rep] at a1;let⟨la,ws,rfl,hq,rr⟩:=a1;cases rx;have hT1:H1 P=some (.tab qual):=g1.fh _ _ (d7 HF1 (eo.tb.mono g1.ff));show wpAny _ _ (evalAll ((do let v <- eval (.Lambda params body scope lpos) X.env;standAt pos;pure v)::[])) _ _ s1;refine wpAny_evalAll_cons (zV ?_);refine xn (P:=P) I1 S hqual hcode (W.codeHd_of_K I1.ok.mod.kin hhd) hT1 I1.ok.mod.bmd hdef λf c' pm ctv s2 H2 I2 hfo hfn hcod s12 fp2 _=>?_;refine zV (vA (zW (wpAny_evalAll_nil ?_)));show wpAny _ _ (call (.builtin "sorted") [.ref la] [(Str.ofString "key",.ref f)]) _ _ s2;have Ip:=I2.pinned (fp:=[f]) (λb hb=>by rw[List.mem_singleton.mp hb];exact fp2) (λb hb=>by rw[List.mem_singleton.mp hb];exact⟨_,hfo,λv z=>by cases z⟩);have g2:bF HF1 H1 HF1 H2:=⟨s12,.refl _,g1.fh.trans s12,λ_ _ e=>.inl e⟩
 let⟨its,rvi,pl,hz⟩:=Ip.list (s12.seq (g1.fh.seq hq));have hlen:its.length=ds.length:=by rw[<- rvi.length,rr.length]
 have hkl:=m5 hks;have hR:eF (k+1) X.A.in1.in1:=C.room.in1.in1;refine Srt.sortedK (vs:=its) Ip (by lia) (λ{Q'} hQ=>?_) (λus H'=>∃HF' kvs,bF HF1 H2 HF' H'/\au X.K HF' (ks.take us.length) kvs/\aH kvs us) ⟨HF1,[],.refl g2.fh,by simpa using au.nil,.nil⟩ (λus x hx pl' s3 H3 I3 ⟨HF3,kvs,g3,rk,rvk⟩=>?_) λus H3 hu ⟨HF3,kvs,g3,rk,rvk⟩=>?_
 ·refine collect_list pl.isList (hQ _ λb o e=>?_) (by rw[qU];lia);exact (xN _ _ (jI (zY e))).trans (zU _ e)
 ·have hi:us.length < its.length:=(List.getElem?_eq_some_iff.mp hx).1;obtain⟨w,hw⟩:∃w,ws[us.length]?=some w:=⟨_,zK (by rw[rvi.length];exact hi)⟩
  let⟨x',hx',rw'⟩:=rvi.get hw;rw[hx] at hx';cases hx';let⟨d,hd,rd⟩:=rr.get hw;let⟨kd,hkd,hki⟩:=pL hks hd;have hfo3:s3.heap.get? f=some (W.kla_obj "<lambda>" qual params body scope (dN X.env scope.names []) pm c' ctv) :=
   (I3.pin (f,_) (yE _ (qJ _ (yE _ (cZ zE hfo))))).1
  refine xA (xq (Q:=λv H4=>∃HF4,bF HF3 H3 HF4 H4/\Rep X.K HF4 kd v) (te:=tD X.K te) I3 hR I3.ok.frames S hnc hN0 hp hnd hco hgen hfo3 (g3.hh _ _ hcod) (hb _ _ _ _ _) rw' (hY _ _ _ _ _ (Gm C hR S.kind hnd hl))
   ⟨HF3,_,kd,g3.fh,xl (eo.mono (g1.ff.trans g3.ff)) (rd.mono g3.ff),hkd,λv H4 HF4 g4 r4=>⟨HF4,g4,r4⟩⟩) (λu s4 ⟨v4,H4,I4,r4,HF4,g4,rp⟩=>⟨H4,I4,HF4,kvs++[v4],g3.trans g4,?_,rvk.append (.cons r4 .nil)⟩) λ_ _ e=>e
  rw[zN,xC,wJ,hki];exact (rk.mono g4.ff).append (au.cons rp au.nil)
 ·have hk':ks.take us.length=ks:=kG (by lia);rw[hk'] at rk;have ia:=lX hzs rk rvk;refine⟨λi=>zs.getD i 0,oneType',λh2 s3 I3=>⟨λQ' q'=>?_,λi j Cc hi hj q'=>?_⟩,λs3 Dn c I3 fD e=>?_⟩
  ·rw[PyProof.Rows.ksk_kind (keys:=us.toArray) (kz:=zs) (by simpa using ia) (by simpa [hu] using h2)];exact zW q'
  ·let⟨t1,e1⟩:=iC ia (i:=i) (by lia);let⟨t2,e2⟩:=iC ia (i:=j) (by lia);unfold W.kas_ask;rw[e1,e2];exact W.kat_lt_int q'
  ·have hv:=oS (λi=>zs.getD i 0) rvi;have hr:=pX (λi=>zs.getD i 0) rr;have hnD:H3 Dn=none:=fD.1;have I4:=Inv.track (o:=.lst (oN (λi=>zs.getD i 0) ws .non)) I3 fD ⟨by rw[(fu _ _ _).length_eq];exact hz,_,c,hv,e⟩;have G:=(g1.trans g2).trans g3;refine⟨.ref Dn,_,I4.unpinned,rfl,q Dn _ _ HF3 (G.trans (.own G.fh hnD)) (G.hh.free hnD) (G.fh.free hnD) aG (hr.mono g3.ff)⟩
end
end Dl
namespace Srt
open PySem PySem.W PySem.Calls PyProof.Rows L2
variable {a:Int}{n:Nat}
def iadd_rng{R:Result->Shared->Prop}{a b c:Int}{t u v:Tok}(hh:A.handled=none)(hr:IsRange s.heap r a b c t u v)(hsmall:Builtin.Range.small a b c=true)(hn:Builtin.Range.rangeSize a b c=n)(hlen:n<=2 ^ 24)
  (hS:s.heap.get? S=some { cls:=.type "list",data:=.seq #[] })
  (hR:∀h' tk acc' c',(∀b o,b≠S->s.heap.get? b=some o->h'.get? b=some o)->h'.get? S=some { cls:=.type "list",dict:=none,data:=.seq acc' c',slots:=#[] } ->
   ItemsOf (λi v=>∃t,v=.int (a+i * c) t) acc' n->R (.ok (.ret (.ref S))) { s with heap:=h',toks:=tk }):codeAny (model prog w) A (.builtin "list.__iadd__" ⟨[.ref S,.ref r],[]⟩) R s:=by
 refine kC entry_list_iadd' ?_;rw[Around.under_plainId (by decide +kernel:plainId "list.__iadd__"=true) _];exact wpAny_extend_range (A:=A) hh hr hsmall hn hlen S (.ref S) _ hS hR
def collect_rng(hh:A.handled=none)(hr:IsRange s.heap r a b c t u v)(hsmall:Builtin.Range.small a b c=true)(hn:Builtin.Range.rangeSize a b c=n)(hlen:n<=2 ^ 24)
  (h:∀h' tk acc,(∀b o,s.heap.get? b=some o->h'.get? b=some o)->ItemsOf (λi v=>∃t,v=.int (a+i * c) t) acc n->Q acc.toList { s with heap:=h',toks:=tk }):wpAny (model prog w) A (collect (.ref r)) Q E s:=by
 unfold collect;refine zV (wpAny_runValue (kC entry_proto_collect' ?_));rw[Around.under_plainId (by decide +kernel:plainId "proto.collect"=true) _];show wpAny _ A.in1 (newList [] >>= λl=>again (.builtin "list.__iadd__" ⟨[l,.ref r],[]⟩)) _ _ s;refine zV (qL ?_);have hS:(s.heap.push { cls:=.type "list",data:=.seq #[] }).get? s.heap.objs.size=some { cls:=.type "list",data:=.seq #[] }:=zX _ rfl;refine zW ⟨plainId_quiet (by decide +kernel) _,iadd_rng (s:={ s with heap:=s.heap.push { cls:=.type "list",data:=.seq #[] } }) hh (zU _ hr) hsmall hn hlen hS λh' tk acc' c' hk hS' hacc=>?_⟩;show wpAny _ A (load s.heap.objs.size >>= _) _ _ _;refine zV (wpAny_load hS' ?_);exact zW (h h' tk acc' (λb o e=>hk b o (yR (zY e)) (zU _ e)) hacc)
def sortedR{l:Value}{f:Addr}{PV:List Value->Prop}{Q:Value->Shared->Prop}(I:Inv X pins σ H s)
  (hcol:∀ {Q':List Value->Shared->Prop},(∀ (h':Heap) (tk:Nat) (vs:List Value),PV vs->(∀b o,s.heap.get? b=some o->h'.get? b=some o)->Q' vs { s with heap:=h',toks:=tk })->wpAny (model X.prog X.w) A.in1 (collect l) Q' E s)
  (rest:∀vs,PV vs->vs.length < 64/\∃J:List Value->Hp->Prop,J [] H /\
   (∀us v,vs[us.length]?=some v->∀pl s' H',Inv X (pins++pl) σ H' s'->J us H'->wpAny (model X.prog X.w) A.in1.in1 (call (.ref f) [v]) (λu s''=>∃H'',Inv X (pins++pl) σ H'' s''/\J (us++[u]) H'') (λ_ _=>False) s') /\
   (∀us H',us.length=vs.length->J us H'->∃ (z:Nat->Int) (κ:SortKind),(2<=vs.length->∀s',Inv X pins σ H' s'->(∀Q':SortKind->Shared->Prop,Q' κ s'->wpAny (model X.prog X.w) A.in1.in1 (keyKind' us.toArray) Q' (λ_ _=>False) s') /\
    ∀i j C,i < vs.length->j < vs.length->C (SP.dH z i j) s'->kas_ask X.prog X.w A.in1.in1 κ us i j C s') /\
   ∀s' D c,Inv X pins σ H' s'->cq X pins H' D->s'.heap.get? D=some (seqObj "list" (outV z vs).toArray c)->Q (.ref D) s')) :
  wpAny (model X.prog X.w) A (call (.builtin "sorted") [l] [(Str.ofString "key",.ref f)]) Q E s:=by
 refine call_function_entry_kw kind_sorted plain_sorted entry_sorted (ksk_s1 _ _) ?_;unfold Builtin.«sorted»;refine zV (m:=checkCount "sorted" 1 1 _) (zW (zV (hcol λh1 tk vs hv kp=>?_)));let⟨h64,J,j0,step,fin⟩:=rest vs hv;have hsl:vs.length<=sizeLine:=by rw[qU];lia
 refine zV (kM ?_ (by simpa using hsl));have I1:=I.kept (t':=tk) kp;have fD:cq X pins H h1.objs.size:=I1.fpOk (yM _) (I1.hok.fresh (yM _));have hoD:(h1.push (seqObj "list" vs.toArray 0)).get? h1.objs.size=some (seqObj "list" vs.toArray 0):=zX _ rfl;have I2:=I1.kept (t':=tk) (h':=h1.push (seqObj "list" vs.toArray 0)) λb o e=>zU _ e;show wpAny _ _ _ _ _ { s with heap:=h1.push (seqObj "list" vs.toArray 0),toks:=tk };refine zV (xX (wpAny_call_entry_kw slot_list_sort ⟨_,hoD,rfl⟩ entry_list_sort ?body (ksk_l1 _ _)))
 case body =>
  show wpAny (model X.prog X.w) A.in1.in1 (Builtin.«list.sort» ⟨[.ref h1.objs.size],[(Str.ofString "key",.ref f)]⟩) _ _ _;rw[ksk_t1];refine list_sortK I2 hoD fD h64 J j0 step λus H' hu j'=>?_;let⟨z,κ,hz,hP⟩:=fin us H' hu j';exact⟨z,κ,hz,λs' c I' f' e=>⟨_,rfl,zW ⟨_,rfl,hP s' _ c I' f' e⟩⟩⟩
end Srt
namespace Dl
open PySem L2 PySem.Spec PyProof.Rows
def p9(n:Nat):List D:=(List.range n).map λi=>PyData.int ((i:Nat):Int)
def qb(cs:List Nat)(fs:Env->Option (List D))(te:Env->Option D):Env->Option (List D):=λρ=>(fs ρ).bind λl=>match l with
 | [.int n]=>if 0<=n/\n < 64 then (g9 te (dm 1 cs ρ) (p9 n.toNat)).bind λks=>(rowsOf ks).map λnss=>oN (λi=>rk nss (nss.getD i [])) (p9 n.toNat) .none else none
 | _=>none
def sd:∀ {vs:List Value}{k:Nat},(∀i v,vs[i]?=some v->∃t,v=Value.int ((k+i:Nat):Int) t)->aH ((List.range' k vs.length).map λi=>V.int ((i:Nat):Int)) vs
 | [],k,_=>.nil
 | v::vs,k,h=>by
  rw[zL,vD,zI];let⟨t,e⟩:=h 0 v rfl;refine .cons ⟨t,by simpa using e⟩ (sd λi u hu=>?_);let⟨t',e'⟩:=h (i+1) u (by simpa using hu);exact⟨t',by rw[e'];congr 1;lia⟩
def su{K:W.Frag}:∀ (l:List Nat),au K HF (l.map λi=>PyData.int ((i:Nat):Int)) (l.map λi=>V.int ((i:Nat):Int))
 | []=>au.nil
 | i::l=>au.cons (by simp[Rep]) (su l)
section
variable {cs:List Nat}
def Bk.sortR(C:Bk X N sc (k+3))(B:mF X "sorted" (.builtin "sorted"))(BR:mF X "range" (.type "range"))(L:pA X qual)(ok:iw sc scope N N' 1 cs=true)(hl:nG scope N' p=true)
  (hb:∀ (cl:List (Str×Addr)) (pm ctv u:Value) (c:Addr),bindArgs (W.kla_fn "<lambda>" qual params body scope cl pm (.ref c) ctv) ⟨[u],[]⟩=pure [(p,u)]) (hdef:defaultsOf params X.env=([],[])) (h:DA X [e] fs)
  (hY:∀A f c s H,Bk (gm X A qual scope N' f c s H) N' scope k->DE (gm X A qual scope N' f c s H) body te)
  (hsR:starEach [e] X.env=[(false,eval e X.env)])
  (hst:starEach [.Call (.Name "range" p1) [e] [] rpos] X.env=(false,eval (.Call (.Name "range" p1) [e] [] rpos) X.env)::starEach [] X.env) (he:backTo pos (starEach [.Call (.Name "range" p1) [e] [] rpos] X.env)=(false,eval (.Call (.Name "range" p1) [e] [] rpos) X.env)::backTo pos (starEach [] X.env)) (hpl:(backTo pos (starEach [.Call (.Name "range" p1) [e] [] rpos] X.env)).any (·.1)=false) :
  DF X (.Call (.Name "sorted" p0) [.Call (.Name "range" p1) [e] [] rpos] [⟨some "key",.Lambda params body scope lpos,kpos⟩] pos) (qb cs fs te):=by
 let⟨S,_⟩:=C.comp ok;have hnd:N'.Nodup:=by
  unfold iw at ok;simp?[zF,zJ] at ok;exact ok.2
 have hl':=hl;unfold nG at hl';simp?[zF,xG,yP,xB,zJ] at hl';obtain⟨⟨⟨⟨hnc,hN0⟩,hp⟩,hco⟩,hgen⟩:=hl';let⟨cc,P,hcode,hqual,hhd,d7⟩:=L.ex;intro pins s σ H Q I ⟨HF,ρ,out,sm,eo,hf,q⟩;let⟨ld,hld,hf⟩:=bs hf;obtain⟨n,rfl⟩:∃n,ld=[.int n]:=by
  split at hf
  ·exact⟨_,rfl⟩
  ·cases hf
 simp only at hf;split at hf;rotate_left
 ·cases hf
 rename_i h64;let⟨ks,hks,hf⟩:=bs hf;let⟨nss,hns,rfl⟩:=af hf;let⟨hkr,hne⟩:=jx hns;refine qY (gE I B.gl B.mg B.bt ?_ (by decide) (by decide));refine PyProof.Rows.callWith_kw (e:=.Call (.Name "range" p1) [e] [] rpos) (rest:=[]) (kws:=[⟨some "key",.Lambda params body scope lpos,kpos⟩]) ?_ he hpl rfl rfl;rw[he];refine Calls.spliced_cons ?_;refine Call_ (gE I BR.gl BR.mg boot_range (qS (bR (h rpos pins s σ H _ I ⟨HF,ρ,[.int n],sm,eo,hld,λvs H1 HF1 g1 r1=>(⟨HF1,g1,r1⟩:∃HF1,bF HF H HF1 H1/\au X.K HF1 [.int n] vs)⟩) λus s1 ⟨vs,H1,I1,rv,HF1,g1,r1⟩=>?_) hsR rfl));let⟨v,vr,rfl,a1,b1⟩:=r1.cons_inv;rw[b1.nil_inv] at rv;let⟨u,rfl,rx⟩:=vals1 rv;simp?[Rep] at a1;subst a1;let⟨t,rfl⟩:=rx;refine call_range_1 ?_;refine Calls.spliced_nil ?_;let⟨hn0,hn64⟩:=h64;have I1':=I1.kept (t':=s1.toks+1+1) (h':=s1.heap.push { cls:=Value.type "range",data:=Data.fields #[Value.int 0 s1.toks,Value.int n t,Value.int 1 (s1.toks+1)] }) λb o e=>zU _ e;have hro:(s1.heap.push { cls:=Value.type "range",data:=Data.fields #[Value.int 0 s1.toks,Value.int n t,Value.int 1 (s1.toks+1)] }).get? s1.heap.objs.size=some { cls:=Value.type "range",data:=Data.fields #[Value.int 0 s1.toks,Value.int n t,Value.int 1 (s1.toks+1)] }:=zX _ rfl;have Ir:=I1'.pinned (fp:=[s1.heap.objs.size]) (λb hb=>by rw[List.mem_singleton.mp hb];exact I1.fpOk (yM _) I1.fresh) (λb hb=>by rw[List.mem_singleton.mp hb];exact⟨_,hro,λv z=>by cases z⟩);have hT1:H1 P=some (.tab qual):=g1.fh _ _ (d7 HF1 (eo.tb.mono g1.ff));show wpAny _ _ (evalAll ((do let v <- eval (.Lambda params body scope lpos) X.env;standAt pos;pure v)::[])) _ _ _;refine wpAny_evalAll_cons (zV ?_);refine xn (P:=P) Ir S hqual hcode (W.codeHd_of_K Ir.ok.mod.kin hhd) hT1 Ir.ok.mod.bmd hdef λf c' pm ctv s2 H2 I2 hfo hfn hcod s12 fp2 _=>?_;refine zV (vA (zW (wpAny_evalAll_nil ?_)));show wpAny _ _ (call (.builtin "sorted") [.ref s1.heap.objs.size] [(Str.ofString "key",.ref f)]) _ _ s2;have hr2:IsRange s2.heap s1.heap.objs.size 0 n 1 s1.toks t (s1.toks+1):=(Srt.pin_get I2 zE hro).1;have Ip:=I2.pinned (fp:=[f]) (λb hb=>by rw[List.mem_singleton.mp hb];exact fp2) (λb hb=>by rw[List.mem_singleton.mp hb];exact⟨_,hfo,λv z=>by cases z⟩);have g2:bF HF1 H1 HF1 H2:=⟨s12,.refl _,g1.fh.trans s12,λ_ _ e=>.inl e⟩
 have hkl:=m5 hks;have hnl:(p9 n.toNat).length=n.toNat:=by simp[p9]
 have hR:eF (k+1) X.A.in1.in1:=C.room.in1.in1;refine Srt.sortedR (PV:=λvs=>vs.length=n.toNat/\∀i v,vs[i]?=some v->∃t,v=Value.int ((i:Nat):Int) t) Ip (λ{Q'} hQ=>?_) λits ⟨hil,hiv⟩=>⟨by lia,λus H'=>∃HF' kvs,bF HF1 H2 HF' H'/\au X.K HF' (ks.take us.length) kvs/\aH kvs us,⟨HF1,[],.refl g2.fh,by simpa using au.nil,.nil⟩,λus x hx pl' s3 H3 I3 ⟨HF3,kvs,g3,rk,rvk⟩=>?_,λus H3 hu ⟨HF3,kvs,g3,rk,rvk⟩=>?_⟩
 ·refine Srt.collect_rng (n:=n.toNat) C.room.in1.hd hr2 (small_one (by lia) (by lia) (by lia) (by lia)) (by rw[rangeSize_one];split<;>lia) (by lia) λh' tk acc kp ha=>?_;refine hQ h' tk acc.toList ⟨by have:=ha.1;simpa using this,λi v hv=>?_⟩ kp;let⟨t',e'⟩:=ha.2 i v (by simpa using hv);exact⟨t',by rw[e'];congr 1;lia⟩
 ·have hi:us.length < n.toNat:=by rw[<- hil];exact (List.getElem?_eq_some_iff.mp hx).1
  let⟨tx,rfl⟩:=hiv _ _ hx;have hd:(p9 n.toNat)[us.length]?=some (.int ((us.length:Nat):Int)):=by simp[p9,hi]
  let⟨kd,hkd,hki⟩:=pL hks hd;have hfo3:s3.heap.get? f=some (W.kla_obj "<lambda>" qual params body scope (dN X.env scope.names []) pm c' ctv) :=
   (I3.pin (f,_) (yE _ (qJ _ (yE _ (cZ zE hfo))))).1
  refine xA (xq (v:=V.int ((us.length:Nat):Int)) (Q:=λv H4=>∃HF4,bF HF3 H3 HF4 H4/\Rep X.K HF4 kd v) (te:=tD X.K te) I3 hR I3.ok.frames S hnc hN0 hp hnd hco hgen hfo3 (g3.hh _ _ hcod) (hb _ _ _ _ _) ⟨tx,rfl⟩ (hY _ _ _ _ _ (Gm C hR S.kind hnd hl))
   ⟨HF3,_,kd,g3.fh,xl (eo.mono (g1.ff.trans g3.ff)) (by simp[Rep]),hkd,λv H4 HF4 g4 r4=>⟨HF4,g4,r4⟩⟩) (λu s4 ⟨v4,H4,I4,r4,HF4,g4,rp⟩=>⟨H4,I4,HF4,kvs++[v4],g3.trans g4,?_,rvk.append (.cons r4 .nil)⟩) λ_ _ e=>e
  rw[zN,xC,wJ,hki];exact (rk.mono g4.ff).append (au.cons rp au.nil)
 ·have hk':ks.take us.length=ks:=kG (by lia);rw[hk',hkr] at rk;have hnn:nss.length=n.toNat:=by
   have:=jC List.length hkr;rw[zD] at this;lia
  refine⟨λi=>Dl.rk nss (nss.getD i []),tuples' true,λh2 s3 I3=>⟨λQ' q'=>?_,λi j Cc hi hj q'=>?_⟩,λs3 Dn c I3 fD e=>?_⟩
  ·let⟨fs',tt,hlen,hff⟩:=qd (oK I3 g3.fh rk rvk) hne;refine W.kat_kind (T:=.type "int") tt (by lia) (λv hv=>?_) (by decide) q';let⟨n',t',rfl⟩:=hff v hv;exact W.Looks.of_pure rfl
  ·have hp3:=oK I3 g3.fh rk rvk;have ri:=fK (d:=Value.none) (d':=[]) hp3 (show i < us.length by lia);have rj:=fK (d:=Value.none) (d':=[]) hp3 (show j < us.length by lia);let⟨a,o,its1,n1,ea,e1,e2,e3,e4⟩:=ri.ex;let⟨b,o',its',n',eb,f1,f2,f3,f4⟩:=rj.ex;unfold W.kas_ask;rw[ea,eb];have hmem:nss.getD i []∈nss:=by
    rw[zG,zK (by lia)];exact qA _
   have q2:Cc (lexLt (nss.getD i []) (nss.getD j [])) s3:=by
    rw[Bz hmem];exact q'
   refine W.kat_lt e1 e3 f1 f3 ?_;have:=pK (prog:=X.prog) (w:=X.w) (A:=X.A.in1.in1) (s:=s3) 0 e4 f4 q2;have l1:its1.size=(nss.getD i []).length:=by have:=vT e4;simpa using this
   have l2:its'.size=(nss.getD j []).length:=by have:=vT f4;simpa using this
   rw[l1,l2];exact this
  ·have rvi:aH ((List.range n.toNat).map λi=>V.int ((i:Nat):Int)) its:=by
    have:=sd (vs:=its) (k:=0) λi v hv=>by
     let⟨t',e'⟩:=hiv i v hv;exact⟨t',by rw[e'];congr 1;lia⟩
    rw[hil,<- yH] at this;exact this
   have rr:au X.K HF1 (p9 n.toNat) ((List.range n.toNat).map λi=>V.int ((i:Nat):Int)):=su _;have hv:=oS (λi=>Dl.rk nss (nss.getD i [])) rvi;have hr:=pX (λi=>Dl.rk nss (nss.getD i [])) rr;have hnD:H3 Dn=none:=fD.1;have I4:=Inv.track (o:=.lst (oN (λi=>Dl.rk nss (nss.getD i [])) ((List.range n.toNat).map λi=>V.int ((i:Nat):Int)) .non)) I3 fD ⟨by rw[(fu _ _ _).length_eq,zD,zR,PySem.sizeLine_eq];lia,_,c,hv,e⟩;have G:=(g1.trans g2).trans g3;refine⟨.ref Dn,_,I4.unpinned.unpinned,rfl,q Dn _ _ HF3 (G.trans (.own G.fh hnD)) (G.hh.free hnD) (G.fh.free hnD) aG (hr.mono g3.ff)⟩
end
def Hs(i j l:Nat):Env->D->Option Env:=λρ d=>match d with
 | .tuple [x,y,z]=>if isFree ρ i=true/\isFree ρ j=true/\isFree ρ l=true then some (((ρ.set i (some x)).set j (some y)).set l (some z)) else none
 | _=>none
def Gg(i j l:Nat)(hc:X.calm=true)(hN:X.N.Nodup)(hi:X.N[i]?=some x)(hx:Loc X.env.scope x)(hj:X.N[j]?=some y)(hy:Loc X.env.scope y)(hl:X.N[l]?=some z)(hz:Loc X.env.scope z)
  (hf:X.fn x=true\/X.env.scope.names.lookup x=some .local) (hf':X.fn y=true\/X.env.scope.names.lookup y=some .local) (hf'':X.fn z=true\/X.env.scope.names.lookup z=some .local) :
  DG X (.Tuple [.Name x px,.Name y py,.Name z pz] k pos) (Hs i j l) :=
 mQ (uv hc (cR (cU hN hi hx hf) (cR (cU hN hj hy hf') (cR (cU hN hl hz hf'') oI)))) λv σ H Q ⟨HF,ρ,d,ρ',sm,eo,r,hf,q⟩=>by
  unfold Hs at hf;split at hf
  ·rename_i x' y' z';split at hf
   ·rename_i hh;cases hf;simp?[Rep] at r;let⟨a,vs,rfl,hs,rr⟩:=r;let⟨v1,r1,rfl,a1,b1⟩:=rr.cons_inv;let⟨v2,r2,rfl,a2,b2⟩:=b1.cons_inv;let⟨v3,r3,rfl,a3,b3⟩:=b2.cons_inv;rw[b3.nil_inv] at hs;exact⟨a,_,rfl,ay sm hs,rfl,v1,_,rfl,v2,_,rfl,v3,_,rfl,rfl,q _ (ir (ir (ir eo a1) a2) a3) (kg (kg (kg eo hh.1) hh.2.1) hh.2.2)⟩
   ·cases hf
  ·cases hf
def xa:List D->Option D
 | [.int a,.int b]=>some (.int (max a b))
 | _=>none
def EJ(hc:X.calm=true):dq X (.builtin "max") (λxs H Q=>∃a b:Int,xs=[.int a,.int b]/\Q (.int (max a b)) H):=by
 intro pins s σ H xs us Q I r h;have hh:X.A.handled=none:=I.ok.hd hc;let⟨a,b,rfl,q⟩:=h;cases r with
 | cons r1 r =>
  cases r with
  | cons r2 r =>
   cases r;let⟨t,rfl⟩:=r1;let⟨u,rfl⟩:=r2;refine max_two_ints hh λh' tk kp=>⟨.int (max a b),H,I.kept (t':=tk) kp,?_,q⟩
   by_cases h:b > a
   ·rw[yL h,show max a b=b by lia];exact⟨_,rfl⟩
   ·rw[yN h,show max a b=a by lia];exact⟨_,rfl⟩
def LO(hc:X.calm=true)(B:mF X "max" (.builtin "max"))(he:starEach (e::es) X.env=(false,eval e X.env)::starEach es X.env)(hpl:(backTo pos (starEach es X.env)).any (·.1)=false)(ha:DA X (e::es) fs):DE X (.Call (.Name "max" p) (e::es) [] pos) (aS xa fs) :=
 fM (EJ hc) (by
  intro HF H ds vs d Q sm r hg q;unfold xa at hg;split at hg
  ·cases hg;let⟨v1,r1,rfl,a1,b1⟩:=r.cons_inv;let⟨v2,r2,rfl,a2,b2⟩:=b1.cons_inv;rw[b2.nil_inv];simp?[Rep] at a1 a2;exact⟨_,_,by rw[a1,a2],q _ H HF (.refl sm) (by simp[Rep])⟩
  ·cases hg) B ha (by decide) (by decide) he hpl
structure QN(h:Heap)(v:Value)(r:List Int):Prop where
 ex:∃ (a:Addr) (o:Obj) (n:Nat) (p:Value) (x y m:Int) (t:Tok),v=.ref a/\r=[x,y,m]/\h.get? a=some o/\o.cls=.type "tuple"/\o.data=.seq #[p,.int m t] n/\vp h p [x,y]
end Dl
namespace HT
open PySem PyProof.Rows
section
open PySem.SeqAt
open PySem.AutoSeq1 (wpAny_loadPart')
open PySem.MeetsSeq PySem.MeetsSeq2 PySem.MeetsSeq3
end
end HT
namespace Dl
open PySem L2 PySem.Spec PyProof.Rows
def iE:List D->Option (List (List Int))
 | []=>some []
 | d::r=>(gc d).bind λns=>(iE r).map (ns::·)
section
variable {fl te:Env->Option D}{cs:List Nat}
end
def Da(its:List Value):slicePick its.toArray none none (some (-1))=its.reverse.toArray:=by
 rw[<- uZ its];unfold slicePick;have e:sliceBounds none none (some (-1)) its.toArray.size=(((its.length:Nat):Int) - 1,-1,-1):=rfl;rw[e];unfold sliceRange;have e2:((if (-1:Int) > 0 then (if ((its.length:Nat):Int) - 1 < -1 then (-1 - (((its.length:Nat):Int) - 1)+-1 - 1) / -1 else 0) else (if ((its.length:Nat):Int) - 1 > -1 then (((its.length:Nat):Int) - 1 - -1 - -1 - 1) / (- -1) else 0)):Int).toNat=its.length:=by
  rw[yN (by decide)];simp?[Int.neg_neg,Int.ediv_one];split<;>lia
 simp?[e2];rw[List.filterMap_map]
 congr 1
 refine pj λk _=>?_;show its.toArray[(((its.length:Nat):Int) - 1+(-1) * (k:Int)).toNat]?=_;rw[Int.mul_comm]
def Kd(ha:PE X a ta):PE X (.Subscript a (.Slice none none (some (.UnaryOp .USub (.Constant (.int 1) j p4) p3)) p2) pos) (λσ H Q=>ta σ H λx H1=>∃b xs,x=.ref b/\gH X.K H1 b xs/\∀p,H1 p=none->Q (.ref p) (upd H1 p (.lst xs.reverse))):=by
 intro pins s σ H Q I h;refine Subscript_ (bR (ha pins s σ H _ I h) λv s1 ⟨x,H1,I1,r1,b,xs,e,hq,q⟩=>?_);subst e;cases r1;refine wpAny_Slice ?_;rw[evalPart_none];refine zW (zW ?_);have hst:=ui (X:=X) (Gv (op:=.USub) ze (Ay (X:=X) (i:=1) (j:=j) (pos:=p4)) (pos:=p3)) pins s1 σ H1 (λo H'=>o=some (-1)/\H'=H1) I1 ⟨1,rfl,-1,rfl,rfl,rfl⟩;refine bR hst λvst s2 ⟨o,H2,I2,pst,e1,e2⟩=>?_;subst e1 e2;cases pst with
 | int _ tk =>
 have I4:Inv X pins σ H2 { s2 with heap:=s2.heap.push { cls:=.type "slice",data:=.fields #[.none,.none,.int (-1) tk] } }:=I2.kept (t':=s2.toks) λb ob q=>zU _ q;let⟨its',r',ht',hz⟩:=I4.list hq;refine tail_any (ops:=[.ref b,.ref s2.heap.objs.size]) ht'.isList.typeIs slot_list_getitem.lookup (wpAny_getItem_list_slice ht'.isList (Heap.IsSliceOf.new ..) .none .none (.int _ _) (by decide) ?_ (by rw[zH,<- r'.length];exact hz)) (by with_unfolding_all rfl);rw[Da];have hv:aH xs.reverse its'.reverse:=L2.aH.reverse r';exact⟨.ref _,_,I4.laid (t':=s2.toks) (o:=.lst xs.reverse) (λb ob q=>zU _ q) (yM _) ⟨by rw[List.length_reverse];exact hz,_,0,hv,zX _ rfl⟩,rfl,q _ I4.fresh⟩
def BS:D->Option D|.list ds=>some (.list ds.reverse)|_=>none
def Iv(ha:DE X a fa):DE X (.Subscript a (.Slice none none (some (.UnaryOp .USub (.Constant (.int 1) j p4) p3)) p2) pos) (f1 BS fa):=aN (Kd ha) λσ H Q ⟨HF,ρ,d,sm,eo,hf,q⟩=>by
 let⟨x,hx,hf⟩:=bs hf;refine⟨HF,ρ,x,sm,eo,hx,λv1 H1 HF1 g1 r1=>?_⟩;cases x<;>try cases hf
 simp?[Rep] at r1;let⟨b,vs,rfl,hs,rr⟩:=r1;refine⟨b,vs,rfl,g1.fh.seq hs,λp hp=>q _ _ _ (g1.trans (.new g1.fh hp)) ?_⟩;simp?[Rep];exact⟨p,_,rfl,.inl (.inl aG),rr.reverse.mono (bL (g1.fh.free hp))⟩
def strsOf:List D->Option (List Str)
 | []=>some []
 | .str x::r=>(strsOf r).map (x::·)
 | _::_=>none
def nL:∀ {ds:List D}{xs:List Str},strsOf ds=some xs->ds=xs.map PyData.str
 | [],xs,h=>by cases h;rfl
 | d::ds,xs,h=>by
  cases d<;>try cases h
  let⟨ys,h1,rfl⟩:=af (show (strsOf ds).map _=some xs from h);rw[zI,<- nL h1]
def qk:∀xs:List Str,strsOf (xs.map PyData.str)=some xs
 | []=>rfl
 | x::xs=>by rw[zI,strsOf,qk xs];rfl
def rP{K:W.Frag}:∀ {xs:List Str}{vs:List V},au K H (xs.map PyData.str) vs->vs=xs.map V.str
 | [],vs,h=>h.nil_inv
 | x::xs,vs,h=>by
  let⟨v,r,rfl,a,c⟩:=h.cons_inv;simp?[Rep] at a;rw[a,rP c];rfl
def mq{K:W.Frag}:∀xs:List Str,au K H (xs.map PyData.str) (xs.map V.str)
 | []=>au.nil
 | x::xs=>au.cons (by simp[Rep]) (mq xs)
def rq:∀ {xs:List Str}{us:List Value},aH (xs.map V.str) us->∃l:List (Str×Tok),us=strValues l/\l.map (·.1)=xs
 | [],us,h=>by cases h;exact⟨[],rfl,rfl⟩
 | x::xs,us,h=>by
  rw[zI] at h;cases h with
  | cons r rr =>
   let⟨t,rfl⟩:=r;let⟨l,rfl,e⟩:=rq rr;exact⟨(x,t)::l,rfl,by rw[zI,e]⟩
def me:∀l:List (Str×Tok),aH ((l.map (·.1)).map V.str) (strValues l)
 | []=>.nil
 | (x,t)::l=>.cons ⟨t,rfl⟩ (me l)
def fY:D->D->Option D
 | .str a,.str b=>if a.length+b.length<=sizeLine then some (.str (a++b)) else none
 | _,_=>none
def Ek{K:W.Frag}:dF K (λx y H Q=>∃i j,x=.str i/\y=.str j/\i.length+j.length<=sizeLine/\Q (.str (i++j)) H) fY:=by
 intro HF H x y v1 v2 d Q sm r1 r2 hg q;cases x<;>try cases hg
 cases y<;>try cases hg
 rename_i a b;have hg:(if a.length+b.length<=sizeLine then some (PyData.str (a++b)) else none)=some d:=hg;split at hg
 ·rename_i hz;cases hg;simp?[Rep] at r1 r2;exact⟨a,b,r1,r2,hz,q _ H HF (.refl sm) (by simp[Rep])⟩
 ·cases hg
def Ia:K5 X "str.join" (λx vs H Q=>∃ (sep:Str) (l:Addr) (xs:List Str),x=.str sep/\vs=[.ref l]/\gH X.K H l (xs.map V.str)/\JoinOk sep xs=true/\Q (.str (Txt.join sep xs)) H):=by
 intro pins s σ H x vs v us Q I rx rv h;let⟨sep,l,xs,rfl,rfl,hq,hok,q⟩:=h;let⟨t,rfl⟩:=rx;let⟨u,rfl,ru⟩:=rv.one;cases ru;let⟨its,r,pl,hz⟩:=I.list hq;let⟨m,rfl,em⟩:=rq r;exact SC.join (l:=m) pl.isList em hok λt' k=>⟨.str _,H,I.tok _,⟨t',rfl⟩,q⟩
def lO:D->D->Option D
 | .str sep,.list es=>(strsOf es).bind λxs=>if JoinOk sep xs=true then some (.str (Txt.join sep xs)) else none
 | _,_=>none
def Ib{fo:Env->Option D}(hbase:attributeBase o "join" X.env (eval o X.env)=eval o X.env)
  (hfew:((backTo cpos (starEach [e] X.env)).all (λx=>!x.1)&&(backToKw cpos (keywordEach [] X.env)).all (λx=>x.1.isSome)&&decide ([e].length+([]:List Keyword).length+(if ([]:List Keyword).isEmpty then 0 else 1) < 30))=true)
  (hline:(apos.endLine == cpos.line)=true) (hs:starEach [e] X.env=(false,eval e X.env)::starEach [] X.env) (ho:DE X o fo) (he:DE X e fe):DE X (.Call (.Attribute o "join" apos) [e] [] cpos) (f2 lO fo fe) :=
 aN (nW PySem.F.plainAttrs_str PySem.F.slot_str_join PySem.F.type_str_join Ia ho (cA he eH hs) hbase hfew hline hs rfl) λσ H Q ⟨HF,ρ,d,sm,eo,hf,q⟩=>by
  let⟨x,hx,hf⟩:=bs hf;let⟨y,hy,hg⟩:=bs hf;refine⟨HF,ρ,x,sm,eo,hx,λv1 H1 HF1 g1 r1=>?_⟩;cases x<;>try cases hg
  cases y<;>try cases hg
  rename_i sep es;let⟨xs,h1,hg⟩:=bs (show (strsOf es).bind _=some d from hg);split at hg
  ·rename_i hok;cases hg;simp?[Rep] at r1;subst r1;refine⟨rfl,HF1,ρ,.list es,g1.fh,eo.mono g1.ff,hy,λv2 H2 HF2 g2 r2=>?_⟩;rw[nL h1] at r2;simp?[Rep] at r2;let⟨l,us,rfl,hl,rr⟩:=r2;rw[rP rr] at hl;exact⟨sep,l,xs,rfl,rfl,g2.fh.seq hl,hok,q _ H2 HF2 (g1.trans g2) (by simp[Rep])⟩
  ·cases hg
def Ao{a b:Str}{t t':Tok}{s:Shared}{Q:Value->Shared->Prop}(hb:(b.length == 0)=false)(ha:a.length<=sizeLine)(hn:(Txt.split a b).length<=sizeLine)
  (q:∀ (l:List (Str×Tok)) (k:Nat),l.map (·.1)=Txt.split a b->Q (.ref s.heap.objs.size) { s with heap:=s.heap.push { cls:=.type "list",data:=.seq (strValues l).toArray },toks:=k }) :
  wpAny (model prog w) A (call (.builtin "str.split") [.str a t,.str b t']) Q E s:=by
 have whole:Txt.split a b=[a]->Q (.ref s.heap.objs.size) { s with heap:=s.heap.push { cls:=.type "list",data:=.seq [Value.str a t].toArray } }:=λe=>q [(a,t)] s.toks (by rw[e];rfl);cases h1:(decide (a.length < b.length)||decide (Builtin.Str.strKind a < Builtin.Str.strKind b)) with
 | true=>exact qX PySem.F.slot_str_split (typeIs_str _ _ _) PySem.F.entry_str_split (PySem.F.args_str_split_2 _ _) (meets_str_split_cannot_occur a b t t' h1) (whole (by unfold Txt.split;rw[yL h1]))
 | false =>
  have n1:¬ (decide (a.length < b.length)||decide (Builtin.Str.strKind a < Builtin.Str.strKind b))=true:=by rw[h1];exact yZ
  cases h2:(Builtin.Str.occurrences a b 0 a.length (a.length+1)).isEmpty with
  | true=>exact qX PySem.F.slot_str_split (typeIs_str _ _ _) PySem.F.entry_str_split (PySem.F.args_str_split_2 _ _) (meets_str_split_not_found a b t t' h1 hb h2) (whole (by unfold Txt.split;rw[yN n1,yL h2]))
  | false =>
   have e:Txt.split a b=Builtin.Str.partsBetween a (Builtin.Str.occurrences a b 0 a.length (a.length+1)) b.length:=by unfold Txt.split;rw[yN n1,yN (by rw[h2];exact yZ)]
   rw[e] at hn q;refine qX PySem.F.slot_str_split (typeIs_str _ _ _) PySem.F.entry_str_split (PySem.F.args_str_split_2 _ _) (meets_str_split_sep a b t t' h1 hb h2 ha hn) ?_;rw[strsFrom_eq];exact q (numbered s.toks _) _ (numbered_texts _ _)
def GL:K5 X "str.split" (λx vs H Q=>∃a b:Str,x=.str a/\vs=[.str b]/\(b.length == 0)=false/\a.length<=sizeLine/\(Txt.split a b).length<=sizeLine/\∀D:Addr,H D=none->Q (.ref D) (upd H D (.lst ((Txt.split a b).map V.str)))):=by
 intro pins s σ H x vs v us Q I rx rv h;let⟨a,b,rfl,rfl,hb,ha,hn,q⟩:=h;let⟨t,rfl⟩:=rx;let⟨u,rfl,ru⟩:=rv.one;let⟨t',rfl⟩:=ru;refine Ao hb ha hn λl k e=>?_;have hv:=me l;rw[e] at hv;refine⟨.ref s.heap.objs.size,_,I.laid (t':=k) (o:=.lst ((Txt.split a b).map V.str)) (λ_ _ z=>zU _ z) (yM _) ⟨by rw[zD];exact hn,_,0,hv,zX _ rfl⟩,rfl,q _ I.fresh⟩
def bz:D->D->Option (List D)
 | .str a,.str b=>if (b.length == 0)=false/\a.length<=sizeLine/\(Txt.split a b).length<=sizeLine then some ((Txt.split a b).map PyData.str) else none
 | _,_=>none
def F2{fo:Env->Option D}(hbase:attributeBase o "split" X.env (eval o X.env)=eval o X.env)
  (hfew:((backTo cpos (starEach [e] X.env)).all (λx=>!x.1)&&(backToKw cpos (keywordEach [] X.env)).all (λx=>x.1.isSome)&&decide ([e].length+([]:List Keyword).length+(if ([]:List Keyword).isEmpty then 0 else 1) < 30))=true)
  (hline:(apos.endLine == cpos.line)=true) (hs:starEach [e] X.env=(false,eval e X.env)::starEach [] X.env) (ho:DE X o fo) (he:DE X e fe):DF X (.Call (.Attribute o "split" apos) [e] [] cpos) (og bz fo fe) :=
 aN (nW PySem.F.plainAttrs_str PySem.F.slot_str_split PySem.F.type_str_split GL ho (cA he eH hs) hbase hfew hline hs rfl) λσ H Q ⟨HF,ρ,d,sm,eo,hf,q⟩=>by
  let⟨x,hx,hf⟩:=bs hf;let⟨y,hy,hg⟩:=bs hf;refine⟨HF,ρ,x,sm,eo,hx,λv1 H1 HF1 g1 r1=>?_⟩;cases x<;>try cases hg
  cases y<;>try cases hg
  rename_i a b;have hg:(if (b.length == 0)=false/\a.length<=sizeLine/\(Txt.split a b).length<=sizeLine then some ((Txt.split a b).map PyData.str) else none)=some d:=hg;split at hg
  ·rename_i hc;cases hg;simp?[Rep] at r1;subst r1;refine⟨rfl,HF1,ρ,.str b,g1.fh,eo.mono g1.ff,hy,λv2 H2 HF2 g2 r2=>?_⟩;simp?[Rep] at r2;subst r2;refine⟨a,b,rfl,rfl,hc.1,hc.2.1,hc.2.2,λD hD=>?_⟩;have g3:=g1.trans g2;exact q D _ _ HF2 (g3.trans (.own g3.fh hD)) (g3.hh.free hD) (g3.fh.free hD) aG (mq _)
  ·cases hg
def Dg:K5 X "str.index" (λx vs H Q=>∃ (a b:Str) (i:Nat) (r:List Nat),x=.str a/\vs=[.str b]/\Builtin.Str.occurrences a b 0 a.length 1=i::r/\Q (.int i) H):=by
 intro pins s σ H x vs v us Q I rx rv h;let⟨a,b,i,r,rfl,rfl,ho,q⟩:=h;let⟨t,rfl⟩:=rx;let⟨u,rfl,ru⟩:=rv.one;let⟨t',rfl⟩:=ru;exact SC.index ho ⟨.int i,H,I.tok _,⟨_,rfl⟩,q⟩
def pC:D->D->Option D
 | .str a,.str b=>match Builtin.Str.occurrences a b 0 a.length 1 with|i::_=>some (.int ((i:Nat):Int))|[]=>none
 | _,_=>none
def CY{fo:Env->Option D}(hbase:attributeBase o "index" X.env (eval o X.env)=eval o X.env)
  (hfew:((backTo cpos (starEach [e] X.env)).all (λx=>!x.1)&&(backToKw cpos (keywordEach [] X.env)).all (λx=>x.1.isSome)&&decide ([e].length+([]:List Keyword).length+(if ([]:List Keyword).isEmpty then 0 else 1) < 30))=true)
  (hline:(apos.endLine == cpos.line)=true) (hs:starEach [e] X.env=(false,eval e X.env)::starEach [] X.env) (ho:DE X o fo) (he:DE X e fe):DE X (.Call (.Attribute o "index" apos) [e] [] cpos) (f2 pC fo fe) :=
 aN (nW PySem.F.plainAttrs_str PySem.F.slot_str_index PySem.F.type_str_index Dg ho (cA he eH hs) hbase hfew hline hs rfl) λσ H Q ⟨HF,ρ,d,sm,eo,hf,q⟩=>by
  let⟨x,hx,hf⟩:=bs hf;let⟨y,hy,hg⟩:=bs hf;refine⟨HF,ρ,x,sm,eo,hx,λv1 H1 HF1 g1 r1=>?_⟩;cases x<;>try cases hg
  cases y<;>try cases hg
  rename_i a b;simp?[Rep] at r1;subst r1;refine⟨rfl,HF1,ρ,.str b,g1.fh,eo.mono g1.ff,hy,λv2 H2 HF2 g2 r2=>?_⟩;simp?[Rep] at r2;subst r2;cases ho:Builtin.Str.occurrences a b 0 a.length 1 with
  | nil=>simp?[pC,ho] at hg;cases hg
  | cons i r =>
   simp?[pC,ho] at hg;cases hg;exact⟨a,b,i,r,rfl,rfl,ho,q _ H2 HF2 (g1.trans g2) (by simp[Rep])⟩
def Ox:D->D->Option Bool
 | .str a,.str b=>some (!(Builtin.Str.occurrences b a 0 b.length 1).isEmpty)
 | _,_=>none
def FS:fT X (compareOp .In) (OR X.K Ox):=by
 intro pins s σ H v1 v2 u1 u2 Q I rx ry h;let⟨HF,x,y,k,sm,r1,r2,hg,q⟩:=h;cases x<;>try cases hg
 cases y<;>try cases hg
 simp?[Rep] at r1 r2;subst r1 r2;exact CI pins s σ H _ _ u1 u2 Q I rx ry ⟨_,_,rfl,rfl,q⟩
def Fp:D->D->Option Bool
 | .str a,.str b=>some (!(!(Builtin.Str.occurrences b a 0 b.length 1).isEmpty))
 | _,_=>none
def E6:fT X (compareOp .NotIn) (OR X.K Fp):=by
 intro pins s σ H v1 v2 u1 u2 Q I rx ry h;let⟨HF,x,y,k,sm,r1,r2,hg,q⟩:=h;cases x<;>try cases hg
 cases y<;>try cases hg
 simp?[Rep] at r1 r2;subst r1 r2;exact uH pins s σ H _ _ u1 u2 Q I rx ry ⟨_,_,rfl,rfl,q⟩
def Bx(n d:Nat)(o:Option Int)(hd:d<=n):(match o with|none=>((d:Nat):Int)|some i=>max 0 (min (if i < 0 then i+((n:Nat):Int) else i) ((n:Nat):Int)))=((HT.bw n d o:Nat):Int):=by
 cases o with
 | none=>rfl
 | some v =>
  show max 0 (min (if v < 0 then v+((n:Nat):Int) else v) ((n:Nat):Int))=(((if v < 0 then (v+(n:Int)).toNat else min v.toNat n):Nat):Int)
  by_cases h:v < 0
  ·rw[yL h,yL h];have:v+(n:Int)<=n:=by lia
   lia
  ·rw[yN h,yN h];lia
def vo(lo hi:Option Int)(n:Nat):Builtin.Str.strSliceIndices lo hi 1 n=(List.range (HT.bw n n hi - HT.bw n 0 lo)).map (λk=>HT.bw n 0 lo+k):=by
 have h1:=Bx n 0 lo (xV _);have h2:=Bx n n hi (yM _);have e:Builtin.Str.strSliceIndices lo hi 1 n=Builtin.Str.strSliceIndices (some ((HT.bw n 0 lo:Nat):Int)) (some ((HT.bw n n hi:Nat):Int)) 1 n:=by
  have l1:=HT.i6 n 0 (xV _) lo;have l2:=HT.i6 n n (yM _) hi;have a1:max (0:Int) (min ((HT.bw n 0 lo:Nat):Int) (n:Int))=((HT.bw n 0 lo:Nat):Int):=by lia
  have a2:max (0:Int) (min ((HT.bw n n hi:Nat):Int) (n:Int))=((HT.bw n n hi:Nat):Int):=by lia
  have n1:¬ (((HT.bw n 0 lo:Nat):Int) < 0):=by lia
  have n2:¬ (((HT.bw n n hi:Nat):Int) < 0):=by lia
  unfold Builtin.Str.strSliceIndices;simp?[show ((1:Int) > 0)=True from by simp,xH,n1,n2,qP,a1,a2];rw[<- h1,<- h2];cases lo<;>cases hi<;>rfl
 rw[e];rcases Nat.le_total (HT.bw n 0 lo) (HT.bw n n hi) with z|z
 ·exact StrLaws.strSliceIndices_plain z (HT.i6 n n (yM _) hi)
 ·have e0:HT.bw n n hi - HT.bw n 0 lo=0:=by lia
  have l1:=HT.i6 n 0 (xV _) lo;have l2:=HT.i6 n n (yM _) hi;have a1:max (0:Int) (min ((HT.bw n 0 lo:Nat):Int) (n:Int))=((HT.bw n 0 lo:Nat):Int):=by lia
  have a2:max (0:Int) (min ((HT.bw n n hi:Nat):Int) (n:Int))=((HT.bw n n hi:Nat):Int):=by lia
  have n1:¬ (((HT.bw n 0 lo:Nat):Int) < 0):=by lia
  have n2:¬ (((HT.bw n n hi:Nat):Int) < 0):=by lia
  have n3:¬ (((HT.bw n 0 lo:Nat):Int) < ((HT.bw n n hi:Nat):Int)):=by lia
  unfold Builtin.Str.strSliceIndices;simp?[sliceRange,show ((1:Int) > 0)=True from by simp,xH,n1,n2,n3,qP,a1,a2,e0];rfl
def qt(a:Str)(lo hi:Option Int):Str:=⟨(cut a.cps.toList lo hi).toArray⟩
def Ak(a:Str)(lo hi:Option Int):(⟨((Builtin.Str.strSliceIndices lo hi 1 a.length).filterMap (a.cps[·]?)).toArray⟩:Str)=qt a lo hi:=by
 unfold qt cut;rw[vo];have hl:a.cps.toList.length=a.length:=by simp[Str.length]
 rw[hl]
 congr 2
 rcases Nat.le_total (HT.bw a.length 0 lo) (HT.bw a.length a.length hi) with z|z
 ·have h:=StrLaws.picks a.cps.toList (HT.bw a.length a.length hi - HT.bw a.length 0 lo) (HT.bw a.length 0 lo) (by
   have:=HT.i6 a.length a.length (yM _) hi;lia)
  simpa using h
 ·have e0:HT.bw a.length a.length hi - HT.bw a.length 0 lo=0:=by lia
  rw[e0];simp
def EO(a:Str)(lo hi:Option Int):(qt a lo hi).length<=a.length:=by
 have:=Bg a.cps.toList lo hi;simpa [qt,Str.length] using this
def part_of{v:Value}{o:Option Int}(h:IsPart v o):∃l:Option (Int×Tok),v=partValue l/\l.map (·.1)=o:=by
 cases h with
 | none=>exact⟨none,rfl,rfl⟩
 | int i t=>exact⟨some (i,t),rfl,rfl⟩
def JZ(hg:Gl X x)(hm:X.mg x=some (.str i t))(hd:(x == ("__debug__":Str))=false:=by decide):DE X (.Name x pos) (fC (.str i)) :=
 aN (BV (v:=.str i) hg hm ⟨t,rfl⟩ hd) λσ H Q ⟨HF,ρ,d,sm,eo,hf,q⟩=>by cases hf;exact q _ H HF (.refl sm) (by simp[Rep])
def K8:IT X (λx lo hi H Q=>∃a:Str,x=.str a/\a.length<=sizeLine/\Q (.str (qt a lo hi)) H):=by
 intro pins s σ H x v vl vu lo hi sl Q I rx hs pl pu h;let⟨a,rfl,hz,q⟩:=h;let⟨t,rfl⟩:=rx;let⟨l,rfl,rfl⟩:=part_of pl;let⟨u,rfl,rfl⟩:=part_of pu;refine⟨"str",_,PySem.F.slot_str_getitem.lookup,typeIs_str _ _ _,wpAny_getItem_str_slice (l:=l) (u:=u) (st:=none) hs rfl ?_⟩;have ep:(⟨((slicePicked a l u none).filterMap (a.cps[·]?)).toArray⟩:Str)=qt a (l.map (·.1)) (u.map (·.1)):=Ak a _ _;unfold sliceMade;by_cases hw:((Option.map (λx:Int×Tok=>x.1) none).getD 1 == 1&&(slicePicked a l u none).length == a.length)=true
 ·rw[yL hw];have hlen:(slicePicked a l u none).length=a.length:=by simpa using hw
  have e2:qt a (l.map (·.1)) (u.map (·.1))=a:=by
   have h1:HT.bw a.length a.length (u.map (·.1)) - HT.bw a.length 0 (l.map (·.1))=a.length:=by
    have:(slicePicked a l u none).length=HT.bw a.length a.length (u.map (·.1)) - HT.bw a.length 0 (l.map (·.1)):=by unfold slicePicked;rw[show ((Option.map (λx:Int×Tok=>x.1) none).getD 1:Int)=1 from rfl,vo,zD,zR]
    lia
   have l2:=HT.i6 a.length a.length (yM _) (u.map (·.1));unfold qt cut;have hl:a.cps.toList.length=a.length:=by simp[Str.length]
   rw[hl,h1];by_cases h0:a.length=0
   ·have:a.cps.toList=[]:=List.length_eq_zero_iff.mp (by rw[hl];exact h0);cases a with
    | mk c=>simp at this;simp[this]
   ·rw[show HT.bw a.length 0 (l.map (·.1))=0 by lia,List.drop_zero,kG (by rw[hl];exact yM _)]
  exact⟨.str a,H,I,⟨t,rfl⟩,by rw[e2] at q;exact q⟩
 ·rw[yN hw,ep];exact⟨yD (EO _ _ _) hz,.str _,H,I.tok _,⟨_,rfl⟩,q⟩
def KR:D->Option Int->Option Int->Option D
 | .str a,lo,hi=>if a.length<=sizeLine then some (.str (qt a lo hi)) else none
 | _,_,_=>none
def II{lo hi:Option Expr}{fl fh:Env->Option (Option Int)}(ha:DE X a fa)(hl:DO X lo fl)(hh:DO X hi fh):DE X (.Subscript a (.Slice lo hi none p2) pos) (dw KR fa fl fh):=aN (wx K8 ha hl hh) λσ H Q ⟨HF,ρ,d,sm,eo,hf,q⟩=>by
 let⟨x,hx,hf⟩:=bs hf;let⟨l,hl,hf⟩:=bs hf;let⟨u,hu,hf⟩:=bs hf;refine⟨HF,ρ,x,sm,eo,hx,λv1 H1 HF1 g1 r1=>⟨HF1,ρ,l,g1.fh,eo.mono g1.ff,hl,λH2 HF2 g2=>⟨HF2,ρ,u,g2.fh,eo.mono (g1.ff.trans g2.ff),hu,λH3 HF3 g3=>?_⟩⟩⟩;have G:=(g1.trans g2).trans g3;obtain⟨a,rfl⟩:∃a,x=.str a:=by
  cases x<;>first|exact⟨_,rfl⟩|cases hf
 simp?[Rep] at r1;subst r1;have hf:(if a.length<=sizeLine then some (PyData.str (qt a l u)) else none)=some d:=hf;split at hf
 ·rename_i hz;cases hf;exact⟨a,rfl,hz,q _ H3 HF3 G (by simp[Rep])⟩
 ·cases hf
def nI:List D->Option D
 | [.str x]=>if x.length<=sizeLine then some (.int ((x.length:Nat):Int)) else none
 | _=>none
def Jf(B:mF X "len" (.builtin "len"))(ha:DA X [e] fs)(he:starEach [e] X.env=(false,eval e X.env)::starEach [] X.env:=by rfl):DE X (.Call (.Name "len" p) [e] [] pos) (aS nI fs) :=
 fM tY (by
  intro HF H ds vs d Q sm r hg q;unfold nI at hg;split at hg
  ·split at hg
   ·rename_i x hz;cases hg;let⟨v,r',rfl,a,e0⟩:=r.cons_inv;rw[e0.nil_inv];simp?[Rep] at a;subst a;exact⟨x,rfl,hz,q _ H HF (.refl sm) (by simp[Rep])⟩
   ·cases hg
  ·cases hg) B ha (by decide) (by decide) he rfl
def Nf:D->D->Option D
 | .str z,.int i=>if z.length<=sizeLine then (oe z.cps.toList i).map λc=>.str ⟨#[c]⟩ else none
 | _,_=>none
def HN{K:W.Frag}:dF K Lk Nf:=by
 intro HF H x y v1 v2 d Q sm r1 r2 hg q;cases x<;>try cases hg
 cases y<;>try cases hg
 rename_i z i;have hg:(if z.length<=sizeLine then (oe z.cps.toList i).map λc=>PyData.str ⟨#[c]⟩ else none)=some d:=hg;split at hg
 ·rename_i hz;let⟨c,hc,rfl⟩:=af hg;simp?[Rep] at r1 r2;exact⟨z,i,c,r1,r2,hz,hc,q _ H HF (.refl sm) (by simp[Rep])⟩
 ·cases hg
def L4(ha:DE X a fa)(hb:DE X b fb)(hs:mh b:=by intro _ _;rfl):DE X (.Subscript a b pos) (f2 Nf fa fb):=aN (Fo FI ha hb hs) (Dc HN)
def Cz:dq X (.type "int") (λxs H Q=>∃ (x:Str) (n:Int),xs=[.str x]/\PySem.intText? x=some n/\x.length<=640/\Q (.int n) H):=by
 intro pins s σ H xs us Q I r h;let⟨x,n,rfl,hn,hl,q⟩:=h;let⟨u,rfl,t,rfl⟩:=vals1 r;exact W.KIN.call_text hn hl ⟨.int n,H,I.tok _,⟨_,rfl⟩,q⟩
def D6:List D->Option D
 | [.str x]=>if x.length<=640 then (PySem.intText? x).map PyData.int else none
 | _=>none
def Ki(B:mF X "int" (.type "int"))(ha:DA X [e] fs)(he:starEach [e] X.env=(false,eval e X.env)::starEach [] X.env:=by rfl):DE X (.Call (.Name "int" p) [e] [] pos) (aS D6 fs) :=
 mR Cz (by
  intro HF H ds vs d Q sm r hg q;unfold D6 at hg;split at hg
  ·split at hg
   ·rename_i x hz;let⟨n,hn,rfl⟩:=af hg;let⟨v,r',rfl,a,e0⟩:=r.cons_inv;rw[e0.nil_inv];simp?[Rep] at a;subst a;exact⟨x,n,rfl,hn,hz,q _ H HF (.refl sm) (by simp[Rep])⟩
   ·cases hg
  ·cases hg) B ha (by decide) (by decide) he rfl
def Ho:List (D×D)->Str->Option D
 | [],_=>none
 | (k,v)::r,x=>match k with
  | .str y=>if y=x then some v else Ho r x
  | _=>Ho r x
def oo(ks:List (Str×List Int))(x:Str):Option (List Int):=(ks.find? λp=>decide (p.1=x)).map (·.2)
def AR(x:Str):∀ks:List (Str×List Int),Ho (dE ks) x=(oo ks x).map λns=>.tuple (ns.map PyData.int)
 | []=>rfl
 | p::r=>by
  show (if p.1=x then some (PyData.tuple (p.2.map PyData.int)) else Ho (dE r) x)=_;unfold oo;rw[List.find?_cons];by_cases h:p.1=x
  ·rw[yL h,yA h];rfl
  ·rw[yN h,zZ h,AR x r];rfl
section
variable {X:Cx}
def uu{K:W.Frag}{H:Hp}(x:Str):∀ {ks:List (Str×List Int)}{us:List (dG×V)}{vs:List (dG×Value)},fE K H ks us->KV us vs ->
  (oo ks x=none/\valueAt vs (Sum.inr x)=none)\/∃ns b,oo ks x=some ns/\valueAt vs (Sum.inr x)=some (.ref b)/\eD K H b (ns.map V.int)
 | [],us,vs,h,kv=>by
  have h:us=[]:=h;subst h;cases kv;exact .inl ⟨rfl,rfl⟩
 | p::r,us,vs,⟨b,t,h1,h2,h3⟩,kv=>by
  subst h1;cases kv with
  | @cons _ q _ l hq kv =>
   have z1:(Sum.inr p.1:dG)=q.1:=hq.1;have z2:q.2=Value.ref b:=hq.2;by_cases h:p.1=x
   ·refine .inr ⟨p.2,b,?_,?_,h2⟩
    ·unfold oo;rw[List.find?_cons,yA h];rfl
    ·unfold valueAt;rw[List.find?_cons,yA (by rw[<- z1,h])];show some q.2=_;rw[z2]
   ·have e1:oo (p::r) x=oo r x:=by unfold oo;rw[List.find?_cons,zZ h]
    have e2:valueAt (q::l) (Sum.inr x)=valueAt l (Sum.inr x):=by
     unfold valueAt;rw[List.find?_cons,zZ (by rw[<- z1];intro z;injection z with z;exact h z)]
    rw[e1,e2];exact uu x h3 kv
def Ew(I:Inv X pins σ H s)(e:H a=some (.dK us)):us.length<=sizeLine/\(a == sysModules)=false/\∃vs,KV us vs/\s.heap.DictOf (dZ X.prog X.w) a vs:=(show c7 X.prog X.w H s.heap a (.dK us) from I.hok a _ e)
def OG:R2:=λx y H Q=>∃ (z:Str) (K:W.Frag) (a:Addr) (ks:List (Str×List Int)) (us:List (dG×V)),x=.str z/\y=.ref a/\H a=some (.dK us)/\fE K H ks us/\Q (.bl (!(oo ks z).isSome)) H
def GT:fT X (compareOp .NotIn) OG:=by
 intro pins s σ H x y v u Q I rx ry h;let⟨z,K,a,ks,us,rfl,rfl,ha,hr,q⟩:=h;let⟨t,rfl⟩:=rx;cases ry;let⟨_,hd,vs,kv,dd⟩:=Ew I ha;refine wpAny_notIn_of (k:=Sum.inr z) (knd:=dZ X.prog X.w) (W.isStrOf_self z t) hd dd.mapOf ⟨.bl _,H,I.tok _,rfl,?_⟩;rcases uu z hr kv with ⟨e1,e2⟩|⟨ns,b,e1,e2,_⟩
 ·rw[e2];rw[e1] at q;exact q
 ·rw[e2];rw[e1] at q;exact q
def Fz:D->D->Option D
 | .str x,.dict l=>some (.bool (!(Ho l x).isSome))
 | _,_=>none
def B7{K:W.Frag}:dF K OG Fz:=by
 intro HF H x y v1 v2 d Q sm r1 r2 hg q;cases x<;>try cases hg
 cases y<;>try cases hg
 rename_i x l;simp?[Rep] at r1 r2;let⟨a,ks,us,h1,rfl,h3,h4⟩:=r2;refine⟨x,K,a,ks,us,r1,h1,sm _ _ h3,h4.mono sm,?_⟩;have:(!(Ho (dE ks) x).isSome)=!(oo ks x).isSome:=by rw[AR,Option.isSome_map]
 rw[<- this];exact q _ H HF (.refl sm) (by simp[Rep])
def Kx:R2:=λx y H Q=>∃ (z:Str) (K:W.Frag) (HF:Hp) (a:Addr) (ks:List (Str×List Int)) (us:List (dG×V)) (ns:List Int),x=.ref a/\y=.str z/\H a=some (.dK us)/\fE K HF ks us/\oo ks z=some ns/\∀b,eD K HF b (ns.map V.int)->Q (.ref b) H
def Lp:Hi X Kx:=by
 intro value slice pins s σ H x y v u Q I rx ry h hs;let⟨z,K,HF,a,ks,us,ns,rfl,rfl,ha,hr,hl,q⟩:=h;cases rx;let⟨t,rfl⟩:=ry;let⟨_,hd,vs,kv,dd⟩:=Ew I ha;rcases uu z hr kv with ⟨e1,e2⟩|⟨ms,b,e1,e2,e3⟩
 ·rw[hl] at e1;cases e1
 ·rw[hl] at e1;cases e1;exact tail_any dd.typeIs slot_dict_getitem.lookup (wpAny_getItem_of (k:=Sum.inr z) (knd:=dZ X.prog X.w) (W.isStrOf_self z t) dd.mapOf e2 ⟨.ref b,H,I.tok _,rfl,q b e3⟩) hs
def rV:D->D->Option D
 | .dict l,.str x=>Ho l x
 | _,_=>none
def A2{K:W.Frag}{H:Hp}:∀ns:List Int,au K H (ns.map PyData.int) (ns.map V.int)
 | []=>rfl
 | n::r=>au.cons (by simp[Rep]) (A2 r)
def E9{K:W.Frag}:dF K Kx rV:=by
 intro HF H x y v1 v2 d Q sm r1 r2 hg q;cases x<;>try cases hg
 cases y<;>try cases hg
 rename_i l x;simp?[Rep] at r1 r2;let⟨a,ks,us,h1,rfl,h3,h4⟩:=r1;have hg:Ho (dE ks) x=some d:=hg;rw[AR] at hg;let⟨ns,hn,rfl⟩:=af hg;exact⟨x,K,HF,a,ks,us,ns,h1,r2,sm _ _ h3,h4,hn,λb hb=>q _ H HF (.refl sm) (by simp?[Rep];exact⟨b,_,rfl,hb,A2 ns⟩)⟩
def HS(ha:DE X a fa)(hb:DE X b fb)(hs:mh b:=by intro _ _;rfl):DE X (.Subscript a b pos) (f2 rV fa fb):=aN (Fo Lp ha hb hs) (Dc E9)
def xx(us:List (dG×V))(z:Str)(v:V):List (dG×V):=if (us.any λkv=>decide (kv.1=Sum.inr z))=true then us.map (λkv=>if kv.1=Sum.inr z then (kv.1,v) else kv) else us++[(Sum.inr z,v)]
def oV(ks:List (Str×List Int))(z:Str)(ns:List Int):List (Str×List Int):=if (ks.any λp=>decide (p.1=z))=true then ks.map (λp=>if p.1=z then (p.1,ns) else p) else ks++[(z,ns)]
def GI(z:Str):∀ {us:List (dG×V)}{vs:List (dG×Value)},KV us vs->(us.any λkv=>decide (kv.1=Sum.inr z))=vs.any λkv=>decide (kv.1=Sum.inr z)
 | _,_,.nil=>rfl
 | _,_,.cons h t=>by rw[vB,vB,GI z t,h.1]
def Gn(z:Str)(r:RelV v u):∀ {us:List (dG×V)}{vs:List (dG×Value)},KV us vs->KV (us.map λkv=>if kv.1=Sum.inr z then (kv.1,v) else kv) (vs.map λkv=>if kv.1=Sum.inr z then (kv.1,u) else kv)
 | _,_,.nil=>.nil
 | a::_,b::_,.cons h t=>by
  refine .cons ?_ (Gn z r t);let⟨h1,h2⟩:=h;dsimp only;by_cases e:a.1=Sum.inr z
  ·rw[yL e,yL (h1 ▸ e)];exact⟨h1,r⟩
  ·rw[yN e,yN (h1 ▸ e)];exact⟨h1,h2⟩
def E8:∀ {us:List (dG×V)}{vs:List (dG×Value)},KV us vs->RelV v u->KV (us++[(k,v)]) (vs++[(k,u)])
 | _,_,.nil,r=>.cons ⟨rfl,r⟩ .nil
 | _,_,.cons h t,r=>.cons h (E8 t r)
def Fv:∀ {us:List (dG×V)}{vs:List (dG×Value)},KV us vs->us.length=vs.length
 | _,_,.nil=>rfl
 | _,_,.cons h t=>by rw[zL,zL,Fv t]
def Nt(z:Str){us:List (dG×V)}{vs:List (dG×Value)}(h:KV us vs)(r:RelV v u):KV (xx us z v) (stored vs (Sum.inr z) u):=by
 unfold xx stored;rw[GI z h];split
 ·exact Gn z r h
 ·exact E8 h r
def ET(us:List (dG×V))(z:Str)(v:V)(h:us.length < sizeLine):(xx us z v).length<=sizeLine:=by
 unfold xx;split
 ·rw[zD];lia
 ·rw[zN];exact h
def OA:V->V->V->Hp->(Hp->Prop)->Prop:=λo i v H Q=>∃ (a:Addr) (us:List (dG×V)) (z:Str),o=.ref a/\i=.str z/\H a=some (.dK us)/\us.length < sizeLine/\Q (upd H a (.dK (xx us z v)))
def HG:Jz X OA:=by
 intro pins s σ H o i v ov iv u Q I ro ri rv h;let⟨a,us,z,rfl,rfl,ha,hl,q⟩:=h;cases ro;let⟨t,rfl⟩:=ri;let⟨hz,hd,vs,kv,dd⟩:=Ew I ha;refine wpAny_setItem_pairs (hsz:=by rw[<- Fv kv];exact hz) (k:=Sum.inr z) (knd:=dZ X.prog X.w) (W.isStrOf_self z t) dd λh' dd' hs=>⟨_,I.write (o:=.dK (xx us z v)) (x:=a) (e:=a) (by rw[ha];exact True.intro) (.inl rfl) (λc w' hc z=>(hs.2 c hc).trans z) (let ⟨q,_,_,hq,_⟩:=dd';⟨q,hq⟩) ⟨ET us z v hl,hd,_,Nt z kv rv,dd'⟩,q⟩
def Be{K:W.Frag}(z:Str):∀ {ks:List (Str×List Int)}{us:List (dG×V)},fE K H ks us->(us.any λkv=>decide (kv.1=Sum.inr z))=ks.any λp=>decide (p.1=z)
 | [],us,h=>by have h:us=[]:=h;rw[h];rfl
 | p::r,us,⟨b,t,h1,h2,h3⟩=>by
  rw[h1,vB,vB,Be z h3]
  congr 1
  simp
def uG{K:W.Frag}(z:Str)(hb:eD K H b (ns.map V.int)):∀ {ks:List (Str×List Int)}{us:List (dG×V)},fE K H ks us->fE K H (ks.map λp=>if p.1=z then (p.1,ns) else p) (us.map λkv=>if kv.1=Sum.inr z then (kv.1,V.ref b) else kv)
 | [],us,h=>by have h:us=[]:=h;rw[h];rfl
 | p::r,us,⟨c,t,h1,h2,h3⟩=>by
  rw[h1,zI,zI];by_cases e:p.1=z
  ·rw[yL e,yL (by rw[e])];exact⟨b,_,rfl,hb,uG z hb h3⟩
  ·rw[yN e,yN (λw=>by injection w with w;exact e w)];exact⟨c,_,rfl,h2,uG z hb h3⟩
def Cg{K:W.Frag}(hb:eD K H b (ns.map V.int)):∀ {ks:List (Str×List Int)}{us:List (dG×V)},fE K H ks us->fE K H (ks++[(z,ns)]) (us++[(Sum.inr z,V.ref b)])
 | [],us,h=>by have h:us=[]:=h;rw[h];exact⟨b,[],rfl,hb,rfl⟩
 | p::r,us,⟨c,t,h1,h2,h3⟩=>by rw[h1];exact⟨c,_,rfl,h2,Cg hb h3⟩
def fE.put{K:W.Frag}(z:Str){ks:List (Str×List Int)}{us:List (dG×V)}(h:fE K H ks us)(hb:eD K H b (ns.map V.int)):fE K H (oV ks z ns) (xx us z (.ref b)):=by
 unfold oV xx;rw[Be z h];split
 ·exact uG z hb h
 ·exact Cg hb h
def fE.len{K:W.Frag}:∀ {ks:List (Str×List Int)}{us:List (dG×V)},fE K H ks us->us.length=ks.length
 | [],us,h=>by have h:us=[]:=h;rw[h];rfl
 | p::r,us,⟨c,t,h1,h2,h3⟩=>by rw[h1,zL,zL,h3.len]
def tT:Slot->Bool|.dic _=>false|_=>true
def dO.setD{K:W.Frag}{us:List (dG×V)}{ks:List (Str×List Int)}(S:dO K HF₀ H₀ HF H ρ σ)(h1:H a=some (.dK us))(h2:HF a=none)(h3:H₀ a=none)(h4:fE K HF ks us)(nt:ρ.all tT=true) :
  dO K HF₀ H₀ HF H (ρ.set i (.dic ks)) (σ.set i (some (.ref a))):=by
 have old:∀ {j:Nat}{t:Slot},(ρ.set i (.dic ks))[j]?=some t->tT t=true->i≠j/\ρ[j]?=some t:=λ{j t} h hn=>by
  rw[xI] at h;by_cases hij:i=j
  ·rw[yL hij] at h;split at h
   ·cases h;cases hn
   ·cases h
  ·rw[yN hij] at h;exact⟨hij,h⟩
 have new:∀ {j:Nat}{ls:List (Str×List Int)},(ρ.set i (.dic ks))[j]?=some (.dic ls)->i=j/\ls=ks/\i < ρ.length:=λ{j ls} h=>by
  rw[xI] at h;by_cases hij:i=j
  ·rw[yL hij] at h;split at h
   ·rename_i hl;cases h;exact⟨hij,rfl,hij ▸ hl⟩
   ·cases h
  ·rw[yN hij] at h;have:=List.all_eq_true.mp nt _ (qB h);cases this
 refine⟨S.gr,λj e h=>?_,λj es h=>?_,λj k xs ys b e1 e2 e3 e4=>?_,by rw[yC,yC];exact S.len,S.tb,λj ls h=>?_,λj k ls ms g1 g2=>(new g1).1.symm.trans (new g2).1,λj ls h=>by let⟨hij,h⟩:=old h rfl;rw[xI,yN hij];exact S.tab j ls h,λj k ls ms g1 g2=>S.oneT j k ls ms (old g1 rfl).2 (old g2 rfl).2⟩
 ·let⟨hij,h⟩:=old h rfl;rw[xI,yN hij];exact S.val j e h
 ·let⟨hij,h⟩:=old h rfl;rw[xI,yN hij];exact S.own j es h
 ·let⟨n1,e1⟩:=old e1 rfl;let⟨n2,e2⟩:=old e2 rfl;rw[xI,yN n1] at e3;rw[xI,yN n2] at e4;exact S.inj j k xs ys b e1 e2 e3 e4
 ·let⟨rfl,rfl,hl⟩:=new h;rw[xI,yL rfl,yL (zP hl S.len)];exact⟨a,us,rfl,h1,h2,h3,h4⟩
def dO.putD{K:W.Frag}{us:List (dG×V)}{ks:List (Str×List Int)}(S:dO K HF₀ H₀ HF H ρ σ)(h:ρ[i]?=some (.dic ls))(ha:σ[i]?=some (some (.ref a)))(h4:fE K HF ks us) :
  dO K HF₀ H₀ HF (upd H a (.dK us)) (ρ.set i (.dic ks)) σ:=by
 let⟨a',ys,e1,e2,e3,e5,_⟩:=S.dic i ls h;rw[ha] at e1;cases e1;have hl:i < ρ.length:=(List.getElem?_eq_some_iff.mp h).1;have gr:bF HF₀ H₀ HF (upd H a (.dK us)):=⟨λb o e=>by rw[ax (aF e e5)];exact S.gr.hh b o e,S.gr.ff,λb o e=>by rw[ax (aF e e3)];exact S.gr.fh b o e,S.gr.nw⟩
 have old:∀ {j:Nat}{t:Slot},(ρ.set i (.dic ks))[j]?=some t->tT t=true->ρ[j]?=some t:=λ{j t} h hn=>by
  rw[xI] at h;by_cases hij:i=j
  ·rw[yL hij,yL hl] at h;cases h;cases hn
  ·rw[yN hij] at h;exact h
 have new:∀ {j:Nat}{ms:List (Str×List Int)},(ρ.set i (.dic ks))[j]?=some (.dic ms)->i=j/\ms=ks:=λ{j ms} g=>by
  rw[xI] at g;by_cases hij:i=j
  ·rw[yL hij,yL hl] at g;cases g;exact⟨hij,rfl⟩
  ·rw[yN hij] at g;exact absurd (S.one i j ls ms h g) hij
 refine⟨gr,λj e g=>S.val j e (old g rfl),λj es g=>?_,λj k xs ys b f1 f2=>S.inj j k xs ys b (old f1 rfl) (old f2 rfl),by rw[yC];exact S.len,S.tb,λj ms g=>?tb,λj k ms qs g1 g2=>(new g1).1.symm.trans (new g2).1,λj ms g=>?dc,λj k ms qs g1 g2=>S.oneT j k ms qs (old g1 rfl) (old g2 rfl)⟩
 ·let⟨b,vs,f1,f2,f3,f5,f4⟩:=S.own j es (old g rfl);refine⟨b,vs,f1,?_,f3,f5,f4⟩;rw[ax λz=>by rw[z,e2] at f2;cases f2];exact f2
 case tb =>
  let⟨rfl,rfl⟩:=new g;exact⟨a,us,ha,aG,e3,e5,h4⟩
 case dc =>
  let⟨b,vs,f1,f2,f3,f5,f4⟩:=S.tab j ms (old g rfl);refine⟨b,vs,f1,?_,f3,f5,f4⟩;rw[ax λz=>by rw[z,e2] at f2;cases f2];exact f2
def N9:Option Slot->Option (List (Str×List Int))
 | some (.dic ks)=>some ks
 | _=>none
def m7{ρ:ao}{i:Nat}(h:N9 ρ[i]?=some ks):ρ[i]?=some (.dic ks):=by
 cases hd:ρ[i]? with
 | none=>rw[hd] at h;cases h
 | some t =>
  rw[hd] at h;cases t with
  | dic ls=>cases h;rfl
  | _=>cases h
def Mf:D->Option Str
 | .str x=>some x
 | _=>none
def wR(j:Nat):ao->Option Out:=λρ=>if ρ.all tT=true then some (.nx (ρ.set j (.dic []))) else none
def JP:PE X (.Dict [] [] pos) (λ_ H Q=>∀p,H p=none->Q (.ref p) (upd H p (.dK []))):=by
 intro pins s σ H Q I q;have big:sysModules < s.heap.objs.size:=wG (by decide) (show mainGlobals < s.heap.objs.size from (I.mod.glob.keeps I.bk).lt);exact wpAny_Dict_empty ⟨.ref s.heap.objs.size,_,I.laid (a:=s.heap.objs.size) (o:=.dK []) (t':=s.toks) (λ_ _ q=>zU _ q) (yM _) ⟨xV _,beq_eq_false_iff_ne.mpr (jM (yR big)),[],.nil,Heap.DictOf.new s.heap⟩,rfl,q _ (I.hok.fresh (yM _))⟩
def JG(j:Nat)(hN':X.N.Nodup)(hi:X.N[j]?=some y)(hy:Loc X.env.scope y)
  (hs:swapsWith (.Dict [] [] dp) (some (.Name y pos')) pos.line X.env=pure false:=by rfl)
  (hf:X.fn y=true\/X.env.scope.names.lookup y=some .local:=by first|exact .inl rfl|exact .inr rfl|assumption):DS X HF₀ H₀ (.Assign [.Name y pos'] (.Dict [] [] dp) pos) (wR j) :=
 b9 (uJ hN' hi hy JP hs hf) λE σ H ⟨HF,ρ,o,S,hg,q⟩=>by
  unfold wR at hg;split at hg
  ·rename_i hc;cases hg;intro p hp;have S2:dO X.K HF₀ H₀ HF (upd H p (.dK [])) ρ σ:=S.step (bL hp);exact q _ _ HF (S2.setD (i:=j) aG (S.gr.fh.free hp) (S.gr.hh.free hp) rfl hc) (.refl _)
  ·cases hg
def w6(j:Nat)(fk f:Env->Option D):ao->Option Out:=λρ=>(f (ba ρ)).bind λd=>(gc d).bind λns=>(fk (ba ρ)).bind λk=>(Mf k).bind λx=>(N9 ρ[j]?).bind λks=>if ks.length < sizeLine then some (.nx (ρ.set j (.dic (oV ks x ns)))) else none
def JI(j:Nat)(hN:X.N[j]?=some y)(hv:AV X.env.scope y)(hk:DE X ek fk)(h:DE X e2 f)(hd:(y == ("__debug__":Str))=false)(hcd:(y == ("__classdict__":Str))=false)
  (ha:∀v,assign (.Subscript (.Name y py) ek spos) X.env v=(do
   let ov <- holding [v] (eval (.Name y py) X.env)
   let iv <- holding [v,ov] (eval ek X.env)
   standAt spos
   holding [v,ov,iv] (setItem ov iv v)
   release [v,ov,iv] []):=by intro _;rfl)
  (hs:swapsWithSole [.Subscript (.Name y py) ek spos] e2 pos.line X.env=pure false:=by rfl) (hw:swappedStores [.Subscript (.Name y py) ek spos] e2 X.env=pure none:=by rfl)
  (h1:(assignEach [.Subscript (.Name y py) ek spos] X.env).map (·.2)=[assign (.Subscript (.Name y py) ek spos) X.env]:=by rfl) :
  DS X HF₀ H₀ (.Assign [.Subscript (.Name y py) ek spos] e2 pos) (w6 j fk f) :=
 b9 (zl h (yk (fF hN hv hd hcd) hk HG ha) hs hw h1) λE σ H ⟨HF,ρ,o,S,hg,q⟩=>by
  let⟨d,h3,hg⟩:=bs hg;let⟨ns,h1,hg⟩:=bs hg;let⟨k,h4,hg⟩:=bs hg;let⟨x,h5,hg⟩:=bs hg;let⟨ks,h2,hg⟩:=bs hg;split at hg
  ·rename_i hc;cases hg;refine⟨HF,ba ρ,d,S.gr.fh,S.frz,h3,λv H1 HF1 G1 r1=>?_⟩;have S1:=S.grow G1;let⟨a,us,f1,f2,f3,f5,f4⟩:=S1.dic j ks (m7 h2);refine⟨_,f1,HF1,ba ρ,k,G1.fh,S1.frz,h4,λv2 H2 HF2 G2 r2=>?_⟩;have S2:=S1.grow G2;let⟨a',us',g1,g2,g3,g5,g4⟩:=S2.dic j ks (m7 h2);rw[f1] at g1;cases g1;cases k with
   | str x' =>
    cases h5;simp?[Rep] at r2;rw[ik h1] at r1;have r1:=r1.mono G2.ff;simp?[Rep] at r1;let⟨b,vs,rfl,hb,rr⟩:=r1;rw[ft rr] at hb;exact⟨a,us',x,rfl,r2,g2,by rw[g4.len];exact hc,q σ _ HF2 (S2.putD (m7 h2) f1 (g4.put x hb)) (G1.ff.trans G2.ff)⟩
   | _=>cases h5
  ·cases hg
end
section
variable {X:Cx}
def Cv:List D->Option D
 | [.int i]=>if i.natAbs.log2 < 1920 then some (.str (toString i)) else none
 | [.str x]=>some (.str x)
 | _=>none
def Ct:dq X (.type "str") (λxs H Q=>(∃i,xs=[.int i]/\i.natAbs.log2 < 1920/\Q (.str (toString i)) H)\/∃x,xs=[.str x]/\Q (.str x) H):=by
 intro pins s σ H xs us Q I r h;rcases h with ⟨i,rfl,hz,q⟩|⟨x,rfl,q⟩
 ·let⟨u,rfl,t,rfl⟩:=vals1 r;exact PySem.P.str_of_int hz ⟨.str _,H,I.tok _,⟨_,rfl⟩,q⟩
 ·let⟨u,rfl,t,rfl⟩:=vals1 r;exact PySem.P.str_of_str ⟨.str _,H,I,⟨_,rfl⟩,q⟩
def HC(B:mF X "str" (.type "str"))(ha:DA X [e] fs)(he:starEach [e] X.env=(false,eval e X.env)::starEach [] X.env:=by rfl):DE X (.Call (.Name "str" p) [e] [] pos) (aS Cv fs) :=
 mR Ct (by
  intro HF H ds vs d Q sm r hg q;unfold Cv at hg;split at hg
  ·rename_i i;split at hg
   ·rename_i hz;cases hg;let⟨v,r',rfl,a,e0⟩:=r.cons_inv;rw[e0.nil_inv];simp?[Rep] at a;subst a;exact .inl ⟨i,rfl,hz,q _ H HF (.refl sm) (by simp[Rep])⟩
   ·cases hg
  ·rename_i x;cases hg;let⟨v,r',rfl,a,e0⟩:=r.cons_inv;rw[e0.nil_inv];simp?[Rep] at a;subst a;exact .inr ⟨x,rfl,q _ H HF (.refl sm) (by simp[Rep])⟩
  ·cases hg) B ha (by decide) (by decide) he rfl
def Dm:D->Option D
 | .int i=>if i.natAbs.log2 < 1920 then some (.str (toString i)) else none
 | _=>none
def Nb(h:DE X e f):DE X (.FormattedValue e (-1) none pos) (f1 Dm f):=by
 intro pins s σ H Q I ⟨HF,ρ,d,sm,eo,hf,q⟩;let⟨x,hx,hg⟩:=bs hf;refine wpAny_FormattedValue_plain (bR (h pins s σ H _ I ⟨HF,ρ,x,sm,eo,hx,λv H' HF' G r=>(⟨HF',G,r⟩:∃HF',bF HF H HF' H'/\Rep X.K HF' x v)⟩) λu s1 ⟨y,H1,I1,r1,HF1,G,r⟩=>?_);cases x with
 | int i =>
  have hg:(if i.natAbs.log2 < 1920 then some (PyData.str (toString i)) else none)=some d:=hg;split at hg
  ·rename_i hz;cases hg;simp?[Rep] at r;subst r;let⟨t,rfl⟩:=r1;exact wpAny_formatField_int hz ⟨.str _,H1,I1.tok _,⟨_,rfl⟩,q _ H1 HF1 G (by simp[Rep])⟩
  ·cases hg
 | _=>cases hg
def IF:List (Env->Option D)->Str->Env->Option D
 | [],acc,_=>some (.str acc)
 | f::fs,acc,ρ=>(f ρ).bind λd=>(Mf d).bind λy=>if (acc++y).length<=sizeLine then IF fs (acc++y) ρ else none
def FG{ρ:Env}{d:D}{es:List Expr}{fs:List (Env->Option D)}(P:Paired (λe f=>DE X e f) es fs):∀ {acc:Str}{s:Shared}{HF H:Hp}{Q:V->Hp->Prop},acc.length<=sizeLine->Inv X pins σ H s->aP HF H->cB X.K HF ρ σ->IF fs acc ρ=some d->(∀v H' HF',bF HF H HF' H'->Rep X.K HF' d v->Q v H') ->
  Joins (model X.prog X.w) X.A X.xe (evalEach es X.env) acc (λout s1=>out.length<=sizeLine/\EP X pins σ Q (.str out s1.toks) { s1 with toks:=s1.toks+1 }) s:=by
 induction P with
 | nil =>
  intro acc s HF H Q hl I sm eo hf q;cases hf;exact Joins_nil ⟨hl,.str acc,H,I.tok _,⟨_,rfl⟩,q _ H HF (.refl sm) (by simp[Rep])⟩
 | @cons e f es fs h t ih =>
  intro acc s HF H Q hl I sm eo hf q;let⟨x,hx,hf1⟩:=bs hf;let⟨y,hy,hf2⟩:=bs hf1;clear hf hf1;split at hf2
  ·rename_i hz;refine Joins_cons (bR (h pins s σ H _ I ⟨HF,ρ,x,sm,eo,hx,λv H' HF' G r=>(⟨HF',G,r⟩:∃HF',bF HF H HF' H'/\Rep X.K HF' x v)⟩) λu s1 ⟨w,H1,I1,r1,HF1,G,r⟩=>?_);cases x with
   | str z =>
    cases hy;simp?[Rep] at r;subst r;let⟨tk,rfl⟩:=r1;exact⟨y,tk,rfl,hz,ih hz I1 G.fh (eo.mono G.ff) hf2 λv H' HF' G2 r2=>q v H' HF' (G.trans G2) r2⟩
   | _=>cases hy
  ·cases hf2
def Dz(P:Paired (λe f=>DE X e f) (e1::e2::es) fs):DE X (.JoinedStr (e1::e2::es) pos) (IF fs Str.empty):=by
 intro pins s σ H Q I ⟨HF,ρ,d,sm,eo,hf,q⟩;exact wpAny_JoinedStr (FG P (by decide) I sm eo hf q)
def MH(i j k:Nat):ao->D->Option ao:=λρ d=>match d with
 | .tuple [a,b,c]=>some (((ρ.set i (.val a)).set j (.val b)).set k (.val c))
 | _=>none
def CW(i j k:Nat){n:Nat}(hc:X.calm=true)(hN:X.N.Nodup)(hi:X.N[i]?=some x)(hx:Loc X.env.scope x)(hj:X.N[j]?=some y)(hy:Loc X.env.scope y)(hk:X.N[k]?=some z)(hz:Loc X.env.scope z)
  (f1:X.fn x=true\/X.env.scope.names.lookup x=some .local) (f2:X.fn y=true\/X.env.scope.names.lookup y=some .local) (f3:X.fn z=true\/X.env.scope.names.lookup z=some .local) :
  OV X HF₀ H₀ (.Tuple [.Name x px,.Name y py,.Name z pz] n pos) (MH i j k) :=
 mQ (uv hc (cR (cU hN hi hx f1) (cR (cU hN hj hy f2) (cR (cU hN hk hz f3) oI)))) λv σ H Q ⟨HF,ρ,d,ρ',S,r,hf,q⟩=>by
  unfold MH at hf;split at hf
  ·cases hf;simp?[Rep] at r;let⟨a,vs,rfl,hs,rr⟩:=r;let⟨v1,r1,rfl,a1,b1⟩:=rr.cons_inv;let⟨v2,r2,rfl,a2,b2⟩:=b1.cons_inv;let⟨v3,r3,rfl,a3,b3⟩:=b2.cons_inv;rw[b3.nil_inv] at hs;exact⟨a,_,rfl,ay S.gr.fh hs,rfl,v1,_,rfl,v2,_,rfl,v3,_,rfl,rfl,q _ (((S.setV a1).setV a2).setV a3)⟩
  ·cases hf
def BZ:List D->Option (List D)
 | [.int i,.int j]=>if (uy i&&uy j)=true then some ((List.range (j - i).toNat).map λk=>PyData.int (i+((k:Nat):Int))) else none
 | _=>none
def j1(fs:Env->Option (List D)):Env->Option (List D):=λρ=>(fs ρ).bind BZ
def C5(B:mF X "range" (.type "range"))(h:DA X [a,b] fs)(hs:starEach [a,b] X.env=[(false,eval a X.env),(false,eval b X.env)]:=by rfl)(hs2:starEach [b] X.env=[(false,eval b X.env)]:=by rfl):DI X tg (.Call (.Name "range" p) [a,b] [] pos) (j1 fs) :=
 pF (CV B.gl B.mg h hs hs2) λσ H R ⟨HF,ρ,ds,sm,eo,hf,q⟩=>by
  let⟨x,hx,hf⟩:=bs hf;unfold BZ at hf;split at hf
  ·rename_i i j;split at hf
   ·rename_i hz;cases hf;refine⟨HF,ρ,_,sm,eo,hx,λvs H1 HF1 g1 r1=>?_⟩;let⟨v,r,rfl,a1,b1⟩:=r1.cons_inv;let⟨v2,r2,rfl,a2,b2⟩:=b1.cons_inv;rw[b2.nil_inv];simp?[Rep] at a1 a2;subst a1 a2;unfold uy at hz;simp?[zF,zJ] at hz;exact⟨i,j,rfl,⟨hz.1.1,hz.1.2,hz.2.1,hz.2.2⟩,q _ H1 HF1 g1 pP⟩
   ·cases hf
  ·cases hf
end
end Dl
namespace Rf
open PySem L2 Dl PySem.Spec PyProof.Rows
variable {env:PySem.Env}
structure Tr where
 e:Expr->Option (Dl.Env->Option D)
 f:Expr->Option (Dl.Env->Option (List D))
 t:Expr->Option (Dl.Env->Option Bool)
structure Sg where
 fn:List (Str×Nat×(List D->Option D))
 int:List (Str×D)
abbrev FE:=Dl.Env->Option D
def Ag(G:Sg)(sc:Scope)(N:List Str)(x:Str):Option FE:=match N.idxOf? x with
 | some i=>if n8 N sc i x=true then some (ab i) else none
 | none=>if (yj sc x&&!(x == ("__debug__":Str)))=true then (G.int.lookup x).map λn=>fC n else none
def BG:Const->Option FE
 | .int i=>some (fC (.int i))
 | .bool b=>some (fC (.bool b))
 | .none=>some (fC .none)
 | .str x=>some (fC (.str x))
 | _=>none
def OD(T:Tr)(op:UnaryOp)(a:Expr):Option FE:=match op with
 | .USub=>(T.e a).map (f1 lI)
 | _=>none
def Qu:Operator->Option (D->D->Option D)
 | .Add=>some aA
 | .Sub=>some Dl.iz
 | .Mult=>some dv
 | .FloorDiv=>some lM
 | .Mod=>some kl
 | _=>none
def Pe:Expr->Bool
 | .List ..=>true
 | .ListComp ..=>true
 | _=>false
def K4:Expr->Bool
 | .Name x _=>x == ("_law_rows":Str)
 | _=>false
def Bj:Expr->Bool
 | .List ..=>true
 | .ListComp ..=>true
 | .BinOp a .Mult _ _=>Pe a
 | .BinOp a .Add b _=>K4 a||Bj a||Bj b
 | .Call (.Name x _) _ _ _=>x == ("sorted":Str)||x == ("list":Str)
 | _=>false
def Es(T:Tr)(whole a:Expr)(op:Operator)(b:Expr):Option FE :=
 if Bj whole=true then (T.f whole).map bc else (Qu op).bind λg=>(T.e a).bind λx=>(T.e b).map λy=>f2 g x y
def ug(T:Tr)(op:BoolOp):List Expr->Option FE
 | []=>none
 | [a]=>T.e a
 | a::b::r=>(T.e a).bind λx=>(ug T op (b::r)).map λy=>match op with|.And=>kj x y|.Or=>Qm x y
def Ot:CmpOp->Option (D->D->Option D)
 | .Lt=>some Ic
 | .LtE=>some Cf
 | .Gt=>some si
 | .GtE=>none
 | .Eq=>some bo
 | .NotEq=>some cO
 | .In=>none
 | .NotIn=>none
 | .Is=>some rf
 | .IsNot=>some lH
def PH:CmpOp->Option (D->D->Option D)
 | .Lt=>some Ic
 | .LtE=>some Cf
 | _=>none
def BQ(T:Tr)(a:Expr)(ops:List CmpOp)(cs:List Expr):Option FE:=match ops,cs with
 | [op],[b]=>if behindInMarks op b=false then (Ot op).bind λg=>(T.e a).bind λx=>(T.e b).map λy=>f2 g x y else none
 | [op,op'],[b,c]=>if lastMarks [op,op'] [b,c]=false then (PH op).bind λg=>(PH op').bind λg'=>(T.e a).bind λx=>(T.e b).bind λy=>(T.e c).map λz=>jl g g' x y z else none
 | _,_=>none
def qo(T:Tr):List Expr->Option (Dl.Env->Option (List D))
 | []=>some ae
 | e::es=>if isStar e=false then (T.e e).bind λx=>(qo T es).map λr=>aa x r else none
def O9(T:Tr):Option Expr->Option (Dl.Env->Option (Option Int))
 | none=>some eu
 | some e=>(T.e e).map nK
def sM:Expr->Bool
 | .Slice ..=>true
 | .Tuple ..=>true
 | .Starred ..=>true
 | _=>false
def PY:Expr->Bool
 | .Subscript _ (.Slice ..) _=>true
 | e=>K4 e
def p7:Expr->Bool
 | .UnaryOp .USub (.Constant (.int 1) _ _) _=>true
 | _=>false
def Gh(T:Tr)(a b:Expr):Option FE:=match b with
 | .Slice lo hi none _=>(T.e a).bind λx=>(O9 T lo).bind λl=>(O9 T hi).map λh=>dw b0 x l h
 | .Slice none none (some s) _=>if p7 s=true then (T.e a).map λx=>if PY a=true then f1 BS x else f1 Ph x else none
 | _=>if sM b=false then (T.e a).bind λx=>(T.e b).map λy=>f2 aw x y else none
def G8:List D->Option D:=λds=>(oneOf ds).bind λd=>match d with
 | .list es=>(boolsOf es).map λbs=>.bool (bs.any id)
 | _=>none
def mZ:Expr->Option Expr
 | .Call (.Name x _) [e] [] _=>if x="set" then some e else none
 | _=>none
def Lo(x:Str):Option String:=if x="int" then some "int" else if x="bool" then some "bool" else if x="tuple" then some "tuple" else if x="list" then some "list" else none
def Ah(T:Tr)(x:Str)(args:List Expr):Option FE :=
 if x="max" then (if args.isEmpty=true then none else (qo T args).map λfs=>aS xa fs)
 else none
def zh(G:Sg)(sc:Scope)(T:Tr)(whole:Expr)(x:Str)(args:List Expr):Option FE :=
 if (yj sc x&&args.all λe=>!isStar e)=true then
  match G.fn.lookup x with
  | some (n,m)=>if (args.isEmpty||x == ("__debug__":Str))=true then none else (qo T args).map λfs=>ah n m fs
  | none =>
   if x="len" then (match args with
    | [e]=>(match mZ e with
     | some e'=>if (yj sc "set"&&!isStar e')=true then (T.e e').map λy=>f1 j8 y else none
     | none=>(qo T args).map λfs=>aS aX fs)
    | _=>none)
   else if x="isinstance" then (match args with
    | [e,.Name y _]=>if yj sc y=true then (Lo y).bind λty=>(T.e e).map λz=>Jp ty z else none
    | _=>none)
   else if x="tuple" then (if args.length=1 then (qo T args).map λfs=>aS bS fs else none)
   else if x="all" then (if args.length=1 then (qo T args).map λfs=>aS gx fs else none)
   else if x="any" then (if args.length=1 then (qo T args).map λfs=>aS G8 fs else none)
   else if x="sum" then (if args.length=1 then (qo T args).map λfs=>aS qq fs else none)
   else if x="min" then (if args.isEmpty=true then none else (qo T args).map λfs=>aS MU fs)
   else if (x == ("list":Str)||x == ("sorted":Str))=true then (T.f whole).map bc
   else Ah T x args
 else none
def uB:Expr->Bool
 | .Call ..=>true
 | _=>false
def z8(T:Tr)(o:Expr)(m:Str)(apos:Pos)(args:List Expr)(cpos:Pos):Option FE :=
 if (m == ("index":Str)&&apos.endLine == cpos.line&&!uB o)=true then (match args with
  | [e]=>if isStar e=false then (T.e o).bind λx=>(T.e e).map λy=>f2 oh x y else none
  | _=>none)
 else none
def By(G:Sg)(sc:Scope)(N:List Str)(T:Tr)(whole:Expr):Option FE:=match whole with
 | .Name x _=>Ag G sc N x
 | .Constant c _ _=>BG c
 | .UnaryOp op a _=>OD T op a
 | .BinOp a op b _=>Es T whole a op b
 | .BoolOp op es _=>ug T op es
 | .Compare a ops cs _=>BQ T a ops cs
 | .IfExp c a b _=>(T.t c).bind λz=>(T.e a).bind λx=>(T.e b).map λy=>Hj z x y
 | .Tuple es _ _=>(qo T es).map aJ
 | .Subscript a b _=>Gh T a b
 | .List ..=>(T.f whole).map bc
 | .ListComp ..=>(T.f whole).map bc
 | .Call (.Name x _) args [] _=>zh G sc T whole x args
 | .Call (.Name _ _) _ (_::_) _=>(T.f whole).map bc
 | .Call (.Attribute o m apos) args [] cpos=>z8 T o m apos args cpos
 | _=>none
def Pk(T:Tr)(op:BoolOp):List Expr->Option (Dl.Env->Option Bool)
 | []=>none
 | [a]=>T.t a
 | a::b::r=>(T.t a).bind λx=>(Pk T op (b::r)).map λy=>match op with|.And=>nY x y|.Or=>ki x y
def Gp:Expr->Bool
 | .Name ..=>true
 | .Call ..=>true
 | .Subscript ..=>true
 | _=>false
def stepT(T:Tr)(whole:Expr):Option (Dl.Env->Option Bool):=match whole with
 | .Compare a ops cs _=>(BQ T a ops cs).map fB
 | .UnaryOp .Not a _=>(T.t a).map bG
 | .BoolOp op es _=>Pk T op es
 | _=>if Gp whole=true then (T.e whole).map fB else none
def ur:Expr->Bool
 | .Tuple ..=>true
 | _=>false
def Pp(sc:Scope)(T:Tr)(tg iter:Expr):Option (Dl.Env->Option (List D)):=match iter with
 | .Call (.Name x _) args [] _ =>
  if x="range" then (match args with|[e]=>if (yj sc "range"&&!isStar e)=true then (qo T args).map bQ else none|[a,b]=>if (yj sc "range"&&(!isStar a&&!isStar b))=true then (qo T args).map j1 else none|_=>none)
  else if x="enumerate" then (match args with|[e]=>if (yj sc "enumerate"&&!isStar e&&ur tg)=true then (qo T args).map bf else none|_=>none)
  else if x="zip" then (match args with|[e,e']=>if (yj sc "zip"&&!isStar e&&!isStar e'&&ur tg)=true then (qo T args).map eS else none|_=>none)
  else (T.e iter).map aB
 | .Set ..=>none
 | _=>(T.e iter).map aB
def Qc:Expr->Option (List Str)
 | .Name x _=>some [x]
 | .Tuple [.Name x _,.Name y _] _ _=>some [x,y]
 | _=>none
def PP:Expr->Option (List Str)
 | .Tuple [.Name x _,.Name y _,.Name z _] _ _=>some [x,y,z]
 | tg=>Qc tg
def eO(N:List Str)(scope:Scope):List Nat:=(List.range N.length).filter λj=>match N[j]? with|some x=>decide (scope.names.lookup x=some .free)|none=>false
def LY:Expr->Bool
 | .Set ..=>false
 | _=>true
def Kp(B:Tr)(ifs:List Expr):Option (Dl.Env->Option Bool):=match ifs with
 | []=>some λ_=>some true
 | [c]=>B.t c
 | _=>none
def uK(sc:Scope)(N:List Str)(T:Tr)(blk:Scope->List Str->Tr)(elt:Expr)(gens:List Comprehension)(scope:Scope):Option (Dl.Env->Option (List D)):=match gens with
 | [⟨tg,iter,ifs,as⟩] =>
  if as=0 then (PP tg).bind λxs =>
   if (iw sc scope N (xs++(eO N scope).filterMap λj=>N[j]?) xs.length (eO N scope)&&(List.range xs.length).all λi=>n9 (xs++(eO N scope).filterMap λj=>N[j]?) scope i (xs.getD i ""))=true then
    (Pp sc T tg iter).bind λfi=>(Kp (blk scope (xs++(eO N scope).filterMap λj=>N[j]?)) ifs).bind λtt =>
     ((blk scope (xs++(eO N scope).filterMap λj=>N[j]?)).e elt).map λte=>aj xs.length (eO N scope) fi (match xs with|[_]=>fG 0|[_,_]=>hC 0 1|_=>Hs 0 1 2) tt te
   else none
  else none
 | _=>none
def BN:Arguments->Option Str
 | ⟨[],[⟨x,none,_⟩],none,[],[],none,[]⟩=>if x="number" then some x else if x="plan" then some x else none
 | _=>none
def sU(lam:Option Str)(sc:Scope)(N:List Str)(T:Tr)(lmb:Scope->List Str->Tr)(l:Expr)(params:Arguments)(body:Expr)(scope:Scope):Option (Dl.Env->Option (List D)) :=
 if (lam.isSome&&yj sc "sorted"&&!isStar l)=true then
  (BN params).bind λp =>
   if (iw sc scope N (p::(eO N scope).filterMap λj=>N[j]?) 1 (eO N scope)&&nG scope (p::(eO N scope).filterMap λj=>N[j]?) p)=true then
    (T.e l).bind λfl=>((lmb scope (p::(eO N scope).filterMap λj=>N[j]?)).e body).map λte=>nc (eO N scope) fl te
   else none
 else none
def um(lam:Option Str)(sc:Scope)(N:List Str)(T:Tr)(lmb:Scope->List Str->Tr)(l:Expr)(params:Arguments)(body:Expr)(scope:Scope):Option (Dl.Env->Option (List D)):=match l with
 | .Call (.Name r _) [e] [] _ =>
  if (lam.isSome&&yj sc "sorted"&&r == ("range":Str)&&yj sc "range"&&!isStar e)=true then
   (BN params).bind λp =>
    if (iw sc scope N (p::(eO N scope).filterMap λj=>N[j]?) 1 (eO N scope)&&nG scope (p::(eO N scope).filterMap λj=>N[j]?) p)=true then
     (qo T [e]).bind λfs=>((lmb scope (p::(eO N scope).filterMap λj=>N[j]?)).e body).map λte=>qb (eO N scope) fs te
    else none
  else none
 | _=>none
def BI(lam:Option Str)(sc:Scope)(N:List Str)(T:Tr)(blk lmb:Scope->List Str->Tr)(whole:Expr):Option (Dl.Env->Option (List D)):=match whole with
 | .List es _=>(qo T es).map dR
 | .ListComp elt gens scope _=>uK sc N T blk elt gens scope
 | .BinOp a .Add b _=>(T.e a).bind λx=>(T.e b).map λy=>og n6 x y
 | .Call (.Name x _) [l] [⟨some ky,.Lambda params body scope _,_⟩] _=>if (x == ("sorted":Str)&&ky == ("key":Str))=true then (match sU lam sc N T lmb l params body scope with|some f=>some f|none=>um lam sc N T lmb l params body scope) else none
 | .Call (.Name x _) [e] [] _ =>
  if (yj sc x&&!isStar e)=true then
   if x="sorted" then (qo T [e]).map λfs=>qy fZ fs
   else none
  else none
 | _=>none
def Im:List Str:=["line","word","text","_law_line","_law_word","_law_text_here","_law_spoilt","_law_sign","DIGITS","POINT"]
def sj:Nat->Expr->Bool
 | 0,_=>false
 | n+1,e=>match e with
  | .Constant (.str _) _ _=>true
  | .Name x _=>Im.contains x
  | .BinOp a .Add b _=>sj n a||sj n b
  | .IfExp _ a b _=>sj n a||sj n b
  | .Subscript a (.Slice ..) _=>sj n a
  | .Call (.Attribute _ m _) _ _ _=>m == ("join":Str)
  | .Call (.Name x _) _ _ _=>x == ("str":Str)||x == ("walk_text":Str)
  | _=>false
abbrev tx(e:Expr):Bool:=sj 20 e
def Er(G:Sg)(sc:Scope)(T:Tr)(x:Str)(e:Expr):Option FE :=
 if (yj sc x&&(!isStar e&&(G.fn.lookup x).isNone))=true then
  if (x == ("len":Str)&&tx e)=true then (qo T [e]).map λfs=>aS nI fs
  else if (x == ("str":Str))=true then (qo T [e]).map λfs=>aS Cv fs
  else if (x == ("int":Str)&&tx e)=true then (qo T [e]).map λfs=>aS D6 fs
  else none
 else none
def Ge(T:Tr)(o:Expr)(m:Str)(apos:Pos)(e:Expr)(cpos:Pos):Option FE :=
 if (apos.endLine == cpos.line&&(!uB o&&!isStar e))=true then
  if (m == ("join":Str))=true then (T.e o).bind λx=>(T.e e).map λy=>f2 lO x y
  else if (m == ("split":Str))=true then (T.e o).bind λx=>(T.e e).map λy=>bc (og bz x y)
  else if (m == ("index":Str)&&tx o)=true then (T.e o).bind λx=>(T.e e).map λy=>f2 pC x y
  else none
 else none
def O3:Expr->Bool
 | .Name x _=>x == ("known":Str)
 | _=>false
def LQ:Expr->Option Expr
 | .FormattedValue e c none _=>if c=-1 then some e else none
 | _=>none
def yy(T:Tr)(e:Expr):Option FE:=match LQ e with
 | some a=>(T.e a).map λf=>f1 Dm f
 | none=>T.e e
def oJ(T:Tr):List Expr->Option (List FE)
 | []=>some []
 | e::es=>(yy T e).bind λf=>(oJ T es).map λfs=>f::fs
def LU(T:Tr):List Expr->Option FE
 | a::b::es=>(oJ T (a::b::es)).map λfs=>IF fs Str.empty
 | _=>none
def Hg(T:Tr)(a b:Expr):Option FE:=match b with
 | .Slice lo hi none _=>(T.e a).bind λx=>(O9 T lo).bind λl=>(O9 T hi).map λh=>dw KR x l h
 | _=>if sM b=false then (T.e a).bind λx=>(T.e b).map λy=>f2 Nf x y else none
def Pm:CmpOp->Option (D->D->Option D)
 | .In=>some λx y=>(Ox x y).map PyData.bool
 | .NotIn=>some λx y=>(Fp x y).map PyData.bool
 | _=>none
def A9(T:Tr)(a:Expr)(ops:List CmpOp)(cs:List Expr):Option FE:=match ops,cs with
 | [op],[b]=>if ((O3 b&&op == .NotIn)&&!behindInMarks op b)=true then (T.e a).bind λx=>(T.e b).map λy=>f2 Fz x y else if (tx b&&!behindInMarks op b)=true then (Pm op).bind λg=>(T.e a).bind λx=>(T.e b).map λy=>f2 g x y else none
 | _,_=>none
def E3(G:Sg)(sc:Scope)(T:Tr)(whole:Expr):Option FE:=match whole with
 | .BinOp a .Add b _=>if (tx a||tx b)=true then (T.e a).bind λx=>(T.e b).map λy=>f2 fY x y else none
 | .Subscript a b _=>if tx a=true then Hg T a b else if (O3 a&&!sM b)=true then (T.e a).bind λx=>(T.e b).map λy=>f2 rV x y else none
 | .JoinedStr es _=>LU T es
 | .Call (.Name x _) [e] [] _=>Er G sc T x e
 | .Call (.Attribute o m apos) [e] [] cpos=>Ge T o m apos e cpos
 | .Compare a ops cs _=>A9 T a ops cs
 | _=>none
def Ea(G:Sg)(sc:Scope)(N:List Str)(T:Tr)(whole:Expr):Option FE:=match E3 G sc T whole with
 | some f=>some f
 | none=>By G sc N T whole
def EK(T:Tr)(whole:Expr):Option (Dl.Env->Option Bool):=match whole with
 | .Compare a ops cs _=>(A9 T a ops cs).map fB
 | _=>none
def Hc(T:Tr)(whole:Expr):Option (Dl.Env->Option Bool):=match EK T whole with
 | some f=>some f
 | none=>stepT T whole
def Qy(mg:Str->Option Value)(x:Str):D->Prop
 | .int i=>∃t,mg x=some (.int i t)
 | .str a=>∃t,mg x=some (.str a t)
 | _=>False
def tr(G:Sg):Nat->Option Str->Scope->List Str->Tr
 | 0,_,_,_=>⟨λ_=>none,λ_=>none,λ_=>none⟩
 | n+1,lam,sc,N=>⟨Ea G sc N (tr G n lam sc N),BI lam sc N (tr G n lam sc N) (tr G n none) (tr G n none),Hc (tr G n lam sc N)⟩
structure K1(G:Sg)(X:Cx)(j:Nat):Prop where
 fn:∀x n m,G.fn.lookup x=some (n,m)->GY X.prog X.w X.K X.mg X.base j x n m
 int:∀x i,G.int.lookup x=some i->Qy X.mg x i
 bn:Bn X
structure oU(X:Cx)(tg iter:Expr)(ifs:List Expr)(elt:Expr)(scope:Scope)(f:Dl.Env->Option (List D)):Prop where
 ex:∃ (N':List Str) (t:Nat) (cs:List Nat) (fi:Dl.Env->Option (List D)) (tgt:Dl.Env->D->Option Dl.Env) (tt:Dl.Env->Option Bool) (te:FE),f=aj t cs fi tgt tt te/\ip X scope N' (jh t cs)/\DI X tg iter fi/\(∀x,foldedSetIterable iter X.env x=pure x) /\
  ∀fp s H,DG (aU X scope N' fp s H) tg tgt/\OH (aU X scope N' fp s H) ifs tt/\DE (aU X scope N' fp s H) elt te
structure bK(X:Cx)(T:Tr):Prop where
 c:∀elt gens scope p f,T.f (.ListComp elt gens scope p)=some f->∃tg iter ifs,gens=[⟨tg,iter,ifs,0⟩]/\oU X tg iter ifs elt scope f
 e:∀e f,T.e e=some f->DE X e f
 f:∀e f,T.f e=some f->DF X e f
 t:∀e f,T.t e=some f->DT X e f
section
variable {G:Sg}{X:Cx}{N:List Str}{sc:Scope}{k j:Nat}{T:Tr}{pos p:Pos}
def Dx(C:Bk X N sc k)(g:K1 G X j)(h:Ag G sc N x=some f):DE X (.Name x pos) f:=by
 unfold Ag at h;split at h
 ·split at h
  ·cases h;exact C.v _ ‹_›
  ·cases h
 ·split at h
  ·rename_i hg;let⟨n,hn,rfl⟩:=af h;have z:=g.int x n hn;simp?[zF,yP] at hg;cases n<;>first|exact False.elim z|(let⟨t,ht⟩:=z;first|exact JT (C.gl hg.1) ht hg.2|exact JZ (C.gl hg.1) ht hg.2)
  ·cases h
def Ac(h:BG c=some f):DE X (.Constant c i pos) f:=by
 cases c<;>cases h<;>first|exact LB|exact Oz|exact Le|exact Nc
def Hx(C:Bk X N sc k)(O:bK X T)(h:OD T op a=some f):DE X (.UnaryOp op a pos) f:=by
 cases op<;>try cases h
 ·let⟨x,hx,rfl⟩:=af h;exact C.neg (O.e _ _ hx)
def F7(C:Bk X N sc k)(O:bK X T)(h:Es T (.BinOp a op b pos) a op b=some f):DE X (.BinOp a op b pos) f:=by
 unfold Es at h;split at h
 ·let⟨x,hx,rfl⟩:=af h;exact DF.de (O.f _ _ hx)
 ·let⟨g,hg,h⟩:=bs h;let⟨x,hx,h⟩:=bs h;let⟨y,hy,rfl⟩:=af h;cases op<;>cases hg
  ·exact C.add (O.e _ _ hx) (O.e _ _ hy)
  ·exact C.sub (O.e _ _ hx) (O.e _ _ hy)
  ·exact C.mul (O.e _ _ hx) (O.e _ _ hy)
  ·exact C.mod (O.e _ _ hx) (O.e _ _ hy)
  ·exact C.div (O.e _ _ hx) (O.e _ _ hy)
def rY(O:bK X T):∀ {es:List Expr}{f:FE},ug T op es=some f->DE X (.BoolOp op es pos) f
 | [],f,h=>by cases h
 | [a],f,h=>La (O.e _ _ h)
 | a::b::r,f,h=>by
  unfold ug at h;let⟨x,hx,h⟩:=bs h;let⟨y,hy,rfl⟩:=af h;have ih:=rY O hy;cases op with
  | And=>exact MR (O.e _ _ hx) ih
  | Or=>exact OF (O.e _ _ hx) ih
def Lu(C:Bk X N sc k)(hg:Ot op=some g)(hm:behindInMarks op b=false)(ha:DE X a x)(hb:DE X b y):DE X (.Compare a [op] [b] pos) (f2 g x y)/\DT X (.Compare a [op] [b] pos) (fB (f2 g x y)):=by
 cases op<;>cases hg
 ·exact⟨C.eq ha hb,C.teq ha hb⟩
 ·exact⟨C.ne ha hb,C.tne ha hb⟩
 ·exact⟨C.lt ha hb,C.tlt ha hb⟩
 ·exact⟨C.le ha hb,C.tle ha hb⟩
 ·exact⟨C.gt ha hb,C.tgt ha hb⟩
 ·exact⟨C.is0 ha hb,C.tis0 ha hb⟩
 ·exact⟨C.not0 ha hb,C.tnot0 ha hb⟩
def KS(h:PH op=some g):∃r,fT X (compareOp op) r/\dF X.K r g:=by
 cases op<;>cases h
 ·exact⟨_,GA,jr⟩
 ·exact⟨_,D1,jr⟩
def wo(C:Bk X N sc k)(O:bK X T){cs:List Expr}(h:BQ T a ops cs=some f):DE X (.Compare a ops cs pos) f/\DT X (.Compare a ops cs pos) (fB f):=by
 unfold BQ at h;split at h
 ·split at h
  ·rename_i hm;let⟨g,hg,h⟩:=bs h;let⟨x,hx,h⟩:=bs h;let⟨y,hy,rfl⟩:=af h;exact Lu C hg hm (O.e _ _ hx) (O.e _ _ hy)
  ·cases h
 ·split at h
  ·rename_i hm;let⟨g,hg,h⟩:=bs h;let⟨g',hg',h⟩:=bs h;let⟨x,hx,h⟩:=bs h;let⟨y,hy,h⟩:=bs h;let⟨z,hz,rfl⟩:=af h;let⟨r,r1,r2⟩:=KS (X:=X) hg;let⟨r',r1',r2'⟩:=KS (X:=X) hg';exact⟨GV r1 r2 r1' r2' (O.e _ _ hx) (O.e _ _ hy) (O.e _ _ hz) hm,ED r1 r2 r1' r2' (O.e _ _ hx) (O.e _ _ hy) (O.e _ _ hz) hm⟩
  ·cases h
 ·cases h
def bW(O:bK X T):∀ {es:List Expr}{fs:Dl.Env->Option (List D)},qo T es=some fs->DA X es fs
 | [],fs,h=>by cases h;exact FL
 | e::es,fs,h=>by
  unfold qo at h;split at h
  ·rename_i hs;let⟨x,hx,h⟩:=bs h;let⟨r,hr,rfl⟩:=af h;exact PD hs (O.e _ _ hx) (bW O hr)
  ·cases h
def uQ(O:bK X T)(h:O9 T o=some f):DO X o f:=by
 cases o with
 | none=>cases h;exact Jd
 | some e=>let⟨x,hx,rfl⟩:=af h;exact HD (O.e _ _ hx)
def lu(h:sM b=false):mh b:=by
 cases b<;>first|(intro _ _;rfl)|cases h
def CD(h:p7 e=true):∃j p4 p3,e=.UnaryOp .USub (.Constant (.int 1) j p4) p3:=by
 unfold p7 at h;split at h
 ·exact⟨_,_,_,rfl⟩
 ·cases h
def Eg(C:Bk X N sc k)(O:bK X T)(h:Gh T a b=some f):DE X (.Subscript a b pos) f:=by
 unfold Gh at h;split at h
 ·let⟨x,hx,h⟩:=bs h;let⟨l,hl,h⟩:=bs h;let⟨u,hu,rfl⟩:=af h;exact C.cut (O.e _ _ hx) (uQ O hl) (uQ O hu)
 ·split at h
  ·rename_i hm;let⟨x,hx,rfl⟩:=af h;let⟨_,_,_,rfl⟩:=CD hm;split
   ·exact Iv (O.e _ _ hx)
   ·exact K6 (O.e _ _ hx)
  ·cases h
 ·split at h
  ·rename_i hc;let⟨x,hx,h⟩:=bs h;let⟨y,hy,rfl⟩:=af h;exact N7 (O.e _ _ hx) (O.e _ _ hy) (lu hc)
  ·cases h
def cY{env:PySem.Env}:∀ {es:List Expr},(es.all λe=>!isStar e)=true->(backTo pos (starEach es env)).any (·.1)=false
 | [],_=>rfl
 | e::es,h=>by
  rw[xS,zF,yP] at h;rw[aO h.1];show (false||(backTo pos (starEach es env)).any (·.1))=false;rw[cY h.2];rfl
def FC(h:mZ e=some e'):∃p q,e=.Call (.Name "set" p) [e'] [] q:=by
 unfold mZ at h;split at h
 ·split at h
  ·rename_i hx;cases h;subst hx;exact⟨_,_,rfl⟩
  ·cases h
 ·cases h
def IC(h:Lo y=some ty):y∈dy/\bootBuiltins y=some (.type ty)/\y≠"__name__"/\(y == ("__debug__":Str))=false:=by
 unfold Lo at h;split at h
 ·rename_i e;cases h;subst e;exact⟨by decide +kernel,by decide +kernel,by decide,by decide⟩
 ·split at h
  ·rename_i e;cases h;subst e;exact⟨by decide +kernel,by decide +kernel,by decide,by decide⟩
  ·split at h
   ·rename_i e;cases h;subst e;exact⟨by decide +kernel,by decide +kernel,by decide,by decide⟩
   ·split at h
    ·rename_i e;cases h;subst e;exact⟨by decide +kernel,by decide +kernel,by decide,by decide⟩
    ·cases h
def Mh:bootBuiltins "any"=some (.builtin "any"):=by decide +kernel
def L0:bootBuiltins "sum"=some (.builtin "sum"):=by decide +kernel
def Ly:bootBuiltins "max"=some (.builtin "max"):=by decide +kernel
def LK:bootBuiltins "min"=some (.builtin "min"):=by decide +kernel
def wc(h:l.length=1):∃a,l=[a]:=by
 match l,h with
 | [a],_=>exact⟨a,rfl⟩
def CN(C:Bk X N sc k)(g:K1 G X j)(O:bK X T)(hg:yj sc x=true)(hs:args.all (λe=>!isStar e)=true)(h:Ah T x args=some f):DE X (.Call (.Name x p) args [] pos) f:=by
 have st1:∀ {e:Expr}{es:List Expr},args=e::es->starEach (e::es) X.env=(false,eval e X.env)::starEach es X.env:=λ{e es} q=>by
  subst q;rw[xS,zF,yP] at hs;exact aO hs.1
 have st2:∀ {e:Expr}{es:List Expr},args=e::es->(backTo pos (starEach es X.env)).any (·.1)=false:=λ{e es} q=>by
  subst q;rw[xS,zF] at hs;exact cY hs.2
 unfold Ah at h;split at h
 ·rename_i hx;subst hx;split at h
  ·cases h
  ·rename_i hl;let⟨fs,hfs,rfl⟩:=af h;cases args with
   | nil=>exact absurd rfl hl
   | cons e es =>
    exact LO C.calm (C.blt g.bn hg (by decide +kernel) Ly) (st1 rfl) (st2 rfl) (bW O hfs)
 ·cases h
def CA(C:Bk X N sc k)(g:K1 G X j)(hjk:j<=k)(O:bK X T)(h:zh G sc T (.Call (.Name x p) args [] pos) x args=some f):DE X (.Call (.Name x p) args [] pos) f:=by
 unfold zh at h;split at h
 ·rename_i hg;rw[zF] at hg;let⟨hg,hs⟩:=hg;have st1:∀ {e:Expr}{es:List Expr},args=e::es->starEach (e::es) X.env=(false,eval e X.env)::starEach es X.env:=λ{e es} q=>by
   subst q;rw[xS,zF,yP] at hs;exact aO hs.1
  have st2:∀ {e:Expr}{es:List Expr},args=e::es->(backTo pos (starEach es X.env)).any (·.1)=false:=λ{e es} q=>by
   subst q;rw[xS,zF] at hs;exact cY hs.2
  split at h
  ·rename_i n m hfn;split at h
   ·cases h
   ·rename_i hne;let⟨fs,hfs,rfl⟩:=af h;cases args with
    | nil=>exact absurd (by simp) hne
    | cons e es =>
     have hd:(x == ("__debug__":Str))=false:=by simpa using hne
     exact JR (g.fn x n m hfn) (C.room.mono hjk) (C.gl hg) (bW O hfs) hd (st1 rfl) (st2 rfl)
  ·split at h
   ·rename_i hx;subst hx;split at h
    ·rename_i e;split at h
     ·rename_i e' he';split at h
      ·rename_i hg2;rw[zF,yP] at hg2;let⟨y,hy,rfl⟩:=af h;let⟨p1,p2,rfl⟩:=FC he';exact Du C.calm (C.blt g.bn hg (by decide +kernel) AA) (C.blt g.bn hg2.1 (by decide +kernel) LR) (O.e _ _ hy) (aO hg2.2)
      ·cases h
     ·let⟨fs,hfs,rfl⟩:=af h;exact MC (C.blt g.bn hg (by decide +kernel) AA) (bW O hfs) (st1 rfl)
    ·cases h
   ·split at h
    ·rename_i hx;subst hx;split at h
     ·rename_i e y py;split at h
      ·rename_i hgy;let⟨ty,hty,h⟩:=bs h;let⟨z,hz,rfl⟩:=af h;let⟨t1,t2,t3,t4⟩:=IC hty;exact NZ (C.blt g.bn hg (by decide +kernel) qw) (C.blt g.bn hgy t1 t2) (O.e _ _ hz) t3 t4 (st1 rfl)
      ·cases h
     ·cases h
    ·split at h
     ·rename_i hx;subst hx;split at h
      ·rename_i hl;let⟨fs,hfs,rfl⟩:=af h;let⟨e,rfl⟩:=wc hl;exact EX (C.blt g.bn hg (by decide +kernel) He) (bW O hfs) (st1 rfl)
      ·cases h
     ·split at h
      ·rename_i hx;subst hx;split at h
       ·rename_i hl;let⟨fs,hfs,rfl⟩:=af h;let⟨e,rfl⟩:=wc hl;exact MM C.calm (C.blt g.bn hg (by decide +kernel) MP) (bW O hfs) (st1 rfl)
       ·cases h
      ·split at h
       ·rename_i hx;subst hx;split at h
        ·rename_i hl;let⟨fs,hfs,rfl⟩:=af h;let⟨e,rfl⟩:=wc hl;exact Nu C.calm (C.blt g.bn hg (by decide +kernel) Mh) (st1 rfl) (bW O hfs)
        ·cases h
       ·split at h
        ·rename_i hx;subst hx;split at h
         ·rename_i hl;let⟨fs,hfs,rfl⟩:=af h;let⟨e,rfl⟩:=wc hl;exact Mi C.calm (C.blt g.bn hg (by decide +kernel) L0) (st1 rfl) (bW O hfs)
         ·cases h
        ·split at h
         ·rename_i hx;subst hx;split at h
          ·cases h
          ·rename_i hl;let⟨fs,hfs,rfl⟩:=af h;cases args with
           | nil=>exact absurd rfl hl
           | cons e es =>
            exact My C.calm (C.blt g.bn hg (by decide +kernel) LK) (st1 rfl) (st2 rfl) (bW O hfs)
         ·split at h
          ·let⟨y,hy,rfl⟩:=af h;exact DF.de (O.f _ _ hy)
          ·exact CN C g O hg hs h
 ·cases h
end
section
variable {G:Sg}{X:Cx}{N:List Str}{sc:Scope}{k j:Nat}{T:Tr}{pos p:Pos}
def JN(h:isStar e=false):((backTo cpos (starEach [e] env)).all (λx=>!x.1)&&(backToKw cpos (keywordEach [] env)).all (λx=>x.1.isSome)&&decide ([e].length+([]:List Keyword).length+(if ([]:List Keyword).isEmpty then 0 else 1) < 30))=true:=by
 rw[aO h];rfl
def gf(h:uB o=false):attributeBase o a env w=w:=by
 cases o<;>first|rfl|cases h
def DJ(C:Bk X N sc k)(O:bK X T)(h:z8 T o m apos args cpos=some f):DE X (.Call (.Attribute o m apos) args [] cpos) f:=by
 unfold z8 at h;split at h
 ·rename_i hm;rw[zF,zF,yP] at hm;let⟨⟨hm1,hm⟩,hcl⟩:=hm;have e1:m="index":=eq_of_beq hm1;subst e1;split at h
  ·rename_i e;split at h
   ·rename_i hs;let⟨x,hx,h⟩:=bs h;let⟨y,hy,rfl⟩:=af h;exact Cp (gf hcl) (JN hs) hm (aO hs) (O.e _ _ hx) (O.e _ _ hy)
   ·cases h
  ·cases h
 ·cases h
def E5(C:Bk X N sc k)(g:K1 G X j)(hjk:j<=k)(O:bK X T)(h:By G sc N T e=some f):DE X e f:=by
 unfold By at h;split at h
 ·exact Dx C g h
 ·exact Ac h
 ·exact Hx C O h
 ·exact F7 C O h
 ·exact rY O h
 ·exact (wo C O h).1
 ·let⟨z,hz,h⟩:=bs h;let⟨x,hx,h⟩:=bs h;let⟨y,hy,rfl⟩:=af h;exact Pc (O.t _ _ hz) (O.e _ _ hx) (O.e _ _ hy)
 ·let⟨x,hx,rfl⟩:=af h;exact LL (bW O hx)
 ·exact Eg C O h
 ·let⟨x,hx,rfl⟩:=af h;exact DF.de (O.f _ _ hx)
 ·let⟨x,hx,rfl⟩:=af h;exact DF.de (O.f _ _ hx)
 ·exact CA C g hjk O h
 ·let⟨x,hx,rfl⟩:=af h;exact DF.de (O.f _ _ hx)
 ·exact DJ C O h
 ·cases h
def GE(O:bK X T):∀ {es:List Expr}{f:Dl.Env->Option Bool},Pk T op es=some f->DW X (.BoolOp op es pos) f
 | [],f,h=>by cases h
 | [a],f,h=>by
  cases op with
  | And=>exact Hy (O.t _ _ h)
  | Or=>exact Lq (O.t _ _ h)
 | a::b::r,f,h=>by
  unfold Pk at h;let⟨x,hx,h⟩:=bs h;let⟨y,hy,rfl⟩:=af h;have ih:=GE O hy;cases op with
  | And=>exact L8 (O.t _ _ hx) ih
  | Or=>exact Od (O.t _ _ hx) ih
def Gj(C:Bk X N sc k)(O:bK X T)(h:stepT T e=some f):DT X e f:=by
 unfold stepT at h;split at h
 ·let⟨x,hx,rfl⟩:=af h;exact (wo C O hx).2
 ·let⟨x,hx,rfl⟩:=af h;exact LC (O.t _ _ hx)
 ·exact DW.dt (GE O h)
 ·split at h
  ·rename_i hp;let⟨x,hx,rfl⟩:=af h;refine NG (O.e _ _ hx) ?_;revert hp;cases e<;>first|(intro hp;cases hp;done)|(intro hp _;rfl)
  ·cases h
def NA(h:LY e=true):∀x,foldedSetIterable e env x=pure x:=by
 cases e<;>first|(intro _;rfl)|cases h
def Fw(C:Bk X N sc k)(B:Bn X)(O:bK X T)(h:Pp sc T tg iter=some fi):DI X tg iter fi/\∀x,foldedSetIterable iter X.env x=pure x:=by
 unfold Pp at h;split at h
 ·refine⟨?_,λ_=>rfl⟩;split at h
  ·rename_i hx;subst hx;split at h
   ·split at h
    ·rename_i hg;rw[zF,yP] at hg;let⟨x,hx,rfl⟩:=af h;exact Fg (C.blt B hg.1 (by decide +kernel) qa) (bW O hx) (aO hg.2)
    ·cases h
   ·split at h
    ·rename_i hg;simp?[zF,yP] at hg;let⟨x,hx,rfl⟩:=af h;exact C5 (C.blt B hg.1 (by decide +kernel) qa) (bW O hx) ((aO hg.2.1).trans (jC _ (aO hg.2.2))) (aO hg.2.2)
    ·cases h
   ·cases h
  ·split at h
   ·rename_i hx;subst hx;split at h
    ·split at h
     ·rename_i hg;simp?[zF,yP] at hg;let⟨x,hx,rfl⟩:=af h;cases tg<;>first|exact JH (C.blt B hg.1.1 (by decide +kernel) uO) (bW O hx) (aO hg.1.2)|exact absurd hg.2 (by simp[ur])
     ·cases h
    ·cases h
   ·split at h
    ·rename_i hx;subst hx;split at h
     ·split at h
      ·rename_i e e' hg;simp?[zF,yP] at hg;let⟨x,hx,rfl⟩:=af h;cases tg<;>first|exact Kg (C.blt B hg.1.1.1 (by decide +kernel) LH) (aO hg.1.1.2) (cY (by simp[hg.1.2])) (bW O hx)|exact absurd hg.2 (by simp[ur])
      ·cases h
     ·cases h
    ·let⟨x,hx,rfl⟩:=af h;exact G0 (O.e _ _ hx)
 ·cases h
 ·rename_i h1 h2;let⟨x,hx,rfl⟩:=af h;refine⟨G0 (O.e _ _ hx),NA ?_⟩;cases iter<;>first|rfl|exact absurd rfl (h2 _ _ _)
def MX(h:Qc tg=some xs):(∃x px,tg=.Name x px/\xs=[x])\/∃x px y py m pt,tg=.Tuple [.Name x px,.Name y py] m pt/\xs=[x,y]:=by
 unfold Qc at h;split at h
 ·cases h;exact .inl ⟨_,_,rfl,rfl⟩
 ·cases h;exact .inr ⟨_,_,_,_,_,_,rfl,rfl⟩
 ·cases h
def MN(h:PP tg=some xs):((∃x px,tg=.Name x px/\xs=[x])\/∃x px y py m pt,tg=.Tuple [.Name x px,.Name y py] m pt/\xs=[x,y])\/∃x px y py z pz m pt,tg=.Tuple [.Name x px,.Name y py,.Name z pz] m pt/\xs=[x,y,z]:=by
 unfold PP at h;split at h
 ·cases h;exact .inr ⟨_,_,_,_,_,_,_,_,rfl,rfl⟩
 ·exact .inl (MX h)
def sG(C:Bk X N sc k)(B:Bn X)(O:bK X T)(OB:∀scope N' fp s H,Bk (aU X scope N' fp s H) N' scope k->bK (aU X scope N' fp s H) (blk scope N'))
  (h:uK sc N T blk elt [⟨tg,iter,ifs,as⟩] scope=some f):as=0/\oU X tg iter ifs elt scope f:=by
 unfold uK at h;dsimp only at h;split at h
 ·rename_i has;refine⟨has,?_⟩;let⟨xs,hxs,h⟩:=bs h;split at h
  ·rename_i hok;rw[zF] at hok;let⟨fi,hfi,h⟩:=bs h;let⟨tt,htt,h⟩:=bs h;let⟨te,hte,rfl⟩:=af h;let⟨S,CB⟩:=C.comp hok.1;let⟨hd,hfold⟩:=Fw C B O hfi;refine⟨_,_,_,_,_,_,_,rfl,S,hd,hfold,λfp s H=>?_⟩;have C1:=CB fp s H;have O1:=OB scope _ fp s H C1;refine⟨?_,?_,O1.e _ _ hte⟩
   ·rcases MN hxs with (⟨x,px,rfl,rfl⟩|⟨x,px,y,py,m,pt,rfl,rfl⟩)|⟨x,px,y,py,z,pz,m,pt,htg,rfl⟩
    ·have z:=C1.loc (i:=0) (x:=x) (List.all_eq_true.mp hok.2 0 (by simp));exact Jt 0 z.1 z.2.1 z.2.2.1 z.2.2.2
    ·have z:=C1.loc (i:=0) (x:=x) (List.all_eq_true.mp hok.2 0 (by simp));have w:=C1.loc (i:=1) (x:=y) (List.all_eq_true.mp hok.2 1 (by simp));exact M7 0 1 C1.calm z.1 z.2.1 z.2.2.1 w.2.1 w.2.2.1 z.2.2.2 w.2.2.2
    ·have z0:=C1.loc (i:=0) (x:=x) (List.all_eq_true.mp hok.2 0 (by simp));have w:=C1.loc (i:=1) (x:=y) (List.all_eq_true.mp hok.2 1 (by simp));have u:=C1.loc (i:=2) (x:=z) (List.all_eq_true.mp hok.2 2 (by simp));subst htg;exact Gg 0 1 2 C1.calm z0.1 z0.2.1 z0.2.2.1 w.2.1 w.2.2.1 u.2.1 u.2.2.1 z0.2.2.2 w.2.2.2 u.2.2.2
   ·unfold Kp at htt;split at htt
    ·cases htt;exact Jw
    ·exact JL (O1.t _ _ htt)
    ·cases htt
  ·cases h
 ·cases h
def oU.df(hc:X.calm=true)(h:oU X tg iter ifs elt scope f):DF X (.ListComp elt [⟨tg,iter,ifs,0⟩] scope pos) f:=by
 let⟨N',t,cs,fi,tgt,tt,te,rfl,S,hd,hfold,hY⟩:=h.ex;exact JY hc S hd hY hfold
def wt(h:BN a=some x):∃px,a=⟨[],[⟨x,none,px⟩],none,[],[],none,[]⟩/\(x="number"\/x="plan"):=by
 unfold BN at h;split at h
 ·split at h
  ·cases h;exact⟨_,rfl,.inl ‹_›⟩
  ·split at h
   ·cases h;exact⟨_,rfl,.inr ‹_›⟩
   ·cases h
 ·cases h
def bind1{x q:Str}{px:Pos}{body:Expr}{scope:Scope}{cl:List (Str×Addr)}{pm ctv u:Value}{c:Addr}(h:x="number"\/x="plan") :
  bindArgs (W.kla_fn "<lambda>" q ⟨[],[⟨x,none,px⟩],none,[],[],none,[]⟩ body scope cl pm (.ref c) ctv) ⟨[u],[]⟩=pure [(x,u)]:=by
 rcases h with rfl|rfl<;>rfl
def Au{lam:Option Str}(C:Bk X N sc k)(B:Bn X)(hlam:∀q,lam=some q->pA X q/\j+3<=k)(O:bK X T){lmb:Scope->List Str->Tr}
  (OL:∀scope N' qual A f c s H,Bk (gm X A qual scope N' f c s H) N' scope (k - 3)->j<=k - 3->bK (gm X A qual scope N' f c s H) (lmb scope N')) {l body:Expr}{params:Arguments}{scope:Scope}{p0 lpos kpos:Pos}{f:Dl.Env->Option (List D)}
  (h:sU lam sc N T lmb l params body scope=some f):DF X (.Call (.Name "sorted" p0) [l] [⟨some "key",.Lambda params body scope lpos,kpos⟩] pos) f:=by
 unfold sU at h;split at h
 ·rename_i hg;simp?[zF,yP] at hg;let⟨⟨hl,hg⟩,hs⟩:=hg;let⟨q,rfl⟩:=Option.isSome_iff_exists.mp hl;let⟨L,hk⟩:=hlam q rfl;let⟨x,hx,h2⟩:=bs h;clear h;let⟨px,rfl,hpx⟩:=wt hx;split at h2
  ·rename_i hok;rw[zF] at hok;let⟨fl,hfl,h⟩:=bs h2;let⟨te,hte,rfl⟩:=af h;obtain⟨k',rfl⟩:∃k',k=k'+3:=⟨k - 3,by lia⟩
   exact Bk.sortK (p:=x) C (C.blt B hg (by decide +kernel) m9) L hok.1 hok.2 (λ_ _ _ _ _=>bind1 hpx) rfl (O.e _ _ hfl) (λA f c s H C'=>(OL scope _ q A f c s H C' (by lia)).e _ _ hte) (aO hs) (by rw[aO hs];rfl) (cY (by simp[hs]))
  ·cases h2
 ·cases h
def AH{lam:Option Str}(C:Bk X N sc k)(B:Bn X)(hlam:∀q,lam=some q->pA X q/\j+3<=k)(O:bK X T){lmb:Scope->List Str->Tr}
  (OL:∀scope N' qual A f c s H,Bk (gm X A qual scope N' f c s H) N' scope (k - 3)->j<=k - 3->bK (gm X A qual scope N' f c s H) (lmb scope N')) {l body:Expr}{params:Arguments}{scope:Scope}{p0 lpos kpos:Pos}{f:Dl.Env->Option (List D)}
  (h:um lam sc N T lmb l params body scope=some f):DF X (.Call (.Name "sorted" p0) [l] [⟨some "key",.Lambda params body scope lpos,kpos⟩] pos) f:=by
 unfold um at h;split at h
 ·split at h
  ·rename_i hg;simp?[zF,yP] at hg;obtain⟨⟨⟨⟨hl,hg⟩,hr⟩,hgr⟩,hs⟩:=hg;have er:=eq_of_beq hr;subst er;let⟨q,rfl⟩:=Option.isSome_iff_exists.mp hl;let⟨L,hk⟩:=hlam q rfl;let⟨x,hx,h2⟩:=bs h;clear h;let⟨px,rfl,hpx⟩:=wt hx;split at h2
   ·rename_i hok;rw[zF] at hok;let⟨fl,hfl,h⟩:=bs h2;let⟨te,hte,rfl⟩:=af h;obtain⟨k',rfl⟩:∃k',k=k'+3:=⟨k - 3,by lia⟩
    exact Bk.sortR (p:=x) C (C.blt B hg (by decide +kernel) m9) (C.blt B hgr (by decide +kernel) qa) L hok.1 hok.2 (λ_ _ _ _ _=>bind1 hpx) rfl (bW O hfl) (λA f c s H C'=>(OL scope _ q A f c s H C' (by lia)).e _ _ hte) (aO hs) (aO rfl) (by rw[aO rfl];rfl) (cY (by rfl))
   ·cases h2
  ·cases h
 ·cases h
def Fk(C:Bk X N sc k)(B:Bn X)(hlam:∀q,lam=some q->pA X q/\j+3<=k)(O:bK X T)
  (OB:∀scope N' fp s H,Bk (aU X scope N' fp s H) N' scope k->bK (aU X scope N' fp s H) (blk scope N'))
  (OL:∀scope N' qual A f c s H,Bk (gm X A qual scope N' f c s H) N' scope (k - 3)->j<=k - 3->bK (gm X A qual scope N' f c s H) (lmb scope N')) {e:Expr}{f:Dl.Env->Option (List D)}(h:BI lam sc N T blk lmb e=some f):DF X e f:=by
 unfold BI at h;split at h
 ·let⟨x,hx,rfl⟩:=af h;exact LN (bW O hx)
 ·rename_i elt gens scope ps
  match gens,h with
  | [⟨tg,iter,ifs,as⟩],h =>
   let⟨rfl,q⟩:=sG C B O OB h;exact q.df C.calm
 ·let⟨x,hx,h⟩:=bs h;let⟨y,hy,rfl⟩:=af h;exact Lf (O.e _ _ hx) (O.e _ _ hy)
 ·split at h
  ·rename_i hk;rw[zF] at hk;have e1:=eq_of_beq hk.1;have e2:=eq_of_beq hk.2;subst e1 e2;split at h
   ·cases h;exact Au C B hlam O OL ‹_›
   ·exact AH C B hlam O OL h
  ·cases h
 ·split at h
  ·rename_i hg;rw[zF,yP] at hg;split at h
   ·rename_i hx;subst hx;let⟨x,hx,rfl⟩:=af h;exact DD (C.blt B hg.1 (by decide +kernel) m9) (bW O hx) (aO hg.2)
   ·cases h
  ·cases h
 ·cases h
def IJ(C:Bk X N sc k)(B:Bn X)(O:bK X T)(OB:∀scope N' fp s H,Bk (aU X scope N' fp s H) N' scope k->bK (aU X scope N' fp s H) (blk scope N'))
  {elt:Expr}{gens:List Comprehension}{scope:Scope}{p:Pos}{f:Dl.Env->Option (List D)}(h:BI lam sc N T blk lmb (.ListComp elt gens scope p)=some f):∃tg iter ifs,gens=[⟨tg,iter,ifs,0⟩]/\oU X tg iter ifs elt scope f:=by
 have h:uK sc N T blk elt gens scope=some f:=h
 match gens,h with
 | [⟨tg,iter,ifs,as⟩],h =>
  let⟨rfl,q⟩:=sG C B O OB h;exact⟨tg,iter,ifs,rfl,q⟩
def M8:bootBuiltins "str"=some (.type "str"):=by decide +kernel
def D0(C:Bk X N sc k)(g:K1 G X j)(O:bK X T)(h:Er G sc T x e=some f):DE X (.Call (.Name x p) [e] [] pos) f:=by
 unfold Er at h;split at h
 ·rename_i hg;simp?[zF,yP] at hg;let⟨hg,hs,_⟩:=hg;split at h
  ·rename_i hc;rw[zF] at hc;obtain rfl:=eq_of_beq hc.1;let⟨fs,hf,rfl⟩:=af h;exact Jf (C.blt g.bn hg (by decide +kernel) AA) (bW O hf) (aO hs)
  ·split at h
   ·rename_i hc;obtain rfl:=eq_of_beq hc;let⟨fs,hf,rfl⟩:=af h;exact HC (C.blt g.bn hg (by decide +kernel) M8) (bW O hf) (aO hs)
   ·split at h
    ·rename_i hc;rw[zF] at hc;obtain rfl:=eq_of_beq hc.1;let⟨fs,hf,rfl⟩:=af h;exact Ki (C.blt g.bn hg (by decide +kernel) Ma) (bW O hf) (aO hs)
    ·cases h
 ·cases h
def FV(O:bK X T)(h:Ge T o m apos e cpos=some f):DE X (.Call (.Attribute o m apos) [e] [] cpos) f:=by
 unfold Ge at h;split at h
 ·rename_i hg;simp?[zF,yP] at hg;let⟨hl,hc,hs⟩:=hg;split at h
  ·rename_i hm;obtain rfl:=eq_of_beq hm;let⟨x,hx,h⟩:=bs h;let⟨y,hy,rfl⟩:=af h;exact Ib (gf hc) (JN hs) hl (aO hs) (O.e _ _ hx) (O.e _ _ hy)
  ·split at h
   ·rename_i hm;obtain rfl:=eq_of_beq hm;let⟨x,hx,h⟩:=bs h;let⟨y,hy,rfl⟩:=af h;exact DF.de (F2 (gf hc) (JN hs) hl (aO hs) (O.e _ _ hx) (O.e _ _ hy))
   ·split at h
    ·rename_i hm;rw[zF] at hm;obtain rfl:=eq_of_beq hm.1;let⟨x,hx,h⟩:=bs h;let⟨y,hy,rfl⟩:=af h;exact CY (gf hc) (JN hs) hl (aO hs) (O.e _ _ hx) (O.e _ _ hy)
    ·cases h
 ·cases h
def GU(O:bK X T)(h:Hg T a b=some f):DE X (.Subscript a b pos) f:=by
 unfold Hg at h;split at h
 ·let⟨x,hx,h⟩:=bs h;let⟨l,hl,h⟩:=bs h;let⟨u,hu,rfl⟩:=af h;exact II (O.e _ _ hx) (uQ O hl) (uQ O hu)
 ·split at h
  ·rename_i hc;let⟨x,hx,h⟩:=bs h;let⟨y,hy,rfl⟩:=af h;exact L4 (O.e _ _ hx) (O.e _ _ hy) (lu hc)
  ·cases h
def Mx(hg:Pm op=some g)(hm:behindInMarks op b=false)(ha:DE X a x)(hb:DE X b y):DE X (.Compare a [op] [b] pos) (f2 g x y)/\DT X (.Compare a [op] [b] pos) (fB (f2 g x y)):=by
 cases op<;>cases hg
 ·exact⟨gF FS jy ha hb hm,gp FS jy ha hb hm⟩
 ·exact⟨gF E6 jy ha hb hm,gp E6 jy ha hb hm⟩
def CT(h:LQ e=some a):∃p,e=.FormattedValue a (-1) none p:=by
 unfold LQ at h;split at h
 ·split at h
  ·rename_i hc;cases h;subst hc;exact⟨_,rfl⟩
  ·cases h
 ·cases h
def Dy(O:bK X T)(h:yy T e=some f):DE X e f:=by
 unfold yy at h;split at h
 ·rename_i a ha;let⟨p,rfl⟩:=CT ha;let⟨g,hg,rfl⟩:=af h;exact Nb (O.e _ _ hg)
 ·exact O.e _ _ h
def pN(O:bK X T):∀ {es:List Expr}{fs:List FE},oJ T es=some fs->Paired (λe f=>DE X e f) es fs
 | [],fs,h=>by cases h;exact .nil
 | e::es,fs,h=>by
  unfold oJ at h;let⟨f,hf,h⟩:=bs h;let⟨gs,hg,rfl⟩:=af h;exact .cons (Dy O hf) (pN O hg)
def Ii(O:bK X T)(h:LU T es=some f):DE X (.JoinedStr es pos) f:=by
 unfold LU at h;split at h
 ·let⟨fs,hf,rfl⟩:=af h;exact Dz (pN O hf)
 ·cases h
def we(O:bK X T){cs:List Expr}(h:A9 T a ops cs=some f):DE X (.Compare a ops cs pos) f/\DT X (.Compare a ops cs pos) (fB f):=by
 unfold A9 at h;split at h
 ·split at h
  ·rename_i hm;simp?[zF,yP] at hm;let⟨⟨_,ho⟩,hm⟩:=hm;obtain rfl:=eq_of_beq ho;let⟨x,hx,h⟩:=bs h;let⟨y,hy,rfl⟩:=af h;exact⟨gF GT B7 (O.e _ _ hx) (O.e _ _ hy) hm,gp GT B7 (O.e _ _ hx) (O.e _ _ hy) hm⟩
  split at h
  ·rename_i hm;rw[zF,yP] at hm;let⟨g,hg,h⟩:=bs h;let⟨x,hx,h⟩:=bs h;let⟨y,hy,rfl⟩:=af h;exact Mx hg hm.2 (O.e _ _ hx) (O.e _ _ hy)
  ·cases h
 ·cases h
def F3(C:Bk X N sc k)(g:K1 G X j)(O:bK X T)(h:E3 G sc T e=some f):DE X e f:=by
 unfold E3 at h;split at h
 ·split at h
  ·let⟨x,hx,h⟩:=bs h;let⟨y,hy,rfl⟩:=af h;exact r8 y9 Ek (O.e _ _ hx) (O.e _ _ hy)
  ·cases h
 ·split at h
  ·exact GU O h
  ·split at h
   ·rename_i hc;rw[zF,yP] at hc;let⟨x,hx,h⟩:=bs h;let⟨y,hy,rfl⟩:=af h;exact HS (O.e _ _ hx) (O.e _ _ hy) (lu hc.2)
   ·cases h
 ·exact Ii O h
 ·exact D0 C g O h
 ·exact FV O h
 ·exact (we O h).1
 ·cases h
def Gs(O:bK X T)(h:EK T e=some f):DT X e f:=by
 unfold EK at h;split at h
 ·let⟨x,hx,rfl⟩:=af h;exact (we O hx).2
 ·cases h
def EW(C:Bk X N sc k)(g:K1 G X j)(O:bK X T)(hM:∀f,By G sc N T e=some f->DE X e f)(h:Ea G sc N T e=some f):DE X e f:=by
 unfold Ea at h;split at h
 ·cases h;exact F3 C g O ‹_›
 ·exact hM _ h
def Et(O:bK X T)(hM:∀f,stepT T e=some f->DT X e f)(h:Hc T e=some f):DT X e f:=by
 unfold Hc at h;split at h
 ·cases h;exact Gs O ‹_›
 ·exact hM _ h
def KB(n:Nat):∀ {lam:Option Str}{X:Cx}{N:List Str}{sc:Scope}{k:Nat},Bk X N sc k->K1 G X j->j<=k->(∀q,lam=some q->pA X q/\j+3<=k)->bK X (tr G n lam sc N):=by
 induction n with
 | zero=>intro lam X N sc k C g hjk hlam;exact⟨λ_ _ _ _ _ h=>(by cases h),λ_ _ h=>(by cases h),λ_ _ h=>(by cases h),λ_ _ h=>(by cases h)⟩
 | succ n ih =>
  intro lam X N sc k C g hjk hlam;have O:=ih C g hjk hlam;exact⟨λelt gens scope p f h=>IJ (lam:=lam) (lmb:=tr G n none) (p:=p) C g.bn O (λscope N' fp s H C'=>ih C' ⟨g.fn,g.int,g.bn⟩ hjk λq z=>by cases z) h,λe f h=>EW C g O (λf h=>E5 C g hjk O h) h,
   λe f h=>Fk (lam:=lam) (blk:=tr G n none) (lmb:=tr G n none) C g.bn hlam O (λscope N' fp s H C'=>ih C' ⟨g.fn,g.int,g.bn⟩ hjk λq z=>by cases z) (λscope N' qual A f c s H C' hk=>ih C' ⟨g.fn,g.int,g.bn⟩ hk λq z=>by cases z) h,
   λe f h=>Et O (λf h=>Gj C O h) h⟩
end
def oY:Nat->Expr->List Str
 | 0,_=>[]
 | n+1,e=>match e with
  | .Name x _=>[x]
  | .UnaryOp _ a _=>oY n a
  | .BinOp a _ b _=>oY n a++oY n b
  | .BoolOp _ es _=>es.flatMap (oY n)
  | .Compare a _ cs _=>oY n a++cs.flatMap (oY n)
  | .IfExp c a b _=>oY n c++(oY n a++oY n b)
  | .Tuple es _ _=>es.flatMap (oY n)
  | .List es _=>es.flatMap (oY n)
  | .Subscript a b _=>oY n a++oY n b
  | .Slice lo hi st _=>(lo.toList++(hi.toList++st.toList)).flatMap (oY n)
  | .Call f args kws _=>oY n f++(args.flatMap (oY n)++kws.flatMap λk=>oY n k.value)
  | .Attribute o _ _=>oY n o
  | .ListComp elt gens _ _=>oY n elt++gens.flatMap λg=>oY n g.iter++g.ifs.flatMap (oY n)
  | .Lambda _ b _ _=>oY n b
  | _=>[]
def qr(N:List Str)(e:Expr):List Nat:=let ns:=oY 60 e;(List.range N.length).filter λj=>match N[j]? with|some x=>ns.contains x|none=>false
abbrev GS:=ao->Option Out
def turns:Nat:=1000000
def F9:Expr->Bool
 | .ListComp ..=>true
 | .SetComp ..=>true
 | .DictComp ..=>true
 | _=>false
def FR(sc:Scope)(N:List Str)(T:Tr)(x:Str)(px:Pos)(e:Expr):Option GS :=
 (N.idxOf? x).bind λi=>if n9 N sc i x=true then
  (if Bj e=true then (match e with
   | .ListComp _ _ scope lp =>
    if (decide (sc.names.lookup x=some .local)&&(px.line == lp.line&&!(scope.names.any λ(n,k)=>n == x&&(k == .local || k == .cell))))=true then (T.f e).map λf=>aQ i (qr N e) f
    else if decide (sc.names.lookup x=some .cell)=true then (T.f e).map λf=>aQ i (qr N e) f
    else if (px.line == lp.line)=false then (T.f e).map λf=>aQ i (qr N e) f
    else none
   | _=>(T.f e).map λf=>aQ i (qr N e) f)
  else if F9 e=false then (T.e e).map λf=>aD i (qr N e) f else none) else none
def FN(N:List Str)(sc:Scope)(T:Tr)(e:Expr):Option GS:=match e with
 | .Constant (.str _) _ _=>some dC
 | .Call (.Attribute (.Name x _) m apos) args [] cpos =>
  (N.idxOf? x).bind λi=>if (n8 N sc i x&&apos.endLine == cpos.line&&args.all λe=>!isStar e)=true then
   (if m="append" then (match args with
    | [a]=>(T.e a).map λf=>lK i (qr N a) f
    | _=>none)
   else if m="extend" then (match args with
    | [a]=>(T.f a).map λf=>tw i (qr N a) f
    | _=>none)
   else if m="insert" then (match args with
    | [a,b]=>(T.e a).bind λfk=>(T.e b).map λf=>D8 i (qr N b) fk f
    | _=>none)
   else none) else none
 | .Call (.Name _ _) _ _ _=>(T.e e).map k8
 | _=>none
def Qf(sc:Scope)(N:List Str)(tg:Expr):Option (ao->D->Option ao):=match tg with
 | .Name x _=>(N.idxOf? x).bind λi=>if n9 N sc i x=true then some (kn i) else none
 | .Tuple [.Name x _,.Name y _] _ _=>(N.idxOf? x).bind λi=>(N.idxOf? y).bind λj=>if (n9 N sc i x&&n9 N sc j y)=true then some (fS i j) else none
 | .Tuple [.Name x _,.Name y _,.Name z _] _ _=>(N.idxOf? x).bind λi=>(N.idxOf? y).bind λj=>(N.idxOf? z).bind λk=>if ((n9 N sc i x&&n9 N sc j y)&&n9 N sc k z)=true then some (MH i j k) else none
 | _=>none
def Fs(sc:Scope)(N:List Str)(T:Tr)(x:Str)(kx e:Expr):Option GS :=
 (N.idxOf? x).bind λi=>if (n8 N sc i x&&!sM kx)=true then (T.e kx).bind λfk=>(T.e e).map λf=>Dh i (qr N e) fk f else none
def Ms:Expr->Bool
 | .Dict [] [] _=>true
 | _=>false
def Ad(sc:Scope)(N:List Str)(x:Str):Option GS:=(N.idxOf? x).bind λi=>if n9 N sc i x=true then some (wR i) else none
def za(sc:Scope)(N:List Str)(T:Tr)(x:Str)(kx e:Expr):Option GS :=
 (N.idxOf? x).bind λi=>if (n8 N sc i x&&!sM kx)=true then (T.e kx).bind λfk=>(T.e e).map λf=>w6 i fk f else none
def mW(f:Stmt->Option GS):List Stmt->Option GS
 | []=>some dC
 | [s]=>f s
 | s::r=>(f s).bind λg=>(mW f r).map λh=>ar g h
def F6:Expr->Option (Str×Str)
 | .Compare (.Name x _) [.In] [.Name y _] _=>if y="seen" then some (x,y) else none
 | _=>none
def zi:Expr->Option (Str×Expr)
 | .Dict [some (.Name z _)] [v] _=>some (z,v)
 | _=>none
def Af(x:Str):Expr->Option Str
 | .Name z _=>if x="seen" then some z else none
 | _=>none
def KZ:Expr->Bool
 | .Constant ..=>true
 | _=>false
def Ff(sc:Scope)(N:List Str)(T:Tr)(x z:Str)(v:Expr):Option GS :=
 (N.idxOf? x).bind λj=>(N.idxOf? z).bind λi=>if (n9 N sc j x&&n8 N sc i z)=true then (T.e v).map λf=>sE j i f else none
def Fd(sc:Scope)(N:List Str)(T:Tr)(x z:Str)(v:Expr):Option GS :=
 (N.idxOf? x).bind λj=>(N.idxOf? z).bind λi=>if ((n8 N sc j x&&n8 N sc i z)&&KZ v)=true then (T.e v).map λf=>rD j i f else none
def DP(sc:Scope)(N:List Str)(T:Tr):Nat->Stmt->Option GS
 | 0,_=>none
 | n+1,st=>match st with
  | .Return (some e) _=>(T.e e).map aE
  | .If c a b _=>(match F6 c with
   | some (x,y)=>(N.idxOf? x).bind λi=>(N.idxOf? y).bind λj=>if (n8 N sc i x&&n8 N sc j y)=true then (mW (DP sc N T n) a).bind λg=>(mW (DP sc N T n) b).map λh=>rN i j g h else none
   | none=>(T.t c).bind λt=>(mW (DP sc N T n) a).bind λg=>(mW (DP sc N T n) b).map λh=>d5 t g h)
  | .Assign [.Name x px] e _=>(match zi e with
   | some (z,v)=>Ff sc N T x z v
   | none=>if Ms e=true then Ad sc N x else FR sc N T x px e)
  | .Assign [.Subscript (.Name x _) kx _] e _=>(match Af x kx with
   | some z=>Fd sc N T x z e
   | none=>if x="known" then za sc N T x kx e else Fs sc N T x kx e)
  | .For tg iter body [] _=>(Pp sc T tg iter).bind λfi=>(Qf sc N tg).bind λt=>(mW (DP sc N T n) body).map λg=>cP (qr N iter) fi t g
  | .While c body [] _=>(T.t c).bind λt=>(mW (DP sc N T n) body).map λg=>DU t g turns
  | .Expr e _=>FN N sc T e
  | .Raise ..=>some DL
  | .Pass _=>some dC
  | _=>none
section
variable {X:Cx}{N:List Str}{sc:Scope}{k:Nat}{T:Tr}{HF₀ H₀:Hp}{pos:Pos}
def eU(H:∀s g,f s=some g->DS X HF₀ H₀ s g):∀ {l:List Stmt}{g:GS},mW f l=some g->AJ X HF₀ H₀ l g
 | [],g,h=>by cases h;exact Ij
 | [s],g,h=>IM (H _ _ h)
 | s::t::r,g,h=>by
  unfold mW at h;let⟨x,hx,h⟩:=bs h;let⟨y,hy,rfl⟩:=af h;exact Gu (H _ _ hx) (eU H hy)
def sJ(h:F9 e=false):swapsWith e (some (.Name x px)) line env=pure false:=by
 cases e<;>first|rfl|cases h
def Fx(C:Bk X N sc k)(O:bK X T)(h:FR sc N T x px e=some g):DS X HF₀ H₀ (.Assign [.Name x px] e pos) g:=by
 unfold FR at h;let⟨i,hi,h⟩:=bs h;split at h
 ·rename_i hloc;let⟨z1,z2,z3,z4⟩:=C.loc hloc;split at h
  ·split at h
   ·rename_i elt gens scope lp hl;split at h
    ·rename_i hc;rw[zF] at hc;let⟨f,hf,rfl⟩:=af h;let⟨tg,iter,ifs,rfl,q⟩:=O.c _ _ _ _ _ hf;let⟨N',t,cs,fi,tgt,tt,te,rfl,S,hd,hfold,hY⟩:=q.ex;exact Hz i _ C.calm S hd hY z1 z2 (C.locl hc.1) (C.swap hc.1 hc.2) hfold
    ·split at h
     ·rename_i hc;let⟨f,hf,rfl⟩:=af h;exact uN i _ z1 z2 z3 (O.f _ _ hf) (C.noswap hc) z4
     ·split at h
      ·rename_i hc;let⟨f,hf,rfl⟩:=af h;refine uN i _ z1 z2 z3 (O.f _ _ hf) ?_ z4;rw[qf,hc];simp
      ·cases h
   ·rename_i hl hn;let⟨f,hf,rfl⟩:=af h;refine uN i _ z1 z2 z3 (O.f _ _ hf) (sJ ?_) z4;cases e<;>first|rfl|exact absurd rfl (hn _ _ _ _)|(rename_i hl _;cases hl;done)
  ·split at h
   ·rename_i hc;let⟨f,hf,rfl⟩:=af h;exact LD i _ z1 z2 z3 (O.e _ _ hf) (sJ hc) z4
   ·cases h
 ·cases h
def zv(h:(es.all λe=>!isStar e)=true)(hl:es.length < 20):((backTo cpos (starEach es env)).all (λx=>!x.1)&&(backToKw cpos (keywordEach [] env)).all (λx=>x.1.isSome)&&decide (es.length+([]:List Keyword).length+(if ([]:List Keyword).isEmpty then 0 else 1) < 30))=true:=by
 have h1:(backTo cpos (starEach es env)).all (λx=>!x.1)=true:=by
  have:=cY (pos:=cpos) (env:=env) h;rw[List.all_eq_not_any_not];simpa using this
 rw[h1];simp[backToKw,keywordEach];lia
def GN(C:Bk X N sc k)(O:bK X T)(h:FN N sc T e=some g):DS X HF₀ H₀ (.Expr e pos) g:=by
 unfold FN at h;split at h
 ·cases h;exact Ln
 ·rename_i x px m apos args cpos;replace h:=bs h;let⟨i,hi,h⟩:=h;split at h
  ·rename_i hv;simp?[zF] at hv;let⟨⟨hv,hline⟩,hs⟩:=hv;let⟨z1,z2,z3,z4⟩:=C.vis hv;split at h
   ·rename_i hm;subst hm;split at h
    ·let⟨f,hf,rfl⟩:=af h;exact C9 i _ z1 z2 (O.e _ _ hf) z3 z4 (zv hs (by simp)) hline (aO (by simpa using hs))
    ·cases h
   ·split at h
    ·rename_i hm;subst hm;split at h
     ·let⟨f,hf,rfl⟩:=af h;exact CZ i _ z1 z2 (O.f _ _ hf) z3 z4 (zv hs (by simp)) hline (aO (by simpa using hs))
     ·cases h
    ·split at h
     ·rename_i hm;subst hm;split at h
      ·let⟨fk,hfk,h⟩:=bs h;let⟨f,hf,rfl⟩:=af h;have hs':=hs;simp?[xS,List.all_nil,Bool.and_true,zF,yP] at hs';exact Do i _ z1 z2 (O.e _ _ hfk) (O.e _ _ hf) z3 z4 (zv hs (by simp)) hline (aO hs'.1) (aO hs'.2)
      ·cases h
     ·cases h
  ·cases h
 ·let⟨f,hf,rfl⟩:=af h;exact HH rfl (O.e _ _ hf)
 ·cases h
def MD(C:Bk X N sc k)(h:Qf sc N tg=some t):OV X HF₀ H₀ tg t:=by
 unfold Qf at h;split at h
 ·let⟨i,hi,h⟩:=bs h;split at h
  ·rename_i hl;cases h;have z:=C.loc hl;exact D9 i z.1 z.2.1 z.2.2.1 z.2.2.2
  ·cases h
 ·let⟨i,hi,h⟩:=bs h;let⟨j,hj,h⟩:=bs h;split at h
  ·rename_i hl;rw[zF] at hl;cases h;have z:=C.loc hl.1;have w:=C.loc hl.2;exact JF i j C.calm z.1 z.2.1 z.2.2.1 w.2.1 w.2.2.1 z.2.2.2 w.2.2.2
  ·cases h
 ·let⟨i,hi,h⟩:=bs h;let⟨j,hj,h⟩:=bs h;let⟨m,hm,h⟩:=bs h;split at h
  ·rename_i hl;rw[zF,zF] at hl;cases h;have z:=C.loc hl.1.1;have w:=C.loc hl.1.2;have y:=C.loc hl.2;exact CW i j m C.calm z.1 z.2.1 z.2.2.1 w.2.1 w.2.2.1 y.2.1 y.2.2.1 z.2.2.2 w.2.2.2 y.2.2.2
  ·cases h
 ·cases h
def D2(C:Bk X N sc k)(O:bK X T)(h:Fs sc N T x kx e=some g):DS X HF₀ H₀ (.Assign [.Subscript (.Name x px) kx spos] e pos) g:=by
 unfold Fs at h;let⟨i,hi,h⟩:=bs h;split at h
 ·rename_i hv;simp?[zF,yP] at hv;let⟨hv,hc⟩:=hv;let⟨z1,z2,z3,z4⟩:=C.vis hv;let⟨fk,hfk,h⟩:=bs h;let⟨f,hf,rfl⟩:=af h;refine Hb i _ z1 z2 (O.e _ _ hfk) (O.e _ _ hf) z3 z4 (λv=>?_) ?_ ?_ rfl
  ·cases kx<;>first|rfl|cases hc
  ·cases e<;>rfl
  ·rfl
 ·cases h
def Bk.u1(C:Bk X N sc k):X.A.units+1 < cLine:=by have:=C.room.un;lia
def zr(h:F6 c=some (x,y)):∃px py cp,c=.Compare (.Name x px) [.In] [.Name y py] cp:=by
 unfold F6 at h;split at h
 ·split at h
  ·cases h;exact⟨_,_,_,rfl⟩
  ·cases h
 ·cases h
def vm(h:zi e=some (z,v)):∃pz p,e=.Dict [some (.Name z pz)] [v] p:=by
 unfold zi at h;split at h
 ·cases h;exact⟨_,_,rfl⟩
 ·cases h
def vv(h:Af x e=some z):∃pz,e=.Name z pz:=by
 unfold Af at h;split at h
 ·split at h
  ·cases h;exact⟨_,rfl⟩
  ·cases h
 ·cases h
def Dk(C:Bk X N sc k)(O:bK X T)(h:Ff sc N T x z v=some g):DS X HF₀ H₀ (.Assign [.Name x px] (.Dict [some (.Name z pz)] [v] p) pos) g:=by
 let⟨j,hj,h⟩:=bs h;let⟨i,hi,h⟩:=bs h;split at h
 ·rename_i hc;rw[zF] at hc;let⟨f,hf,rfl⟩:=af h;let⟨z1,z2,z3,z4⟩:=C.loc hc.1;let⟨w1,w2,w3,w4⟩:=C.vis hc.2;exact JQ j i (Bk.u1 C) w1 w2 w3 w4 (O.e _ _ hf) z1 z2 z3 rfl z4
 ·cases h
def Dj(C:Bk X N sc k)(O:bK X T)(h:Fd sc N T x z v=some g):DS X HF₀ H₀ (.Assign [.Subscript (.Name x px) (.Name z pz) sp] v pos) g:=by
 let⟨j,hj,h⟩:=bs h;let⟨i,hi,h⟩:=bs h;split at h
 ·rename_i hc;rw[zF,zF] at hc;let⟨f,hf,rfl⟩:=af h;let⟨z1,z2,z3,z4⟩:=C.vis hc.1.1;let⟨w1,w2,w3,w4⟩:=C.vis hc.1.2;cases v<;>first|exact J4 j i (Bk.u1 C) w1 w2 z1 z2 (O.e _ _ hf) w3 w4 z3 z4|exact absurd hc.2 (by simp[KZ])
 ·cases h
def CH(C:Bk X N sc k)(hd:Ms e=true)(h:Ad sc N x=some g):DS X HF₀ H₀ (.Assign [.Name x px] e pos) g:=by
 unfold Ad at h;let⟨i,hi,h⟩:=bs h;split at h
 ·rename_i hloc;let⟨z1,z2,z3,z4⟩:=C.loc hloc;cases h;unfold Ms at hd;split at hd
  ·exact JG i z1 z2 z3 rfl z4
  ·cases hd
 ·cases h
def CL(C:Bk X N sc k)(O:bK X T)(h:za sc N T x kx e=some g):DS X HF₀ H₀ (.Assign [.Subscript (.Name x px) kx spos] e pos) g:=by
 unfold za at h;let⟨i,hi,h⟩:=bs h;split at h
 ·rename_i hv;simp?[zF,yP] at hv;let⟨hv,hc⟩:=hv;let⟨z1,z2,z3,z4⟩:=C.vis hv;let⟨fk,hfk,h⟩:=bs h;let⟨f,hf,rfl⟩:=af h;refine JI i z1 z2 (O.e _ _ hfk) (O.e _ _ hf) z3 z4 (λv=>?_) ?_ ?_ rfl
  ·cases kx<;>first|rfl|cases hc
  ·cases e<;>rfl
  ·rfl
 ·cases h
def y1(C:Bk X N sc k)(B:Bn X)(O:bK X T):∀ (n:Nat) {st:Stmt}{g:GS},DP sc N T n st=some g->DS X HF₀ H₀ st g
 | 0,st,g,h=>by cases h
 | n+1,st,g,h=>by
  have ih:=λs g h=>y1 C B O n (st:=s) (g:=g) h;unfold DP at h;split at h
  ·let⟨f,hf,rfl⟩:=af h;exact M6 (O.e _ _ hf)
  ·split at h
   ·rename_i x y hc;let⟨px,py,cp,rfl⟩:=zr hc;let⟨i,hi,h⟩:=bs h;let⟨j,hj,h⟩:=bs h;split at h
    ·rename_i hv;rw[zF] at hv;let⟨a,ha,h⟩:=bs h;let⟨b,hb,rfl⟩:=af h;let⟨z1,z2,z3,z4⟩:=C.vis hv.1;let⟨w1,w2,w3,w4⟩:=C.vis hv.2;exact Ka i j (Bk.u1 C) z1 z2 w1 w2 (eU ih ha) (eU ih hb) z3 z4 w3 w4
    ·cases h
   ·let⟨t,ht,h⟩:=bs h;let⟨a,ha,h⟩:=bs h;let⟨b,hb,rfl⟩:=af h;exact ON (O.t _ _ ht) (eU ih ha) (eU ih hb)
  ·split at h
   ·rename_i hc;let⟨pz,p,rfl⟩:=vm hc;exact Dk C O h
   ·split at h
    ·exact CH C ‹_› h
    ·exact Fx C O h
  ·split at h
   ·rename_i hc;let⟨pz,rfl⟩:=vv hc;exact Dj C O h
   ·split at h
    ·exact CL C O h
    ·exact D2 C O h
  ·let⟨fi,hfi,h⟩:=bs h;let⟨t,ht,h⟩:=bs h;let⟨b,hb,rfl⟩:=af h;let⟨hd,hfold⟩:=Fw C B O hfi;exact L7 _ C.pass C.calm hd (MD C ht) (eU ih hb) hfold
  ·let⟨t,ht,h⟩:=bs h;let⟨b,hb,rfl⟩:=af h;exact FH _ C.pass (O.t _ _ ht) (eU ih hb)
  ·exact GN C O h
  ·cases h;exact N6
  ·cases h;exact Iy
  ·cases h
end
section
variable {K:W.Frag}
def pd(P:Program)(w:World)(K:W.Frag)(mg:Str->Option Value)(base:Heap)(j:Nat)(l:List (Str×Nat×(List D->Option D))):Prop:=∀x n m,l.lookup x=some (n,m)->GY P w K mg base j x n m
def fN(mg:Str->Option Value)(l:List (Str×D)):Prop:=∀x i,l.lookup x=some i->Qy mg x i
def PU:pd P w K mg base j []:=λ_ _ _ h=>by cases h
def OT(F:GY P w K mg base j x n m)(h:pd P w K mg base j l):pd P w K mg base j ((x,n,m)::l):=λy n' m' e=>by
 rw[yB] at e;cases q:y == x with
 | true=>rw[q] at e;cases e;rw[eq_of_beq q];exact F
 | false=>rw[q] at e;exact h y n' m' e
def Qj:fN mg []:=λ_ _ h=>by cases h
def FJ{d:D}(F:Qy mg x d)(h:fN mg l):fN mg ((x,d)::l):=λy i' e=>by
 rw[yB] at e;cases q:y == x with
 | true=>rw[q] at e;cases e;rw[eq_of_beq q];exact F
 | false=>rw[q] at e;exact h y i' e
def EE(F:∃t,mg x=some (.int i t))(h:fN mg l):fN mg ((x,.int i)::l):=FJ (d:=.int i) F h
def ER(F:∃t,mg x=some (.str i t))(h:fN mg l):fN mg ((x,.str i)::l):=FJ (d:=.str i) F h
def Ky{st:Stmt}(C:Bk X N (aK st) j)(B:Bn X)(hf:pd X.prog X.w X.K X.mg X.base j fs)(hi:fN X.mg is)
  (t:mW (DP (aK st) N (tr ⟨fs,is⟩ 40 none (aK st) N) 40) (bV st)=some g):AJ X HF₀ H₀ (bV st) g :=
 eU (λs g h=>y1 C B (KB (G:=⟨fs,is⟩) 40 C ⟨hf,hi,B⟩ (yM j) λq z=>by cases z) 40 h) t
def Ro{st:Stmt}(D:HV K mg x st ps)(S:d6 N ps (aK st))(B:∀x∈dy,mg x=none)(hf:pd P w K mg base j fs)(hi:fN mg is)
  (t:mW (DP (aK st) N (tr ⟨fs,is⟩ 40 none (aK st) N) 40) (bV st)=some g):GY P w K mg base (j+1) x ps.length (aV g N.length):=by
 let⟨f,fd,hm,F,hb⟩:=D.ex;exact QT F S hb hm λX hP hw hK hm' hb' C _ _ HF H=>by subst hP;subst hw;subst hK;subst hm';subst hb';exact Ky C B hf hi t
def Q5{st:Stmt}(D:MW K mg x st ps)(S:d6 N ps (aK st))(B:∀x∈dy,mg x=none)(hf:pd P w K mg base j fs)(hi:fN mg is)
  (hq:x∈iV/\x++".<locals>."++"<lambda>"=q) (t:mW (DP (aK st) N (tr ⟨fs,is⟩ 40 (some q) (aK st) N) 40) (bV st)=some g):GY P w K mg base (j+4) x ps.length (aV g N.length):=by
 let⟨f,fd,c,P',hm,F,hb,hc,hh⟩:=D.ex;refine QT (k:=j+3) F S hb hm λX hP hw hK hm' hb' C h1 h2 HF H=>?_;subst hP;subst hw;subst hK;subst hm';subst hb';have L:pA X q:=by
  refine⟨c,P',by rw[h1,hc],by rw[h2];exact hq.2,hh,λHF tb=>?_⟩;let⟨oc,od,kV,doc,pm,an,cdv,ct,osl,rfl,lk,_⟩:=F.ex;have:=tb f oc od _ osl c P' lk hq.1 hc hh;rw[<- hq.2];exact this
 exact eU (λs g h=>y1 C B (KB (G:=⟨fs,is⟩) (j:=j) 40 C ⟨hf,hi,B⟩ (jU _ _) λq' z=>by cases z;exact⟨L,yM _⟩) 40 h) t
end
abbrev tW(s:Stmt)(N:List Str)(S:Sg)(l:Option Str):Option GS:=mW (DP (aK s) N (tr S 40 l (aK s) N) 40) (bV s)
def Rw(a:sc.kind=.function:=by rfl)(b:sc.isCoroutine=false:=by rfl)(c:sc.isGenerator=false:=by rfl)(d:N.Nodup:=by decide +kernel)(e:N.take P.length=P:=by rfl)(f:∀x∈P,sc.names.lookup x=some .local \/ sc.names.lookup x=some .cell:=by decide +kernel)(g:∀y∈sc.names,y.2≠.free:=by decide +kernel):d6 N P sc:=⟨a,b,c,d,e,f,g⟩
section
variable {K:W.Frag}
end
end Rf
namespace Ex
open PySem L2 PySem.Spec PyProof.Rows
section
variable {X:Cx}{pins:List (Addr×Obj)}{σ:L2.St}{H H':Hp}{s s':Shared}{cls:Value}{ea:Addr}
end
open PySem L2 Dl PySem.Spec PyProof.Rows
section
variable {X:Cx}{pins:List (Addr×Obj)}{σ:L2.St}{H H':Hp}{s s':Shared}{cls:Value}{ea:Addr}
end
open PySem PySem.W PySem.Spec PySem.Calls PyProof.Rows
section
variable {K:Frag}{x D:Addr}
end
section
variable {K:W.Frag}
end
open PySem L2 Dl PySem.Spec PyProof.Rows Rf
section
variable {tS:Stmt->Option GS}
end
section
variable {K:W.Frag}
end
section
variable {K:W.Frag}{cs:List (Str×Addr)}
end
end Ex
namespace Hd
open PySem L2 Dl PySem.Spec PyProof.Rows
section
variable {K:W.Frag}
def Py{st:Stmt}(hb:gC st ps)(a:W.nsIn K mainGlobals x=some (some (.ref f)))(l:K.lookup f=some (fo x st pm c))(d:W.codeIn K (.ref c) x=true)(k:W.keepIn K (.ref f)=true):iW K x st ps:=OS hb a l d k
def QO{st:Stmt}(hb:gC st ps)(a:W.nsIn K mainGlobals x=some (some (.ref f)))(l:K.lookup f=some (fo x st pm c))(d:W.codeIn K (.ref c) x=true)(k:W.keepIn K (.ref f)=true)(hh:W.codeHdIn K c (Fh K c)=true):nN K x st ps:=Oi hb a l d k hh
end
section
variable {α:Type}{R:List α->Prop}
def wc(h:∀a,R [a])(us:List α)(e:us.length=1):R us:=by
 let⟨a,rfl⟩:=List.length_eq_one_iff.mp e;exact h a
def Ny(us:List α)(e:us.length=n+1):∃a r,us=a::r/\r.length=n:=by
 cases us with
 | nil=>cases e
 | cons a r=>exact⟨a,r,rfl,by simpa using e⟩
def O0(h:∀a b,R [a,b])(us:List α)(e:us.length=2):R us:=by
 let⟨a,r,rfl,e'⟩:=Ny us e;exact wc (R:=λr=>R (a::r)) (h a) r e'
def NF(h:∀a b c,R [a,b,c])(us:List α)(e:us.length=3):R us:=by
 let⟨a,r,rfl,e'⟩:=Ny us e;exact O0 (R:=λr=>R (a::r)) (h a) r e'
def Qt(h:∀a b c d,R [a,b,c,d])(us:List α)(e:us.length=4):R us:=by
 let⟨a,r,rfl,e'⟩:=Ny us e;exact NF (R:=λr=>R (a::r)) (h a) r e'
end
section
variable {K:W.Frag}
def f1(f c:Addr)(pm:Value){st:Stmt}(hb:gC st ps:=by exactλ_ _ _ _ _ _ _ _ us hl=>wc (R:=λus=>bindArgs _ ⟨us,[]⟩=pure (List.zip _ us)) (λ_=>rfl) us hl)(a:W.nsIn K mainGlobals x=some (some (.ref f)):=by kernel_rfl)(l:K.lookup f=some (fo x st pm c):=by kernel_rfl)(d:W.codeIn K (.ref c) x=true:=by kernel_rfl)(k:W.keepIn K (.ref f)=true:=by kernel_rfl):iW K x st ps:=Py hb a l d k
def l1(f c:Addr)(pm:Value){st:Stmt}(hb:gC st ps:=by exactλ_ _ _ _ _ _ _ _ us hl=>wc (R:=λus=>bindArgs _ ⟨us,[]⟩=pure (List.zip _ us)) (λ_=>rfl) us hl)(a:W.nsIn K mainGlobals x=some (some (.ref f)):=by kernel_rfl)(l:K.lookup f=some (fo x st pm c):=by kernel_rfl)(d:W.codeIn K (.ref c) x=true:=by kernel_rfl)(k:W.keepIn K (.ref f)=true:=by kernel_rfl)(hh:W.codeHdIn K c (Fh K c)=true:=by kernel_rfl):nN K x st ps:=QO hb a l d k hh
def f2(f c:Addr)(pm:Value){st:Stmt}(hb:gC st ps:=by exactλ_ _ _ _ _ _ _ _ us hl=>O0 (R:=λus=>bindArgs _ ⟨us,[]⟩=pure (List.zip _ us)) (λ_ _=>rfl) us hl)(a:W.nsIn K mainGlobals x=some (some (.ref f)):=by kernel_rfl)(l:K.lookup f=some (fo x st pm c):=by kernel_rfl)(d:W.codeIn K (.ref c) x=true:=by kernel_rfl)(k:W.keepIn K (.ref f)=true:=by kernel_rfl):iW K x st ps:=Py hb a l d k
def f3(f c:Addr)(pm:Value){st:Stmt}(hb:gC st ps:=by exactλ_ _ _ _ _ _ _ _ us hl=>NF (R:=λus=>bindArgs _ ⟨us,[]⟩=pure (List.zip _ us)) (λ_ _ _=>rfl) us hl)(a:W.nsIn K mainGlobals x=some (some (.ref f)):=by kernel_rfl)(l:K.lookup f=some (fo x st pm c):=by kernel_rfl)(d:W.codeIn K (.ref c) x=true:=by kernel_rfl)(k:W.keepIn K (.ref f)=true:=by kernel_rfl):iW K x st ps:=Py hb a l d k
def l3(f c:Addr)(pm:Value){st:Stmt}(hb:gC st ps:=by exactλ_ _ _ _ _ _ _ _ us hl=>NF (R:=λus=>bindArgs _ ⟨us,[]⟩=pure (List.zip _ us)) (λ_ _ _=>rfl) us hl)(a:W.nsIn K mainGlobals x=some (some (.ref f)):=by kernel_rfl)(l:K.lookup f=some (fo x st pm c):=by kernel_rfl)(d:W.codeIn K (.ref c) x=true:=by kernel_rfl)(k:W.keepIn K (.ref f)=true:=by kernel_rfl)(hh:W.codeHdIn K c (Fh K c)=true:=by kernel_rfl):nN K x st ps:=QO hb a l d k hh
def f4(f c:Addr)(pm:Value){st:Stmt}(hb:gC st ps:=by exactλ_ _ _ _ _ _ _ _ us hl=>Qt (R:=λus=>bindArgs _ ⟨us,[]⟩=pure (List.zip _ us)) (λ_ _ _ _=>rfl) us hl)(a:W.nsIn K mainGlobals x=some (some (.ref f)):=by kernel_rfl)(l:K.lookup f=some (fo x st pm c):=by kernel_rfl)(d:W.codeIn K (.ref c) x=true:=by kernel_rfl)(k:W.keepIn K (.ref f)=true:=by kernel_rfl):iW K x st ps:=Py hb a l d k
end
end Hd
namespace Pg
open PySem L2 Dl PySem.Spec PyProof.Rows
def pw:ao->Option Out:=(ar (d5 (ki (bG (fB (Jp "int" (ab 0)))) (fB (Jp "bool" (ab 0)))) (aE (fC (.bool false))) dC) (aE (jl Cf Cf (ab 1) (ab 0) (ab 2))))
def cg:List D->Option D:=aV pw 3
def nZ:ao->Option Out:=(aE (ah 3 cg (aa (ab 0) (aa (fC (.int 0)) (aa (f2 Dl.iz (ab 1) (fC (.int 1))) ae)))))
def cG:List D->Option D:=aV nZ 2
def rT:ao->Option Out:=(aE (kj (Jp "tuple" (ab 0)) (jl Cf Cf (ab 1) (aS aX (aa (ab 0) ae)) (ab 2))))
def bH:List D->Option D:=aV rT 3
def nJ:ao->Option Out:=(ar (d5 (bG (fB (Jp "tuple" (ab 0)))) (aE (fC (.bool false))) dC) (ar (d5 (bG (fB (aS gx (aa (bc (aj 1 [1] (aB (ab 0)) (fG 0) (λ_=>some true) (ah 2 cG (aa (ab 0) (aa (ab 1) ae))))) ae)))) (aE (fC (.bool false))) dC) (aE (f2 bo (f1 j8 (ab 0)) (aS aX (aa (ab 0) ae))))))
def gg:List D->Option D:=aV nJ 2
def wa:ao->Option Out:=(aE (kj (ah 3 bH (aa (ab 0) (aa (fC (.int 2)) (aa (fC (.int 2)) ae)))) (kj (ah 3 cg (aa (f2 aw (ab 0) (fC (.int 0))) (aa (fC (.int 0)) (aa (fC (.int 9)) ae)))) (ah 2 gg (aa (f2 aw (ab 0) (fC (.int 1))) (aa (ab 1) ae))))))
def fx:List D->Option D:=aV wa 2
def wQ:ao->Option Out:=(ar (d5 (bG (fB (ah 3 bH (aa (ab 0) (aa (fC (.int 3)) (aa (fC (.int 3)) ae)))))) (aE (fC (.bool false))) dC) (aE (kj (ah 2 cG (aa (f2 aw (ab 0) (fC (.int 0))) (aa (ab 1) ae))) (kj (ah 2 cG (aa (f2 aw (ab 0) (fC (.int 1))) (aa (ab 2) ae))) (ah 3 cg (aa (f2 aw (ab 0) (fC (.int 2))) (aa (fC (.int 1)) (aa (fC (.int 9)) ae))))))))
def jv:List D->Option D:=aV wQ 3
def nR:ao->Option Out:=(ar (d5 (ki (bG (fB (ah 3 bH (aa (ab 0) (aa (fC (.int 1)) (aa (fC (.int 4)) ae)))))) (bG (fB (ah 3 bH (aa (ab 1) (aa (fC (.int 1)) (aa (fC (.int 4)) ae))))))) (aE (fC (.bool false))) dC) (ar (d5 (bG (fB (aS gx (aa (bc (aj 1 [1] (aB (ab 0)) (fG 0) (λ_=>some true) (ah 2 fx (aa (ab 0) (aa (aS aX (aa (ab 1) ae)) ae))))) ae)))) (aE (fC (.bool false))) dC) (ar (d5 (bG (fB (aS gx (aa (bc (aj 1 [0] (aB (ab 1)) (fG 0) (λ_=>some true) (ah 2 fx (aa (ab 0) (aa (aS aX (aa (ab 1) ae)) ae))))) ae)))) (aE (fC (.bool false))) dC) (aE (kj (Jp "tuple" (ab 2)) (aS gx (aa (bc (aj 1 [0,1] (aB (ab 2)) (fG 0) (λ_=>some true) (ah 3 jv (aa (ab 0) (aa (aS aX (aa (ab 1) ae)) (aa (aS aX (aa (ab 2) ae)) ae)))))) ae)))))))
def gn:List D->Option D:=aV nR 3
def k5:ao->Option Out:=(ar (aQ 1 [] (dR ae)) (ar (cP [0] (bf (aa (ab 0) ae)) (fS 2 3) (tw 1 [2,3] (aj 1 [2] (aB (f2 aw (ab 3) (fC (.int 1)))) (fG 0) (λ_=>some true) (aJ (aa (ab 1) (aa (ab 0) ae)))))) (aE (ab 1))))
def bA:List D->Option D:=aV k5 4
def ix:ao->Option Out:=(ar (d5 (ki (bG (fB (ah 3 bH (aa (ab 0) (aa (fC (.int 3)) (aa (fC (.int 3)) ae)))))) (bG (fB (ah 3 gn (aa (f2 aw (ab 0) (fC (.int 0))) (aa (f2 aw (ab 0) (fC (.int 1))) (aa (f2 aw (ab 0) (fC (.int 2))) ae))))))) (aE (fC (.bool false))) dC) (ar (aQ 1 [0] (aj 1 [] (aB (f2 aw (ab 0) (fC (.int 2)))) (fG 0) (λ_=>some true) (aJ (aa (f2 aw (ab 0) (fC (.int 0))) (aa (f2 aw (ab 0) (fC (.int 1))) ae))))) (ar (aQ 2 [0] (qy fZ (aa (ah 1 bA (aa (f2 aw (ab 0) (fC (.int 0))) ae)) ae))) (ar (aQ 3 [0] (qy fZ (aa (bc (aj 2 [] (aB (ah 1 bA (aa (f2 aw (ab 0) (fC (.int 1))) ae))) (hC 0 1) (λ_=>some true) (aJ (aa (ab 1) (aa (ab 0) ae))))) ae))) (aE (kj (f2 bo (ab 1) (ab 2)) (f2 bo (ab 1) (ab 3))))))))
def cC:List D->Option D:=aV ix 4
def dY:ao->Option Out:=(d5 (bG (fB (ah 1 cC (aa (ab 0) ae)))) DL dC)
def bB:List D->Option D:=aV dY 1
def pH:ao->Option Out:=(aE (f2 aA (f2 aA (dw b0 (ab 0) eu (nK (ab 1))) (aJ (aa (ab 2) ae))) (dw b0 (ab 0) (nK (f2 aA (ab 1) (fC (.int 1)))) eu)))
def cH:List D->Option D:=aV pH 3
abbrev Cy:List Str:=["world","side","place","ways","likes","own"]
def mH:ao->Option Out:=(ar (aD 3 [0] (f2 aw (ab 0) (fC (.int 2)))) (ar (aD 4 [0,1,2] (f2 aw (f2 aw (f2 aw (ab 0) (ab 1)) (ab 2)) (fC (.int 1)))) (ar (aQ 5 [1,2,3] (aj 2 [1,2] (bf (aa (ab 3) ae)) (hC 0 1) (fB (f2 bo (f2 aw (ab 1) (ab 2)) (ab 3))) (ab 0))) (aE (bc (nc [1,3,4] (ab 5) (f2 oh (ab 3) (f2 aw (f2 aw (ab 2) (ab 0)) (f2 Dl.iz (fC (.int 1)) (ab 1))))))))))
def fj:List D->Option D:=aV mH 6
def iX:ao->Option Out:=(ar (d5 (fB (f2 bo (ab 0) (bc (dR ae)))) (aE (f2 dv (fC (.int 7)) (ab 1))) dC) (aE (f2 aA (f2 aw (ab 0) (f2 kl (ab 1) (aS aX (aa (ab 0) ae)))) (f2 dv (fC (.int 6553)) (f2 lM (ab 1) (aS aX (aa (ab 0) ae)))))))
def d9:List D->Option D:=aV iX 2
def lS:ao->Option Out:=(ar (aD 3 [0,1] (f2 kl (f2 aA (f2 dv (f2 kl (ah 2 d9 (aa (ab 0) (aa (ab 1) ae))) (fC (.int 2147483563))) (fC (.int 69069))) (f2 dv (fC (.int 104723)) (f2 aA (ab 1) (fC (.int 1))))) (fC (.int 2147483563)))) (ar (aD 3 [3] (f2 kl (f2 aA (f2 dv (ab 3) (ab 3)) (f2 lM (ab 3) (fC (.int 3)))) (fC (.int 2147483399)))) (aE (f2 kl (f2 lM (f2 kl (f2 aA (f2 dv (ab 3) (ab 3)) (f2 lM (ab 3) (fC (.int 7)))) (fC (.int 2147483647))) (fC (.int 11))) (ab 2)))))
def aq:List D->Option D:=aV lS 4
def k4:ao->Option Out:=(ar (aQ 3 [] (dR ae)) (ar (cP [2] (bf (aa (ab 2) ae)) (fS 4 5) (ar (aQ 6 [] (dR ae)) (ar (cP [5] (bf (aa (ab 5) ae)) (fS 7 8) (D8 6 [8] (ah 3 aq (aa (ab 0) (aa (f2 aA (f2 aA (ab 1) (f2 dv (fC (.int 4)) (ab 4))) (ab 7)) (aa (f2 aA (aS aX (aa (ab 6) ae)) (fC (.int 1))) ae)))) (ab 8))) (lK 3 [6] (aS bS (aa (ab 6) ae)))))) (aE (ab 3))))
def bO:List D->Option D:=aV k4 9
def eW:ao->Option Out:=(ar (d5 (nY (fB (f2 si (ab 2) (fC (.int 3)))) (fB (f2 bo (ah 3 aq (aa (ab 0) (aa (f2 aA (ab 1) (fC (.int 64))) (aa (fC (.int 4)) ae)))) (fC (.int 0))))) (ar (aD 3 [0,1] (f2 aA (fC (.int 1)) (ah 3 aq (aa (ab 0) (aa (f2 aA (ab 1) (fC (.int 65))) (aa (fC (.int 2)) ae)))))) (ar (aD 4 [3] (aJ (aa (aJ (aa (ab 3) (aa (aJ (aa (fC (.int 1)) (aa (fC (.int 0)) ae))) ae))) (aa (aJ (aa (ab 3) (aa (aJ (aa (fC (.int 0)) (aa (fC (.int 1)) ae))) ae))) ae)))) (aE (aJ (aa (aJ (aa (aJ (aa (ab 3) (aa (aJ (aa (fC (.int 0)) (aa (fC (.int 1)) ae))) ae))) (aa (aJ (aa (ab 3) (aa (aJ (aa (fC (.int 1)) (aa (fC (.int 0)) ae))) ae))) ae))) (aa (ab 4) (aa (aJ (aa (aJ (aa (fC (.int 0)) (aa (fC (.int 0)) (aa (fC (.int 2)) ae)))) (aa (aJ (aa (fC (.int 0)) (aa (fC (.int 1)) (aa (fC (.int 2)) ae)))) (aa (aJ (aa (fC (.int 1)) (aa (fC (.int 0)) (aa (fC (.int 2)) ae)))) (aa (aJ (aa (fC (.int 1)) (aa (fC (.int 1)) (aa (fC (.int 2)) ae)))) ae))))) ae))))))) dC) (ar (aD 5 [0,1] (f2 aA (fC (.int 1)) (ah 3 aq (aa (ab 0) (aa (ab 1) (aa (fC (.int 3)) ae)))))) (ar (aD 6 [0,1] (f2 aA (fC (.int 1)) (ah 3 aq (aa (ab 0) (aa (f2 aA (ab 1) (fC (.int 1))) (aa (fC (.int 3)) ae)))))) (ar (aQ 7 [] (dR ae)) (ar (cP [5,6] (bQ (aa (f2 dv (ab 5) (ab 6)) ae)) (kn 8) (d5 (nY (fB (f2 Ic (aS aX (aa (ab 7) ae)) (ab 2))) (fB (f2 si (ah 3 aq (aa (ab 0) (aa (f2 aA (f2 aA (ab 1) (fC (.int 2))) (ab 8)) (aa (fC (.int 4)) ae)))) (fC (.int 0))))) (lK 7 [0,1,6,8] (aJ (aa (f2 lM (ab 8) (ab 6)) (aa (f2 kl (ab 8) (ab 6)) (aa (f2 aA (fC (.int 1)) (ah 3 aq (aa (ab 0) (aa (f2 aA (f2 aA (ab 1) (fC (.int 12))) (ab 8)) (aa (fC (.int 2)) ae))))) ae))))) dC)) (ar (aD 9 [0,1,5,7] (ah 3 bO (aa (ab 0) (aa (f2 aA (ab 1) (fC (.int 24))) (aa (bc (aj 1 [7] (bQ (aa (ab 5) ae)) (fG 0) (λ_=>some true) (bc (aj 1 [0] (aB (ab 1)) (fG 0) (fB (f2 bo (f2 aw (ab 0) (fC (.int 0))) (ab 1))) (f2 aw (ab 0) (fC (.int 1))))))) ae))))) (ar (aD 10 [0,1,6,7] (ah 3 bO (aa (ab 0) (aa (f2 aA (ab 1) (fC (.int 40))) (aa (bc (aj 1 [7] (bQ (aa (ab 6) ae)) (fG 0) (λ_=>some true) (bc (aj 1 [0] (aB (ab 1)) (fG 0) (fB (f2 bo (f2 aw (ab 0) (fC (.int 1))) (ab 1))) (f2 aw (ab 0) (fC (.int 0))))))) ae))))) (ar (aD 11 [0,1,8,9] (aS bS (aa (bc (aj 2 [0,1] (bf (aa (ab 9) ae)) (hC 0 1) (λ_=>some true) (aJ (aa (ah 3 aq (aa (ab 2) (aa (f2 aA (f2 aA (ab 3) (fC (.int 56))) (ab 0)) (aa (fC (.int 4)) ae)))) (aa (ab 1) ae))))) ae))) (ar (aD 4 [0,1,8,10] (aS bS (aa (bc (aj 2 [0,1] (bf (aa (ab 10) ae)) (hC 0 1) (λ_=>some true) (aJ (aa (ah 3 aq (aa (ab 2) (aa (f2 aA (f2 aA (ab 3) (fC (.int 60))) (ab 0)) (aa (fC (.int 4)) ae)))) (aa (ab 1) ae))))) ae))) (aE (aJ (aa (ab 11) (aa (ab 4) (aa (aS bS (aa (ab 7) ae)) ae))))))))))))))
def cJ:List D->Option D:=aV eW 12
def sC:ao->Option Out:=(aE (aS qq (aa (bc (aj 2 [2,3] (eS (aa (f2 aw (ab 0) (fC (.int 2))) (aa (ab 1) ae))) (hC 0 1) (fB (f2 bo (f2 aw (ab 0) (ab 2)) (ab 3))) (ab 1))) ae)))
def cy:List D->Option D:=aV sC 4
def iK:ao->Option Out:=(aE (aS gx (aa (bc (aj 2 [0,1,2] (bf (aa (f2 aw (ab 0) (ab 2)) ae)) (hC 0 1) (λ_=>some true) (f2 Cf (ah 4 cy (aa (ab 2) (aa (ab 3) (aa (ab 4) (aa (ab 0) ae))))) (f2 aw (ab 1) (fC (.int 0)))))) ae)))
def cT:List D->Option D:=aV iK 3
def nv:ao->Option Out:=(ar (aD 2 [0] (f2 aw (ab 0) (fC (.int 2)))) (ar (d5 (bG (fB (ah 3 bH (aa (ab 1) (aa (aS aX (aa (ab 2) ae)) (aa (aS aX (aa (ab 2) ae)) ae)))))) (aE (fC (.bool false))) dC) (ar (d5 (bG (fB (aS gx (aa (bc (aj 2 [] (eS (aa (ab 2) (aa (ab 1) ae))) (hC 0 1) (λ_=>some true) (ah 3 cg (aa (ab 1) (aa (fC (.int 0)) (aa (f2 aw (ab 0) (fC (.int 2))) ae)))))) ae)))) (aE (fC (.bool false))) dC) (aE (kj (ah 3 cT (aa (ab 0) (aa (ab 1) (aa (fC (.int 0)) ae)))) (ah 3 cT (aa (ab 0) (aa (ab 1) (aa (fC (.int 1)) ae)))))))))
def bb:List D->Option D:=aV nv 3
def eX:ao->Option Out:=(ar (k8 (ah 1 bB (aa (ab 0) ae))) (d5 (bG (fB (ah 2 bb (aa (ab 0) (aa (ab 1) ae))))) DL dC))
def cK:List D->Option D:=aV eX 2
abbrev p8:List Str:=["world","ways"]
def fA:ao->Option Out:=(ar (aD 1 [0] (f2 aw (ab 0) (fC (.int 2)))) (aE (bc (qb [1] (aa (aS aX (aa (ab 1) ae)) ae) (aJ (aa (f2 aw (f2 aw (ab 1) (ab 0)) (fC (.int 1))) (aa (f2 aw (f2 aw (ab 1) (ab 0)) (fC (.int 0))) ae)))))))
def bg:List D->Option D:=aV fA 2
def pE:ao->Option Out:=(ar (k8 (ah 1 bB (aa (ab 0) ae))) (ar (aQ 1 [0] (aj 1 [0] (aB (ah 1 bg (aa (ab 0) ae))) (fG 0) (λ_=>some true) (f2 aw (f2 aw (ab 1) (fC (.int 2))) (ab 0)))) (aE (aJ (aa (f2 aw (ab 0) (fC (.int 1))) (aa (f2 aw (ab 0) (fC (.int 0))) (aa (aS bS (aa (bc (aj 3 [] (aB (ab 1)) (Hs 0 1 2) (λ_=>some true) (aJ (aa (ab 1) (aa (ab 0) (aa (ab 2) ae)))))) ae)) ae)))))))
def eh:List D->Option D:=aV pE 2
def gu:ao->Option Out:=(ar (k8 (ah 2 cK (aa (ab 0) (aa (ab 1) ae)))) (aE (aS bS (aa (bc (aj 1 [1] (aB (ah 1 bg (aa (ab 0) ae))) (fG 0) (λ_=>some true) (f2 aw (ab 1) (ab 0)))) ae))))
def cS:List D->Option D:=aV gu 2
def ib:ao->Option Out:=(ar (aD 4 [0,2,3] (f2 aw (f2 aw (f2 aw (ab 0) (fC (.int 2))) (ab 3)) (ab 2))) (ar (d5 (fB (f2 Ic (ah 4 cy (aa (ab 0) (aa (ab 1) (aa (ab 2) (aa (ab 4) ae))))) (f2 aw (f2 aw (f2 aw (ab 0) (ab 2)) (ab 4)) (fC (.int 0))))) (aE (fC (.bool true))) dC) (ar (aD 5 [0,2,4] (ah 3 fj (aa (ab 0) (aa (ab 2) (aa (ab 4) ae))))) (ar (aD 6 [3,5] (dw b0 (ab 5) (nK (f2 aA (f2 oh (ab 5) (ab 3)) (fC (.int 1)))) eu)) (aE (aS Rf.G8 (aa (bc (aj 1 [1] (aB (ab 6)) (fG 0) (λ_=>some true) (f2 si (f2 aw (ab 1) (ab 0)) (fC (.int 0))))) ae)))))))
def cM:List D->Option D:=aV ib 7
def lC:ao->Option Out:=(ar (d5 (fB (f2 bo (f2 aw (ab 1) (ab 2)) (f2 aw (f2 aw (f2 aw (ab 0) (fC (.int 2))) (ab 2)) (fC (.int 2))))) (aE (fC (.str "full"))) dC) (ar (d5 (bG (fB (ah 4 cM (aa (ab 0) (aa (ab 1) (aa (fC (.int 0)) (aa (ab 2) ae))))))) (aE (fC (.str "giver"))) dC) (ar (d5 (bG (fB (ah 4 cM (aa (ab 0) (aa (ab 1) (aa (fC (.int 1)) (aa (ab 2) ae))))))) (aE (fC (.str "taker"))) dC) (aE (fC .none)))))
def fy:List D->Option D:=aV lC 3
def eL:ao->Option Out:=(ar (cP [1] (bQ (aa (aS aX (aa (ab 1) ae)) ae)) (kn 2) (d5 (fB (f2 rf (ah 3 fy (aa (ab 0) (aa (ab 1) (aa (ab 2) ae)))) (fC .none))) (aE (ab 2)) dC)) (aE (fC .none)))
def aW:List D->Option D:=aV eL 3
def lD:ao->Option Out:=(aE (f2 rf (ah 2 aW (aa (ab 0) (aa (ab 1) ae))) (fC .none)))
def lx:List D->Option D:=aV lD 2
def nS:ao->Option Out:=(aE (aS qq (aa (bc (aj 2 [2,3] (eS (aa (ab 1) (aa (f2 aw (ab 0) (fC (.int 2))) ae))) (hC 0 1) (fB (f2 bo (f2 aw (ab 1) (ab 2)) (ab 3))) (ab 0))) ae)))
def c9:List D->Option D:=aV nS 4
def jz:ao->Option Out:=(ar (cP [] (bQ (aa (fC (.int 2)) ae)) (kn 2) (cP [0,2] (bf (aa (f2 aw (ab 0) (ab 2)) ae)) (fS 3 4) (d5 (fB (f2 si (ah 4 c9 (aa (ab 0) (aa (ab 1) (aa (ab 2) (aa (ab 3) ae))))) (f2 aw (ab 4) (fC (.int 0))))) (aE (fC (.bool false))) dC))) (aE (fC (.bool true))))
def dk:List D->Option D:=aV jz 5
def iR:ao->Option Out:=(ar (aD 3 [] (aJ ae)) (ar (cP [2] (bf (aa (f2 aw (ab 2) (fC (.int 2))) ae)) (fS 4 5) (ar (aD 6 [0,1,3,4,5] (f2 aA (ab 3) (aJ (aa (ah 3 aq (aa (ab 0) (aa (f2 aA (ab 1) (ab 4)) (aa (f2 aA (f2 aw (ab 5) (fC (.int 2))) (fC (.int 1))) ae)))) ae)))) (ar (aD 7 [2,6] (ah 2 dk (aa (ab 2) (aa (f2 aA (ab 6) (f2 dv (aJ (aa (fC (.int 0)) ae)) (f2 Dl.iz (aS aX (aa (f2 aw (ab 2) (fC (.int 2))) ae)) (aS aX (aa (ab 6) ae))))) ae)))) (aD 3 [3,6,7] (Hj (fB (ab 7)) (ab 6) (f2 aA (ab 3) (aJ (aa (fC (.int 0)) ae)))))))) (aE (ab 3))))
def eA:List D->Option D:=aV iR 8
def eV:ao->Option Out:=(ar (aD 1 [] (fC (.int 1))) (ar (cP [0] (aB (f2 aw (ab 0) (fC (.int 2)))) (kn 2) (aD 1 [1,2] (f2 dv (ab 1) (f2 aA (f2 aw (ab 2) (fC (.int 2))) (fC (.int 1)))))) (d5 (fB (f2 si (ab 1) (fC (.int 3000)))) DL dC)))
def ij:List D->Option D:=aV eV 3
def eI:ao->Option Out:=(ar (aQ 1 [] (dR (aa (aJ ae) ae))) (ar (cP [0] (aB (ab 0)) (kn 2) (ar (aQ 3 [] (dR ae)) (ar (cP [1] (aB (ab 1)) (kn 4) (tw 3 [2,4] (aj 1 [4] (bQ (aa (f2 aA (f2 aw (ab 2) (fC (.int 2))) (fC (.int 1))) ae)) (fG 0) (λ_=>some true) (f2 aA (ab 1) (aJ (aa (ab 0) ae)))))) (aD 1 [3] (ab 3))))) (aE (ab 1))))
def eK:List D->Option D:=aV eI 5
def jg:ao->Option Out:=(ar (k8 (ah 1 bB (aa (ab 0) ae))) (ar (k8 (ah 1 ij (aa (ab 0) ae))) (aE (bc (aj 1 [0] (aB (ah 1 eK (aa (f2 aw (ab 0) (fC (.int 2))) ae))) (fG 0) (fB (ah 2 bb (aa (ab 1) (aa (ab 0) ae)))) (ab 0))))))
def jf:List D->Option D:=aV jg 1
def i4:ao->Option Out:=(aE (bc (aj 1 [0] (aB (ah 1 jf (aa (ab 0) ae))) (fG 0) (fB (ah 2 lx (aa (ab 1) (aa (ab 0) ae)))) (ab 0))))
def iZ:List D->Option D:=aV i4 1
open PySem L2 Dl PySem.Spec PyProof.Rows Ex
end Pg
namespace Ex
open PySem Dl
end Ex
namespace Pg
open PySem L2 Dl PySem.Spec PyProof.Rows Ex
def cW:ao->Option Out:=(aE (f2 aw (bc (aj 1 [1] (aB (ah 3 fj (aa (ab 0) (aa (ab 2) (aa (ab 3) ae))))) (fG 0) (fB (f2 si (f2 aw (ab 1) (ab 0)) (fC (.int 0)))) (ab 0))) (f1 lI (fC (.int 1)))))
def ck:List D->Option D:=aV cW 4
def uW:ao->Option Out:=(ar (aD 3 [1,2] (ah 3 cH (aa (ab 1) (aa (ab 2) (aa (f2 aA (f2 aw (ab 1) (ab 2)) (fC (.int 1))) ae))))) (ar (cP [] (aB (aJ (aa (fC (.int 0)) (aa (fC (.int 1)) ae)))) (kn 4) (ar (aD 5 [0,2,4] (f2 aw (f2 aw (f2 aw (ab 0) (fC (.int 2))) (ab 2)) (ab 4))) (d5 (fB (f2 bo (ah 4 cy (aa (ab 0) (aa (ab 1) (aa (ab 4) (aa (ab 5) ae))))) (f2 aw (f2 aw (f2 aw (ab 0) (ab 4)) (ab 5)) (fC (.int 0))))) (ar (aD 6 [0,1,4,5] (ah 4 ck (aa (ab 0) (aa (ab 1) (aa (ab 4) (aa (ab 5) ae)))))) (aD 3 [3,6] (ah 3 cH (aa (ab 3) (aa (ab 6) (aa (f2 Dl.iz (f2 aw (ab 3) (ab 6)) (fC (.int 1))) ae)))))) dC))) (aE (ab 3))))
def c8:List D->Option D:=aV uW 7
def Lz:ao->Option Out:=(ar (k8 (ah 2 cK (aa (ab 0) (aa (ab 1) ae)))) (ar (aQ 2 [1] (dR (aa (ab 1) ae))) (ar (sE 3 1 (fC (.bool true))) (ar (aD 4 [0,1] (ah 2 aW (aa (ab 0) (aa (ab 1) ae)))) (ar (DU (fB (f2 lH (ab 4) (fC .none))) (ar (aD 5 [0,2,4] (ah 3 c8 (aa (ab 0) (aa (f2 aw (ab 2) (f1 lI (fC (.int 1)))) (aa (ab 4) ae))))) (ar (rN 5 3 (aE (ab 2)) dC) (ar (lK 2 [5] (ab 5)) (ar (rD 3 5 (fC (.bool true))) (aD 4 [0,5] (ah 2 aW (aa (ab 0) (aa (ab 5) ae)))))))) Rf.turns) (aE (ab 2)))))))
def sZ:List D->Option D:=aV Lz 6
open PySem L2 Dl Ex Rf PySem.Spec PyProof.Rows
def iJ:ao->Option Out:=(aE (f2 lO (fC (.str "")) (bc (aj 1 [] (aB (ab 0)) (fG 0) (λ_=>some true) (f2 fY (ab 0) (fC (.str "\n")))))))
def cm:List D->Option D:=aV iJ 1
def pU:ao->Option Out:=(ar (aD 1 [0] (bc (og bz (ab 0) (fC (.str "\n"))))) (ar (d5 (fB (f2 cO (f2 aw (ab 1) (f1 lI (fC (.int 1)))) (fC (.str "")))) DL dC) (aE (dw b0 (ab 1) eu (nK (f1 lI (fC (.int 1))))))))
def cX:List D->Option D:=aV pU 2
def rW:ao->Option Out:=(aE (f2 lO (fC (.str " ")) (bc (aj 1 [] (aB (ab 0)) (fG 0) (λ_=>some true) (aS Cv (aa (ab 0) ae))))))
def kh:List D->Option D:=aV rW 1
def nA:ao->Option Out:=(ar (d5 (ki (fB (f2 cO (aS nI (aa (ab 0) ae)) (fC (.int 1)))) (fB (f2 (λx y=>(Fp x y).map PyData.bool) (ab 0) (fC (.str "0123456789"))))) DL dC) (aE (f2 pC (fC (.str "0123456789")) (ab 0))))
def ej:List D->Option D:=aV nA 1
def mi:ao->Option Out:=(aE (aS bS (aa (bc (aj 1 [] (aB (ab 0)) (fG 0) (λ_=>some true) (ah 1 ej (aa (ab 0) ae)))) ae)))
def eZ:List D->Option D:=aV mi 1
def i8:ao->Option Out:=(ar (aD 2 [0] (f2 aw (ab 0) (fC (.int 0)))) (ar (aD 3 [0] (f2 aw (ab 0) (fC (.int 1)))) (aE (IF [(f1 Dm (ab 2)),(fC (.str " -")),(f1 Dm (ab 1)),(fC (.str "> ")),(f1 Dm (ab 3))] Str.empty))))
def bN:List D->Option D:=aV i8 4
def fI:ao->Option Out:=(aE (ah 1 cm (aa (bc (aj 2 [] (eS (aa (f2 aw (ab 0) (fC (.int 2))) (aa (ab 1) ae))) (hC 0 1) (fB (f2 si (ab 1) (fC (.int 0)))) (ah 2 bN (aa (ab 0) (aa (ab 1) ae))))) ae)))
def cD:List D->Option D:=aV fI 2
def nQ:ao->Option Out:=(ar (k8 (ah 2 cK (aa (ab 0) (aa (ab 1) ae)))) (aE (ah 2 cD (aa (ab 0) (aa (ab 1) ae)))))
def c6:List D->Option D:=aV nQ 2
def gy:ao->Option Out:=(ar (wR 1) (ar (cP [0] (bf (aa (f2 aw (ab 0) (fC (.int 2))) ae)) (fS 2 3) (cP [3] (j1 (aa (fC (.int 1)) (aa (f2 aA (f2 aw (ab 3) (fC (.int 2))) (fC (.int 1))) ae))) (kn 4) (w6 1 (ah 2 bN (aa (ab 3) (aa (ab 4) ae))) (aJ (aa (ab 2) (aa (ab 4) ae)))))) (aE (ab 1))))
def d0:List D->Option D:=aV gy 5
def iP:ao->Option Out:=(ar (k8 (ah 1 bB (aa (ab 0) ae))) (ar (aD 2 [0] (ah 1 d0 (aa (ab 0) ae))) (ar (aQ 3 [0] (aj 1 [] (aB (f2 aw (ab 0) (fC (.int 2)))) (fG 0) (λ_=>some true) (fC (.int 0)))) (ar (cP [1] (aB (ah 1 cX (aa (ab 1) ae))) (kn 4) (ar (d5 (fB (f2 Fz (ab 4) (ab 2))) DL dC) (ar (aD 5 [2,4] (f2 rV (ab 2) (ab 4))) (Dh 3 [5] (f2 aw (ab 5) (fC (.int 0))) (f2 aw (ab 5) (fC (.int 1))))))) (ar (aD 6 [3] (aS bS (aa (ab 3) ae))) (ar (d5 (ki (bG (fB (ah 2 bb (aa (ab 0) (aa (ab 6) ae))))) (fB (f2 cO (ah 2 cD (aa (ab 0) (aa (ab 6) ae))) (ab 1)))) DL dC) (aE (ab 6))))))))
def dh:List D->Option D:=aV iP 7
def nV:ao->Option Out:=(aE (Hj (fB (f2 bo (aS aX (aa (ab 0) ae)) (fC (.int 0)))) (fC (.str ".")) (ah 1 kh (aa (ab 0) ae))))
def b8:List D->Option D:=aV nV 1
def i3:ao->Option Out:=(aE (Hj (fB (f2 bo (ab 0) (fC (.str ".")))) (aJ ae) (ah 1 eZ (aa (bc (og bz (ab 0) (fC (.str " ")))) ae))))
def bh:List D->Option D:=aV i3 1
def nB:ao->Option Out:=(aE (aS gx (aa (bc (aj 1 [0] (aB (ab 1)) (fG 0) (λ_=>some true) (ah 2 bb (aa (ab 1) (aa (ab 0) ae))))) ae)))
def dg:List D->Option D:=aV nB 2
def jo:ao->Option Out:=(ar (k8 (ah 1 bB (aa (ab 0) ae))) (ar (d5 (ki (bG (fB (Jp "list" (ab 1)))) (bG (fB (ah 2 dg (aa (ab 0) (aa (ab 1) ae)))))) DL dC) (aE (ah 1 cm (aa (bc (aj 1 [] (aB (ab 1)) (fG 0) (λ_=>some true) (ah 1 b8 (aa (ab 0) ae)))) ae)))))
def aM:List D->Option D:=aV jo 2
def iQ:ao->Option Out:=(ar (k8 (ah 1 bB (aa (ab 0) ae))) (ar (aQ 2 [1] (aj 1 [] (aB (ah 1 cX (aa (ab 1) ae))) (fG 0) (λ_=>some true) (ah 1 bh (aa (ab 0) ae)))) (ar (d5 (bG (fB (ah 2 dg (aa (ab 0) (aa (ab 2) ae))))) DL dC) (aE (ab 2)))))
def bZ:List D->Option D:=aV iQ 3
abbrev rK:List Str:=["_law_script","_law_world_here","_law_rows","_law_quiet","_law_plans","_law_text","_law_cut","_law_other","_law_same"]
def j7:ao->Option Out:=(ar (aD 1 [0] (ah 3 cJ (aa (ab 0) (aa (fC (.int 0)) (aa (fC (.int 7)) ae))))) (ar (aD 2 [0,1] (ah 2 sZ (aa (ab 1) (aa (ah 3 eA (aa (ab 0) (aa (fC (.int 70)) (aa (ab 1) ae)))) ae)))) (ar (aD 3 [1] (ah 1 iZ (aa (ab 1) ae))) (ar (cP [2,3] (aB (aJ (aa (ab 2) (aa (ab 3) (aa (bc (og n6 (ab 2) (ab 3))) (aa (f1 BS (ab 2)) ae)))))) (kn 4) (ar (aD 5 [1,4] (ah 2 aM (aa (ab 1) (aa (ab 4) ae)))) (ar (d5 (ki (fB (f2 cO (ah 2 bZ (aa (ab 1) (aa (ab 5) ae))) (ab 4))) (fB (f2 cO (aS aX (aa (bc (og bz (ab 5) (fC (.str "\n")))) ae)) (f2 aA (aS aX (aa (ab 4) ae)) (fC (.int 1)))))) (aE (fC (.bool false))) dC) (ar (aD 6 [0,4] (ah 3 aq (aa (ab 0) (aa (fC (.int 80)) (aa (f2 aA (aS aX (aa (ab 4) ae)) (fC (.int 1))) ae))))) (ar (d5 (fB (f2 cO (f2 fY (ah 2 aM (aa (ab 1) (aa (dw b0 (ab 4) eu (nK (ab 6))) ae))) (ah 2 aM (aa (ab 1) (aa (dw b0 (ab 4) (nK (ab 6)) eu) ae)))) (ab 5))) (aE (fC (.bool false))) dC) (ar (d5 (fB (f2 cO (bc (aj 1 [1] (aB (dw b0 (bc (og bz (ab 5) (fC (.str "\n")))) eu (nK (f1 lI (fC (.int 1)))))) (fG 0) (fB (f2 cO (aS aX (aa (bc (og bz (ab 0) (fC (.str " ")))) ae)) (aS xa (aa (fC (.int 1)) (aa (aS aX (aa (f2 aw (ab 1) (fC (.int 2))) ae)) ae))))) (ab 0))) (bc (dR ae)))) (aE (fC (.bool false))) dC) (ar (aQ 7 [1,4] (aj 1 [1] (aB (ab 4)) (fG 0) (λ_=>some true) (ah 2 cS (aa (ab 1) (aa (ab 0) ae))))) (ar (d5 (fB (f2 cO (ah 2 bZ (aa (ah 1 eh (aa (ab 1) ae)) (aa (ah 2 aM (aa (ah 1 eh (aa (ab 1) ae)) (aa (ab 7) ae))) ae))) (ab 7))) (aE (fC (.bool false))) dC) (d5 (fB (f2 cO (bc (aj 1 [1] (aB (ab 4)) (fG 0) (λ_=>some true) (ah 2 dh (aa (ab 1) (aa (ah 2 c6 (aa (ab 1) (aa (ab 0) ae))) ae))))) (ab 4))) (aE (fC (.bool false))) dC))))))))) (ar (aD 8 [1,2,3] (f2 bo (ah 2 aM (aa (ab 1) (aa (ab 2) ae))) (ah 2 aM (aa (ab 1) (aa (ab 3) ae))))) (aE (f2 bo (ab 8) (f2 bo (ab 2) (ab 3)))))))))
def fq:List D->Option D:=aV j7 9
end Pg
namespace Rg0
open PySem L2 Dl Rf PySem.Spec PyProof.Rows
abbrev FT:=List (Str×Nat×(List D->Option D))
def Pt(st:Stmt):List Str:=((aK st).names.filter λy=>y.2 == .local || y.2 == .cell).map (·.1)
structure Ok(P:Program)(w:World)(K:W.Frag)(mg:Str->Option Value)(base:Heap)(is:List (Str×D))(j:Nat)(l:FT):Prop where
 of:pd P w K mg base j l
 oi:fN mg is
 ob:∀x∈dy,mg x=none
 os:∃h:Heap,K.In h/\h.Ns mainGlobals mg
section
variable {K:W.Frag}{st:Stmt}{l:FT}
def up(h:Ok P w K mg base is j l)(e:j<=k):Ok P w K mg base is k l:=⟨λx n m z=>(h.of x n m z).mono e,h.oi,h.ob,h.os⟩
def OM(h:Ok P w K mg base is j l)(F:GY P w K mg base j x n m):Ok P w K mg base is j ((x,n,m)::l):=⟨OT F h.of,h.oi,h.ob,h.os⟩
def Ra(h:Ok P w K mg base is j l)(D:iW K x st ps):HV K mg x st ps:=let ⟨_,a,b⟩:=h.os;D.mg a b
def Rp(h:Ok P w K mg base is j l)(D:nN K x st ps):MW K mg x st ps:=let ⟨_,a,b⟩:=h.os;D.mg a b
def fst(a:sc.kind=.function:=by kernel_rfl)(b:sc.isCoroutine=false:=by kernel_rfl)(c:sc.isGenerator=false:=by kernel_rfl)(d:N.Nodup:=by decide +kernel)(e:N.take P.length=P:=by kernel_rfl)(f:∀x∈P,sc.names.lookup x=some .local \/ sc.names.lookup x=some .cell:=by decide +kernel)(g:∀y∈sc.names,y.2≠.free:=by decide +kernel):d6 N P sc:=⟨a,b,c,d,e,f,g⟩
abbrev Qz(st:Stmt)(n:Nat):List Str:=(Pt st).take n
def on(st:Stmt)(D:iW K x st (Qz st n))(h:Ok P w K mg base is j l)(t:tW st (Pt st) ⟨l,is⟩ none=some g:=by kernel_rfl)(F:d6 (Pt st) (Qz st n) (aK st):=by exact fst)(e:(Qz st n).length=n:=by kernel_rfl)(e':(Pt st).length=k:=by kernel_rfl):Ok P w K mg base is (j+1) ((x,n,aV g k)::l):=by
 have:=OM (up h (Nat.le_succ j)) (Ro (Ra h D) F h.ob h.of h.oi t);rw[e,e'] at this;exact this
def ol(st:Stmt)(N:List Str)(q:Str)(D:nN K x st (N.take n))(h:Ok P w K mg base is j l)(t:tW st N ⟨l,is⟩ (some q)=some g:=by kernel_rfl)(F:d6 N (N.take n) (aK st):=by exact fst)(hq:x∈iV/\x++".<locals>."++"<lambda>"=q:=by decide +kernel)(e:(N.take n).length=n:=by kernel_rfl)(e':N.length=k:=by kernel_rfl):Ok P w K mg base is (j+4) ((x,n,aV g k)::l):=by
 have:=OM (up h (jU j 4)) (Q5 (Rp h D) F h.ob h.of h.oi hq t);rw[e,e'] at this;exact this
end
end Rg0
namespace K84
open PySem L2 Dl PySem.Spec PyProof.Rows
open Pg Rg0
abbrev gi:List (Str×D):=[("MOST_PLACES",.int 4),("MOST",.int 9),("MOST_LISTED",.int 3000),("DIGITS",.str "0123456789"),("POINT",.str ".")]
abbrev Ls:FT:=("_law_plan",3,eA)::("_law_fits",2,dk)::("_law_used",4,c9)::("_law_world",3,cJ)::("_law_orders",3,bO)::("_law_drawn",3,aq)::("_law_cell",2,d9)::("walk",2,sZ)::("pushed_on",3,c8)::("least_liked_used",4,ck)::("all_rests",1,iZ)::("all_plans",1,jf)::("within_limits",1,eK)::("check_many",1,ij)::("is_still",2,lx)::("first_leaving",2,aW)::("why_kept",3,fy)::("wants_more",4,cM)::("ways_of",3,fj)::("read_walk",2,bZ)::("walk_text",2,aM)::("are_plans",2,dg)::("plan_of_line",1,bh)::("plan_line",1,b8)::("read_plan",2,dh)::("known_lines",1,d0)::("plan_text",2,c6)::("written_plan",2,cD)::("flow_line",2,bN)::("numbers_of",1,eZ)::("number_of",1,ej)::("line_of",1,kh)::("lines_of",1,cX)::("text_of_lines",1,cm)::("turned_plan",2,cS)::("turned",1,eh)::("turned_order",1,bg)::("replaced",3,cH)::("check_plan",2,cK)::("check_world",1,bB)::("is_plan",2,bb)::("keeps_amounts",3,cT)::("through",4,cy)::("is_world",1,cC)::("liked_pairs",1,bA)::("are_parts",3,gn)::("is_way",3,jv)::("is_end",2,fx)::("are_likes",2,gg)::("is_long",3,bH)::("is_number",2,cG)::("is_whole",3,cg)::[]
def N3:Rf.tW (top 70) rK ⟨Ls,gi⟩ none=some j7:=by kernel_rfl
structure MF(K:W.Frag)(mg:Str->Option Value):Prop where
 o:∀P w base,Ok P w K mg base gi 58 Ls
 c:HV K mg "law" (top 70) ["_law_script"]
def NC{P:Program}{w:World}{K:W.Frag}{mg:Str->Option Value}{fa:Addr}(D:MF K mg)(hfa:mg "law"=some (.ref fa)):∃fd:FuncData,(∀ (s:Shared) (v:Value),BindsTo s fd ⟨[v],[]⟩ [("_law_script",v)])/\∀base:Heap,K.In base->base.Ns mainGlobals mg->pq P w K mg base NM 59 fa fd ["_law_script"] (Pa K 1 fq):=by
 let⟨f,fd,hm,F,hb⟩:=D.c.ex;rw[hfa] at hm;cases hm;refine⟨fd,λs v=>?_,λbase _ _=>Kv F (Rf.Rw (N:=rK)) λX hP hw hK hm' hb' C _ _ HF H=>by subst hP;subst hw;subst hK;subst hm';subst hb';have o:=D.o X.prog X.w X.base;exact Rf.Ky C o.ob o.of o.oi N3⟩;let⟨oc,od,kV,doc,pm,an,cdv,ct,osl,rfl,lk,hcd⟩:=F.ex;exact .of_eq rfl
def walk{l:W.OpenLaw}{q:Program}{loose:List Str}{XP:(Str->Option Value)->Heap->Prop}{YP:World->Heap->Prop}{d:DefRec}{K:Params->W.Frag}{ts:List Addr}(hn:l.most=some 63)(hdf:d.params.defaults=[])(hname:d.name="law")
  (hY:∀ (w:World) (h:Heap),YP w h->(K w.params).In h/\∀P∈ts,h.get? P=some (W.tabObj #[])) (ht:∀w:World,mr (K w.params) ts=true) (hI:∀ (w:World) {h:Heap}{mg:Str->Option Value},(K w.params).In h->h.Ns mainGlobals mg->MF (K w.params) mg) (main:∀ns:List Int,ns.length<=63->fq [.list (ns.map PyData.int)]=some (.bool true)) :
  W.WalkO q loose XP YP l.row.toRowW d [] (λf vs=>PySem.call f vs) :=
 F5 (n:=63) (k:=59) (x:="_law_script") (CX:=λ_=>NM) (sp:=λw=>Pa (K w.params) 1 fq) hn (by decide) hdf ⟨rfl,by decide,by decide⟩ hY ht (λw mg fa h KX G hmg=>NC (hI w KX G) (by rw[<- hname];exact hmg)) (λ_ _ a ns hl hT hS=>zg hS hT (main ns hl)) λ_ _ _ _ _ z=>z
end K84
namespace Dl
open PySem L2 PySem.Spec PyProof.Rows
def u6:D->Prop|.none=>True|.bool _=>True|.int _=>True|.str x=>PyData.canLay0 (.str x)=true|_=>False
def iG(b:Nat):Nat->D->Prop
 | 0,d=>u6 d
 | k+1,d=>u6 d\/(∃xs,(d=.list xs\/d=.tuple xs)/\xs.length<=b/\∀x∈xs,iG b k x)
def iG.leaf(h:u6 d):iG b k d:=by
 cases k with
 | zero=>exact h
 | succ k=>exact .inl h
def iG.tup(hb:xs.length<=b)(h:∀x∈xs,iG b k x):iG b (k+1) (.tuple xs):=.inr ⟨xs,.inr rfl,hb,h⟩
def iG.lst(hb:xs.length<=b)(h:∀x∈xs,iG b k x):iG b (k+1) (.list xs):=.inr ⟨xs,.inl rfl,hb,h⟩
def iG.of_tup(h:iG b k (.tuple xs)):∃j,k=j+1/\xs.length<=b/\∀x∈xs,iG b j x:=by
 cases k with
 | zero=>cases h
 | succ k =>
  rcases h with h|⟨ys,h|h,h1,h2⟩
  ·cases h
  ·cases h
  ·cases h;exact⟨k,rfl,h1,h2⟩
def iG.mono(hb:b<=b'):∀ {k k':Nat}{d:D},k<=k'->iG b k d->iG b' k' d
 | 0,k',d,_,h=>.leaf h
 | k+1,0,d,hk,h=>by lia
 | k+1,k'+1,d,hk,h=>by
  rcases h with h|⟨xs,h,h1,h2⟩
  ·exact .inl h
  ·exact .inr ⟨xs,h,yD h1 hb,λx hx=>(h2 x hx).mono hb (by lia)⟩
def B2{b:Nat}:∀ {xs:List D},(∀x∈xs,PyData.canLay0 x=true/\x.depth<=k)->PyData.canLayAll0 xs=true/\PyData.depthAll xs<=k
 | [],_=>⟨by simp[PyData.canLayAll0],by simp[PyData.depthAll]⟩
 | x::xs,h=>by
  let⟨a,c⟩:=B2 (b:=b) (xs:=xs) λy hy=>h y (zC _ hy);let⟨a',c'⟩:=h x zE;exact⟨by simp[PyData.canLayAll0,a,a'],by simp[PyData.depthAll];lia⟩
def iG.lay:∀ {k:Nat}{d:D},iG b k d->PyData.canLay0 d=true/\d.depth<=k:=by
 have lf:∀ {k:Nat}{d:D},u6 d->PyData.canLay0 d=true/\d.depth<=k:=λ{k d} h=>by
  cases d<;>simp?[u6] at h<;>first|exact⟨h,by simp[PyData.depth]⟩|exact⟨by simp[PyData.canLay0],by simp[PyData.depth]⟩
 intro k
 induction k with
 | zero=>exactλh=>lf h
 | succ k ih =>
  intro d h;rcases h with h|⟨xs,h,h1,h2⟩
  ·exact lf h
  ·let⟨a,c⟩:=B2 (b:=b) (xs:=xs) λy hy=>ih (h2 y hy);rcases h with rfl|rfl
   ·exact⟨by simp[PyData.canLay0,a],by simp[PyData.depth];lia⟩
   ·exact⟨by simp[PyData.canLay0,a],by simp[PyData.depth];lia⟩
def iG.shaped(h:iG b k d)(hk:k<=64):SeqAt.shaped d=true:=by
 let⟨a,c⟩:=h.lay;simp[SeqAt.shaped,a];lia
def iG.noDict(h:iG b k d):∀kv,d≠.dict kv:=by
 rintro kv rfl;have:=h.lay.1;simp[PyData.canLay0] at this
def nU:D->Bool|.dict _=>false|_=>true
def iG.nd(h:iG b k d):nU d=true:=by
 cases d<;>first|rfl|exact absurd rfl (h.noDict _)
def QU:D->Bool|.int _=>true|.bool _=>true|_=>false
def QL:D->Bool|.bool _=>true|_=>false
def K3:D->Bool|.tuple _=>true|_=>false
def kI(h:nU d=true):tO (gz d) "int"=some (QU d):=by cases d<;>first|cases h;done|exact J8 _ (by simp[gz])
def kB(h:nU d=true):tO (gz d) "bool"=some (QL d):=by cases d<;>first|cases h;done|exact G7 _ (by simp[gz])
def kT(h:nU d=true):tO (gz d) "tuple"=some (K3 d):=by cases d<;>first|cases h;done|exact kit_tuple _ (by simp[gz])
def whole(a b:Int):D->Bool|.int i=>decide (a<=i)&&decide (i<=b)|_=>false
def sF:∀ {ds:List D},(∀d∈ds,∃ρ',tgt ρ d=some ρ'/\te ρ'=some (h d))->aZ tgt (λ_=>some true) te ρ ds=some (ds.map h)
 | [],_=>rfl
 | d::ds,hh=>by
  let⟨ρ',h1,h2⟩:=hh d zE;have ih:=sF (ds:=ds) λy hy=>hh y (zC _ hy);unfold aZ;rw[h1];simp[h2,ih]
def lJ:∀ {ds:List D},(∀d∈ds,∃ρ',tgt ρ d=some ρ'/\tt ρ'=some (p d)/\(p d=true->te ρ'=some (h d)))->aZ tgt tt te ρ ds=some ((ds.filter p).map h)
 | [],_=>rfl
 | d::ds,hh=>by
  let⟨ρ',h1,h2,h3⟩:=hh d zE;have ih:=lJ (ds:=ds) λy hy=>hh y (zC _ hy);unfold aZ;rw[h1];simp?[zA,h2];cases hp:p d with
  | true=>rw[yL rfl,h3 hp];simp[ih,jW,hp]
  | false=>simp[ih,jW,hp]
def nC:∀ds:List D,boolsOf (ds.map λd=>.bool (p d))=some (ds.map p)
 | []=>rfl
 | d::ds=>by simp[boolsOf,nC ds]
def gO(ds:List D):gx [.list (ds.map λd=>.bool (p d))]=some (.bool (ds.all p)):=by
 simp?[gx,oneOf,zA,nC,zB,List.all_map];rfl
def bu(h:ds.length<=4000):small ds=some ds:=yL (yD h (by decide))
def lU{ds:List D}{i:Nat}(h:i < ds.length):oe ds (i:Nat)=some (ds.getD i .none):=by
 have:=BX (xs:=ds) (j:=i) (v:=ds[i]) (List.getElem?_eq_some_iff.mpr ⟨h,rfl⟩);rw[this];simp[List.getD,h]
def BB{ds:List D}(h:0 < ds.length):oe ds 0=some (ds.getD 0 .none):=lU (i:=0) h
def vz{ds:List D}(h:1 < ds.length):oe ds 1=some (ds.getD 1 .none):=lU (i:=1) h
def Kw{ds:List D}(h:2 < ds.length):oe ds 2=some (ds.getD 2 .none):=lU (i:=2) h
end Dl
namespace Wm
open PySem L2 Dl PySem.Spec PyProof.Rows Pg
variable {mo:Int}{i7 i5:Nat}{x5 x6:Slot}
def wV(ha:fa ρ=some (.int a))(hb:fb ρ=some (.int i))(hc:fc ρ=some (.int b)):jl Cf Cf fa fb fc ρ=some (.bool (decide (a<=i)&&decide (i<=b))):=by
 simp?[jl,ha,hb,hc,zA,Cf,uU,xH];by_cases h:a<=i<;>simp[h]
def oQ(i j:Int):Dl.iz (.int i) (.int j)=some (.int (i - j)):=rfl
def cQ(i j:Int):Dl.aA (.int i) (.int j)=some (.int (i+j)):=rfl
def tN(d:D):Slot.all (.val d)=some d:=rfl
def uS(ds:List D):Slot.all (.own ds)=some (.list ds):=rfl
def B0:Slot.all .non=none:=rfl
def AL(d:D):Slot.frz (.val d)=some d:=rfl
def Bh(ds:List D):Slot.frz (.own ds)=none:=rfl
def B4:Slot.frz .non=none:=rfl
local macro_rules|`(tactic| simp! [$ts,*])=>`(tactic| simp only[aV,ar,d5,aE,dC,ki,nY,bG,fB,gB,Jp,ab,fC,kj,Qm,Qg,OO,f1,f2,oQ,cQ,aa,ae,ah,aS,qy,aX,dI,oneOf,eN,aR,tN,uS,B0,AL,Bh,B4,aB,bc,bS,aJ,dR,aw,  zI,yU,xF,xO,zL,xK,List.replicate,xQ,yY,qG,kK,zA,Option.bind_none,zB,Option.map_none,Nat.reduceAdd,Nat.reduceSub,jD,Nat.sub_self,xH,reduceIte,$ts,*])
def iB(h:nU d=true)(a b:Int):cg [d,.int a,.int b]=some (.bool (whole a b d)):=by
 simp! [cg,pw,kI h,kB h];cases d<;>simp[QU,QL,whole];rw[wV rfl rfl rfl]
def iT(h:nU d=true)(n:Int):cG [d,.int n]=some (.bool (whole 0 (n - 1) d)):=by
 simp! [cG,nZ,iB h]
def long(a b:Int):D->Bool|.tuple ds=>decide (a<=(ds.length:Int))&&decide ((ds.length:Int)<=b)|_=>false
def dJ(h:nU d=true)(a b:Int):bH [d,.int a,.int b]=some (.bool (long a b d)):=by
 simp! [bH,rT,kT h];cases d<;>simp[K3,long];rw[wV rfl (i:=_) rfl rfl]
def gY:D->Int|.int i=>i|_=>0
def fg(h:whole a b d=true):d=.int (gY d)/\a<=gY d/\gY d<=b:=by
 cases d<;>simp[whole] at h;exact⟨rfl,h⟩
def lq:∀ {ls:List D},ls.all (whole a b)=true->ls=(ls.map gY).map PyData.int
 | [],_=>rfl
 | d::ls,h=>by
  rw[xS,zF] at h;rw[zI,zI,<- (fg h.1).1,<- lq h.2]
def hZ(n:Int):D->Bool|.tuple ls=>ls.all (whole 0 (n - 1))&&decide ((ls.map gY).Nodup)|_=>false
def cI(i j:Int):bo (.int i) (.int j)=some (.bool (decide (i=j))):=by
 simp[bo,KH,SeqAt.shaped,PyData.canLay0,PyData.depth,PyData.eqv];rfl
def DK(h:ls.all (whole a b)=true)(hl:ls.length<=100):f2 bo (f1 j8 (λ_=>some (.tuple ls))) (aS aX (aa (λ_=>some (.tuple ls)) ae)) []=some (.bool (decide ((ls.map gY).Nodup))):=by
 have e:=lq h;have e1:j8 (.tuple ls)=some (.int (many (ls.map gY))):=by
  simp?[j8,gc]
  conv=>lhs;rw[e]
  rw[bC,zA,yL];rw[zD];exact qZ (Nat.add_le_add_right hl 1) (by decide)
 simp! [e1,cI];have:=AF (ls.map gY);rw[zD] at this;simp?[<- this,Int.ofNat_inj,yK,PyData.bool.injEq]
def N0(r:Dl.Env)(d:D):fG 0 (none::r) d=some (some d::r):=by simp[fG,isFree]
def cw{cs:List Nat}(hfi:fi ρ=some ds)(hl:ds.length<=4000)(hh:∀d∈ds,te (some d::cs.map λj=>(ρ[j]?).getD none)=some (h d)):aj 1 cs fi (fG 0) (λ_=>some true) te ρ=some (ds.map h):=by
 simp?[aj,hfi,zA,dm,List.replicate,xF,xO];rw[sF (h:=h) λd hd=>⟨_,N0 _ d,hh d hd⟩,zA,bu (by rw[zD];exact hl)]
def lG{cs:List Nat}(hfi:fi ρ=some ds)(hl:ds.length<=4000)
  (hp:∀d∈ds,tt (some d::cs.map λj=>(ρ[j]?).getD none)=some (p d)) (hh:∀d∈ds,p d=true->te (some d::cs.map λj=>(ρ[j]?).getD none)=some (h d)):aj 1 cs fi (fG 0) tt te ρ=some ((ds.filter p).map h):=by
 simp?[aj,hfi,zA,dm,List.replicate,xF,xO];rw[lJ (p:=p) (h:=h) λd hd=>⟨_,N0 _ d,hp d hd,hh d hd⟩,zA,bu (by rw[zD];exact yD (xP _ _) hl)]
def xo(h:iG b k d)(hb:b<=100)(n:Int):gg [d,.int n]=some (.bool (hZ n d)):=by
 simp! [gg,nJ,kT h.nd];cases d<;>try (simp[K3,hZ];done)
 rename_i ls;let⟨j,rfl,hl,hf⟩:=h.of_tup;have c:=cw (cs:=[1]) (fi:=aB (ab 0)) (te:=(ah 2 cG (aa (ab 0) (aa (ab 1) ae)))) (h:=λx=>.bool (whole 0 (n - 1) x)) (ρ:=[some (.tuple ls),some (.int n)]) rfl (by lia) λx hx=>by simp! [iT (hf x hx).nd]
 simp! [K3,xY,yO,c,gO];cases e:ls.all (whole 0 (n - 1)) with
 | false=>simp[hZ,e]
 | true =>
  have:=DK e (yD hl hb);simp?[f2,f1,aS,aa,ae,zA,zB] at this;simp! [hZ,e,xY,yO,jK];simp?[aX,dI,oneOf,zA,eN,zB] at this;simp! [this]
def placeOk(n:Int):D->Bool|.tuple ds=>decide (ds.length=2)&&(whole 0 9 (ds.getD 0 .none)&&hZ n (ds.getD 1 .none))|_=>false
def iD(g t:Int):D->Bool|.tuple ds=>decide (ds.length=3)&&(whole 0 (g - 1) (ds.getD 0 .none)&&(whole 0 (t - 1) (ds.getD 1 .none)&&whole 1 9 (ds.getD 2 .none)))|_=>false
def tm(n:Nat)(ds:List D):long (n:Int) (n:Int) (.tuple ds)=decide (ds.length=n):=by
 simp?[long];by_cases h:ds.length=n
 ·simp[h]
 ·rw[zZ h,Bool.and_eq_false_iff,xB,xB];lia
def getD_mem{ds:List D}{i:Nat}(h:i < ds.length):ds.getD i .none∈ds:=by simp[List.getD,h]
def vi{b:Nat}(h:iG b k d)(hb:b<=100)(n:Int):fx [d,.int n]=some (.bool (placeOk n d)):=by
 simp! [fx,wa,dJ h.nd];cases d<;>try (simp[long,placeOk];done)
 rename_i ds;let⟨j,rfl,hl,hf⟩:=h.of_tup;rw[show long 2 2 (.tuple ds)=decide (ds.length=2) from tm 2 ds];by_cases e:ds.length=2
 ·have f0:=hf _ (getD_mem (i:=0) (by lia));have f1:=hf _ (getD_mem (i:=1) (by lia));simp! [e,jP,BB (show 0 < ds.length by lia),vz (show 1 < ds.length by lia),iB f0.nd,xo f1 hb,placeOk];cases whole 0 9 (ds.getD 0 .none)<;>simp
 ·simp[e,placeOk]
def Eu{b:Nat}(h:iG b k d)(hb:b<=100)(g t:Int):jv [d,.int g,.int t]=some (.bool (iD g t d)):=by
 simp! [jv,wQ,dJ h.nd];cases d<;>try (simp[long,iD];done)
 rename_i ds;let⟨j,rfl,hl,hf⟩:=h.of_tup;rw[show long 3 3 (.tuple ds)=decide (ds.length=3) from tm 3 ds];by_cases e:ds.length=3
 ·have f0:=hf _ (getD_mem (i:=0) (by lia));have f1:=hf _ (getD_mem (i:=1) (by lia));have f2':=hf _ (getD_mem (i:=2) (by lia));simp! [e,jP,xY,yO,BB (show 0 < ds.length by lia),vz (show 1 < ds.length by lia),Kw (show 2 < ds.length by lia),iB f2'.nd,iT f0.nd,iT f1.nd,iD];cases whole 0 (g - 1) (ds.getD 0 .none)<;>cases whole 0 (t - 1) (ds.getD 1 .none)<;>simp
 ·simp[e,iD]
def cE:D->List D|.tuple ds=>ds|_=>[]
def mN(d:D):Bool:=long 1 4 d
def iy(g t w:D):Bool:=mN g&&(mN t&&((cE g).all (placeOk (cE t).length)&&((cE t).all (placeOk (cE g).length)&&(K3 w&&(cE w).all (iD (cE g).length (cE t).length)))))
def jj(h:long a b d=true):d=.tuple (cE d):=by cases d<;>first|rfl|cases h
def nO(hg:iG b k g)(ht:iG b k t)(hw:iG b k w)(hb:b<=100):gn [g,t,w]=some (.bool (iy g t w)):=by
 simp! [gn,nR,dJ hg.nd,dJ ht.nd,kT hw.nd];unfold iy mN;cases e1:long 1 4 g with
 | false=>simp
 | true =>
  cases e2:long 1 4 t with
  | false=>simp
  | true =>
   obtain⟨gs,rfl⟩:∃gs,g=.tuple gs:=⟨_,jj e1⟩
   obtain⟨ts,rfl⟩:∃ts,t=.tuple ts:=⟨_,jj e2⟩
   let⟨j,rfl,hgl,hgf⟩:=hg.of_tup;let⟨j',hj,htl,htf⟩:=ht.of_tup;have c1:=cw (cs:=[1]) (fi:=aB (ab 0)) (te:=(ah 2 fx (aa (ab 0) (aa (aS aX (aa (ab 1) ae)) ae)))) (h:=λx=>.bool (placeOk ts.length x)) (ρ:=[some (.tuple gs),some (.tuple ts),some w]) rfl (by lia) λx hx=>by simp! [vi (hgf x hx) hb]
   have c2:=cw (cs:=[0]) (fi:=aB (ab 1)) (te:=(ah 2 fx (aa (ab 0) (aa (aS aX (aa (ab 1) ae)) ae)))) (h:=λx=>.bool (placeOk gs.length x)) (ρ:=[some (.tuple gs),some (.tuple ts),some w]) rfl (by lia) λx hx=>by simp! [vi (htf x hx) hb]
   simp! [xY,yO,c1,gO,cE,jK];cases e3:gs.all (placeOk ts.length) with
   | false=>simp
   | true =>
    simp! [xY,yO,c2,gO,jK];cases e4:ts.all (placeOk gs.length) with
    | false=>simp
    | true =>
     cases hT:K3 w with
     | false=>simp! [xY,yO,kT hw.nd,hT,vU,Bool.and_false]
     | true =>
     obtain⟨ws,rfl⟩:∃ws,w=.tuple ws:=by cases w<;>first|exact⟨_,rfl⟩|cases hT
     let⟨j2,hj2,hwl,hwf⟩:=hw.of_tup;have c3:=cw (cs:=[0,1]) (fi:=aB (ab 2)) (te:=(ah 3 jv (aa (ab 0) (aa (aS aX (aa (ab 1) ae)) (aa (aS aX (aa (ab 2) ae)) ae))))) (h:=λx=>.bool (iD gs.length ts.length x)) (ρ:=[some (.tuple gs),some (.tuple ts),some (.tuple ws)]) rfl (by lia) λx hx=>by simp! [Eu (hwf x hx) hb]
     simp! [xY,yO,c3,gO,jK,kT hw.nd,K3]
def qg:∀ (a b:List Int),PyData.eqvAll (a.map PyData.int) (b.map PyData.int)=decide (a=b)
 | [],[]=>by simp[PyData.eqvAll]
 | [],_::_=>by simp[PyData.eqvAll]
 | _::_,[]=>by simp[PyData.eqvAll]
 | i::a,j::b=>by
  rw[zI,zI,PyData.eqvAll,qg a b];by_cases h:i=j
  ·subst h;simp[PyData.eqv]
  ·simp[PyData.eqv,h]
def qj:∀ (a b:List (List Int)),PyData.eqvAll (a.map ag) (b.map ag)=decide (a=b)
 | [],[]=>by simp[PyData.eqvAll]
 | [],_::_=>by simp[PyData.eqvAll]
 | _::_,[]=>by simp[PyData.eqvAll]
 | x::a,y::b=>by
  rw[zI,zI,PyData.eqvAll,qj a b,ag,ag,PyData.eqv,qg];by_cases h:x=y
  ·subst h;simp
  ·simp[h]
def lV(i:Int):iG b k (.int i):=.leaf trivial
def A3(h:r.length<=b):iG b (k+1) (ag r):=.tup (by rw[zD];exact h) λx hx=>by
 let⟨i,_,rfl⟩:=List.mem_map.mp hx;exact lV i
def Gr{b k:Nat}{a:List (List Int)}(h:a.length<=b)(hr:∀r∈a,r.length<=b):iG b (k+2) (.list (a.map ag)):=.lst (by rw[zD];exact h) λx hx=>by
 let⟨r,hr',rfl⟩:=List.mem_map.mp hx;exact A3 (hr r hr')
def CU(a:List (List Int)):∃b,a.length<=b/\∀r∈a,r.length<=b:=by
 induction a with
 | nil=>exact⟨0,yM _,λr h=>by cases h⟩
 | cons x a ih =>
  let⟨b,h1,h2⟩:=ih;refine⟨b+1+x.length,by rw[zL];lia,λr hr=>?_⟩;rcases List.mem_cons.mp hr with rfl|hr
  ·lia
  ·have:=h2 r hr;lia
def nF(a:List (List Int)):SeqAt.shaped (.list (a.map ag))=true:=by
 let⟨b,h1,h2⟩:=CU a;exact (Gr (b:=b) (k:=0) h1 h2).shaped (by decide)
def so(a b:List (List Int)):bo (.list (a.map ag)) (.list (b.map ag))=some (.bool (decide (a=b))):=by
 simp?[bo,KH,nF,jO,xH,PyData.eqv,qj,zB]
def jq(d:D):List Int:=(cE ((cE d).getD 1 .none)).map gY
def iu(h:placeOk n d=true):∃a ds,d=.tuple ds/\ds.length=2/\ds.getD 0 .none=.int a/\0<=a/\a<=9/\ds.getD 1 .none=.tuple ((jq d).map PyData.int)/\(jq d).Nodup/\∀j∈jq d,0<=j/\j<=n - 1:=by
 cases d<;>simp?[placeOk] at h<;>try cases h
 rename_i ds;simp?[zF,zJ] at h;let⟨h1,h2,h3⟩:=h;have e:jq (.tuple ds)=(cE (ds.getD 1 .none)).map gY:=rfl;rw[e];generalize hl:ds.getD 1 .none=l at h3;cases l<;>simp?[hZ] at h3<;>try cases h3
 rename_i ls;simp?[zF,zJ] at h3;let⟨w1,w2,w3⟩:=fg h2;refine⟨_,ds,rfl,h1,w1,w2,w3,?_,h3.2,λj hj=>?_⟩
 ·rw[show cE (.tuple ls)=ls from rfl,<- lq h3.1];exact hl
 ·let⟨x,hx,rfl⟩:=List.mem_map.mp hj;exact (fg (List.all_eq_true.mp h3.1 x hx)).2
def lF(k:Nat):List D->List (List Int)|[]=>[]|p::ps=>(jq p).map (λj=>[((k:Nat):Int),j])++lF (k+1) ps
def pD:∀ (n:Nat) {l:List Int},l.Nodup->(∀j∈l,0<=j/\j<=(n:Int) - 1)->l.length<=n:=by
 intro n l hn h;have hs:l.map Int.toNat ⊆ List.range n:=λx hx=>by
  let⟨j,hj,rfl⟩:=List.mem_map.mp hx;have:=h j hj;exact List.mem_range.mpr (by lia)
 have hnd:(l.map Int.toNat).Nodup:=by
  refine List.pairwise_map.mpr (hn.imp_of_mem λ{x y} hx hy hne e=>hne ?_);have:=h x hx;have:=h y hy;lia
 have:=List.Nodup.length_le_of_subset hnd hs;simpa using this
def tZ{n:Nat}:∀ {ps:List D}{k:Nat},(∀p∈ps,placeOk n p=true)->(lF k ps).length<=ps.length * n
 | [],k,_=>xV _
 | p::ps,k,h=>by
  let⟨_,_,_,_,_,_,_,_,hn,hr⟩:=iu (h p zE);have h1:=pD n hn hr;have h2:=tZ (ps:=ps) (k:=k+1) λq hq=>h q (zC _ hq);rw[lF,zN,zD,zL,Nat.succ_mul];lia
def pB:ao->Option Out:=tw 1 [2,3] (aj 1 [2] (aB (f2 aw (ab 3) (fC (.int 1)))) (fG 0) (λ_=>some true) (aJ (aa (ab 1) (aa (ab 0) ae))))
def Mw{n:Nat}{p:D}{acc:List D}(hp:placeOk n p=true)(hn:n<=100)(ha:acc.length<=1000):pB [.val x,.own acc,.val (.int (k:Nat)),.val p]=some (.nx [.val x,.own (acc++((jq p).map λj=>ag [((k:Nat):Int),j])),.val (.int (k:Nat)),.val p]):=by
 let⟨a,ds,rfl,hl,_,_,_,h1,hnd,hr⟩:=iu hp;have hb:=pD n hnd hr;generalize jq (.tuple ds)=ls at *;have c:=cw (cs:=[2]) (fi:=aB (f2 aw (ab 3) (fC (.int 1)))) (te:=aJ (aa (ab 1) (aa (ab 0) ae))) (h:=λy=>.tuple [.int (k:Nat),y]) (ρ:=[some x,none,some (.int (k:Nat)),some (.tuple ds)]) (ds:=ls.map PyData.int)
  (by simp! [vz (show 1 < ds.length by lia),h1]) (by rw[zD];lia) λy hy=>by
   simp! [bu (show [PyData.int (k:Nat),y].length<=4000 by simp)]
 have hh:hand [2,3] 0 [Slot.val x,.own acc,.val (.int (k:Nat)),.val (.tuple ds)]=[Slot.val x,.own acc,.val (.int (k:Nat)),.val (.tuple ds)]:=rfl;simp?[pB,tw,hh,ba,zI,yU,Slot.frz,c,zA,mv,yY,xQ];rw[yL]
 ·simp?[zB,yW,yV,zM];rfl
 ·simp?[zD];exact yD (show acc.length+ls.length<=1100 by lia) (by decide)
def sR{n:Nat}(hn:n<=100):∀ {ps:List D}{k:Nat}{acc:List D}{s2 s3:Slot},(∀p∈ps,placeOk n p=true)->acc.length+ps.length * n<=1000 ->
  ∃t2 t3,cf (fS 2 3) pB (br k ps) [.val x,.own acc,s2,s3]=some (.nx [.val x,.own (acc++(lF k ps).map ag),t2,t3])
 | [],k,acc,s2,s3,_,_=>⟨s2,s3,by simp[br,cf,lF]⟩
 | p::ps,k,acc,s2,s3,h,hl=>by
  have hp:=h p zE;let⟨_,_,_,_,_,_,_,_,hnd,hr⟩:=iu hp;have hb:=pD n hnd hr;rw[zL,Nat.succ_mul] at hl;let⟨t2,t3,e⟩:=sR hn (x:=x) (ps:=ps) (k:=k+1) (acc:=acc++((jq p).map λj=>ag [((k:Nat):Int),j])) (s2:=.val (.int (k:Nat))) (s3:=.val p) (λq hq=>h q (zC _ hq)) (by rw[zN,zD];lia);refine⟨t2,t3,?_⟩;have hs:fS 2 3 [.val x,.own acc,s2,s3] (.tuple [.int (k:Nat),p])=some [.val x,.own acc,.val (.int (k:Nat)),.val p]:=rfl;simp?[br,cf,hs,zA,Mw hp hn (show acc.length<=1000 by lia)];rw[e];simp[lF,zM,wL]
def AN{n:Nat}{ps:List D}(h:∀p∈ps,placeOk n p=true)(hn:n<=100)(hl:ps.length * n<=1000):bA [.tuple ps]=some (.list ((lF 0 ps).map ag)):=by
 let⟨t2,t3,e⟩:=sR hn (x:=.tuple ps) (k:=0) (acc:=[]) (s2:=.non) (s3:=.non) h (by simpa using hl);have hs:aQ 1 [] (dR ae) [Slot.val (.tuple ps),.non,.non,.non]=some (.nx [.val (.tuple ps),.own [],.non,.non]):=rfl;have hh:hand [0] 0 [Slot.val (.tuple ps),.own [],.non,.non]=[Slot.val (.tuple ps),.own [],.non,.non]:=rfl;have hf:bf (aa (ab 0) ae) (ba [Slot.val (.tuple ps),.own [],.non,.non])=some (br 0 ps):=rfl;simp! [bA,k5,hs,cP,hh,hf];rw[show tw 1 [2,3] (aj 1 [2] (aB (f2 aw (ab 3) (fC (.int 1)))) (fG 0) (λ_=>some true) (aJ (aa (ab 1) (aa (ab 0) ae))))=pB from rfl,e];simp! []
def eM(d:D):List Int:=[gY ((cE d).getD 0 .none),gY ((cE d).getD 1 .none)]
def zp(h:iD g t d=true):∃ds c,d=.tuple ds/\ds.length=3/\ds.getD 0 .none=.int (gY (ds.getD 0 .none))/\ds.getD 1 .none=.int (gY (ds.getD 1 .none))/\ds.getD 2 .none=.int c/\1<=c/\c<=9 /\
  0<=gY (ds.getD 0 .none)/\gY (ds.getD 0 .none)<=g - 1/\0<=gY (ds.getD 1 .none)/\gY (ds.getD 1 .none)<=t - 1:=by
 cases d<;>simp?[iD] at h<;>try cases h
 rename_i ds;simp?[zF,zJ] at h;let⟨h1,h2,h3,h4⟩:=h;have a:=fg h2;have b:=fg h3;have c:=fg h4;exact⟨ds,_,rfl,h1,a.1,b.1,c.1,c.2.1,c.2.2,a.2.1,a.2.2,b.2.1,b.2.2⟩
def yp(g t w:D):Bool:=decide ((cE w).map eM=qp (lF 0 (cE g)))&&decide ((cE w).map eM=qp ((lF 0 (cE t)).map List.reverse))
def PB(d:D):Bool:=long 3 3 d&&(iy ((cE d).getD 0 .none) ((cE d).getD 1 .none) ((cE d).getD 2 .none)&&yp ((cE d).getD 0 .none) ((cE d).getD 1 .none) ((cE d).getD 2 .none))
def ka:∀ {ps:List D}{k:Nat},∀r∈lF k ps,∃i j,r=[i,j]
 | [],k,r,h=>by cases h
 | p::ps,k,r,h=>by
  rcases List.mem_append.mp h with h|h
  ·let⟨j,_,rfl⟩:=List.mem_map.mp h;exact⟨_,_,rfl⟩
  ·exact ka r h
def lZ(h:∀r∈a,∃i j,r=[i,j])(hl:a.length < 64):fZ [.list (a.map ag)]=some ((qp a).map ag):=by
 have:∀ns∈a,ns≠[]:=λns hn=>by let⟨i,j,rfl⟩:=h ns hn;exact List.cons_ne_nil _ _
 simp?[fZ,oneOf,zA,k6 this,yL hl]
def rR:∀ {a:List (List Int)},(∀r∈a,∃i j,r=[i,j])->aZ (hC 0 1) (λ_=>some true) (aJ (aa (ab 1) (aa (ab 0) ae))) [none,none] (a.map ag)=some ((a.map List.reverse).map ag)
 | [],_=>rfl
 | r::a,h=>by
  let⟨i,j,rfl⟩:=h r zE;have ih:=rR (a:=a) λq hq=>h q (zC _ hq);have e:hC 0 1 [none,none] (ag [i,j])=some [some (.int i),some (.int j)]:=rfl;rw[zI,aZ,e,zA,zA,yL rfl,ih];simp! [bu (show [PyData.int j,.int i].length<=4000 by simp)];rfl
def DC{a:List (List Int)}(hfi:fi ρ=some (a.map ag))(hl:a.length<=4000)(h:∀r∈a,∃i j,r=[i,j]):aj 2 [] fi (hC 0 1) (λ_=>some true) (aJ (aa (ab 1) (aa (ab 0) ae))) ρ=some ((a.map List.reverse).map ag):=by
 simp?[aj,hfi,zA,dm,List.replicate,xF,xO,yU];rw[rR h,zA,bu (by rw[zD,zD];exact hl)]
def xp(h:iy g t w=true):∃gs ts ws,g=.tuple gs/\t=.tuple ts/\w=.tuple ws/\1<=gs.length/\gs.length<=4/\1<=ts.length/\ts.length<=4/\(∀p∈gs,placeOk ts.length p=true)/\(∀p∈ts,placeOk gs.length p=true)/\∀x∈ws,iD gs.length ts.length x=true:=by
 simp?[iy,mN,zF] at h;let⟨h1,h2,h3,h4,h5,h6⟩:=h;cases w<;>try cases h5
 rename_i ws;have e1:=jj h1;have e2:=jj h2;generalize cE g=gs at *;generalize cE t=ts at *;subst e1 e2;simp?[long,zF,zJ] at h1 h2;exact⟨gs,ts,ws,rfl,rfl,rfl,by lia,by lia,by lia,by lia,List.all_eq_true.mp h3,List.all_eq_true.mp h4,List.all_eq_true.mp h6⟩
def zk{b:Nat}(h:iG b k d)(hb:b<=100):cC [d]=some (.bool (PB d)):=by
 unfold PB;cases e1:long 3 3 d with
 | false=>simp! [cC,ix,dJ h.nd,e1,Bool.not_false,vU]
 | true =>
  obtain⟨ds,rfl⟩:∃ds,d=.tuple ds:=⟨_,jj e1⟩
  let⟨j,rfl,hl,hf⟩:=h.of_tup;rw[show long 3 3 (.tuple ds)=decide (ds.length=3) from tm 3 ds,zJ] at e1;have f0:=hf _ (getD_mem (i:=0) (by lia));have f1:=hf _ (getD_mem (i:=1) (by lia));have f2':=hf _ (getD_mem (i:=2) (by lia));have i0:=BB (show 0 < ds.length by lia);have i1:=vz (show 1 < ds.length by lia);have i2:=Kw (show 2 < ds.length by lia);have el:bH [.tuple ds,.int 3,.int 3]=some (.bool true):=by rw[dJ rfl,show long 3 3 (.tuple ds)=decide (ds.length=3) from tm 3 ds,yA e1]
  rw[show cE (.tuple ds)=ds from rfl,jK];generalize hg:ds.getD 0 .none=g at *;generalize ht:ds.getD 1 .none=t at *;generalize hw:ds.getD 2 .none=w at *;cases e2:iy g t w with
  | false=>simp! [cC,ix,el,i0,i1,i2,nO f0 f1 f2' hb,e2,Bool.not_false,xY,vU]
  | true =>
   let⟨gs,ts,ws,rfl,rfl,rfl,g1,g4,t1,t4,hG,hT,hW⟩:=xp e2;have hfw:=f2'.of_tup;let⟨j2,_,hwl,_⟩:=hfw;have q1:=tZ (k:=0) hG;have q2:=tZ (k:=0) hT;have m1:gs.length * ts.length<=16:=vS g4 t4;have m2:ts.length * gs.length<=16:=vS t4 g4;have l1:=AN hG (by lia) (by lia);have l2:=AN hT (by lia) (by lia);have s1:=lZ (a:=lF 0 gs) ka (by lia);have s2:=lZ (a:=(lF 0 ts).map List.reverse) (λr hr=>by
    let⟨q,hq,rfl⟩:=List.mem_map.mp hr;let⟨i,j,rfl⟩:=ka q hq;exact⟨j,i,rfl⟩) (by rw[zD];lia)
   have c1:aj 1 [] (aB (f2 aw (ab 0) (fC (.int 2)))) (fG 0) (λ_=>some true) (aJ (aa (f2 aw (ab 0) (fC (.int 0))) (aa (f2 aw (ab 0) (fC (.int 1))) ae))) [some (.tuple ds),none,none,none]=some ((ws.map eM).map ag):=by
    rw[cw (ds:=ws) (h:=λx=>ag (eM x)) (by simp! [i2]) (by lia) λx hx=>?_,zM]
    ·rfl
    ·let⟨vs,c,rfl,v3,v0,v1,_⟩:=zp (hW x hx);simp! [BB (show 0 < vs.length by lia),vz (show 1 < vs.length by lia),bu (show [vs.getD 0 PyData.none,vs.getD 1 .none].length<=4000 by simp),ag,eM,cE];rw[<- v0,<- v1]
   have c2:∀x y z,aj 2 [] (aB (ah 1 bA (aa (f2 aw (ab 0) (fC (.int 1))) ae))) (hC 0 1) (λ_=>some true) (aJ (aa (ab 1) (aa (ab 0) ae))) [some (.tuple ds),x,y,z]=some (((lF 0 ts).map List.reverse).map ag):=λx y z =>
    DC (by simp! [i1,l2]) (by lia) ka
   have st1:aQ 1 [0] (aj 1 [] (aB (f2 aw (ab 0) (fC (.int 2)))) (fG 0) (λ_=>some true) (aJ (aa (f2 aw (ab 0) (fC (.int 0))) (aa (f2 aw (ab 0) (fC (.int 1))) ae)))) [Slot.val (.tuple ds),.non,.non,.non]=some (.nx [.val (.tuple ds),.own ((ws.map eM).map ag),.non,.non]):=by
    have hh:hand [0] 0 [Slot.val (.tuple ds),.non,.non,.non]=[Slot.val (.tuple ds),.non,.non,.non]:=rfl;simp?[aQ,hh,ba,zI,yU,Slot.frz,c1,zB,yW,yV]
   have st2:aQ 2 [0] (qy fZ (aa (ah 1 bA (aa (f2 aw (ab 0) (fC (.int 0))) ae)) ae)) [Slot.val (.tuple ds),.own ((ws.map eM).map ag),.non,.non]=some (.nx [.val (.tuple ds),.own ((ws.map eM).map ag),.own ((qp (lF 0 gs)).map ag),.non]):=by
    have hh:hand [0] 0 [Slot.val (.tuple ds),.own ((ws.map eM).map ag),.non,.non]=[Slot.val (.tuple ds),.own ((ws.map eM).map ag),.non,.non]:=rfl;simp?[aQ,hh,ba,zI,yU,Slot.frz];simp! [i0,l1,s1,yW,yV]
   have st3:aQ 3 [0] (qy fZ (aa (bc (aj 2 [] (aB (ah 1 bA (aa (f2 aw (ab 0) (fC (.int 1))) ae))) (hC 0 1) (λ_=>some true) (aJ (aa (ab 1) (aa (ab 0) ae))))) ae)) [Slot.val (.tuple ds),.own ((ws.map eM).map ag),.own ((qp (lF 0 gs)).map ag),.non]
      =some (.nx [.val (.tuple ds),.own ((ws.map eM).map ag),.own ((qp (lF 0 gs)).map ag),.own ((qp ((lF 0 ts).map List.reverse)).map ag)]):=by
    have hh:hand [0] 0 [Slot.val (.tuple ds),.own ((ws.map eM).map ag),.own ((qp (lF 0 gs)).map ag),.non]=[Slot.val (.tuple ds),.own ((ws.map eM).map ag),.own ((qp (lF 0 gs)).map ag),.non]:=rfl;simp?[aQ,hh,ba,zI,yU,Slot.frz];simp! [c2,s2,yW,yV]
   simp! [cC,ix,el,i0,i1,i2,nO f0 f1 f2' hb,e2,xY,yO,st1,st2,st3,so,yp,cE,jK];by_cases hq:List.map eM ws=qp (lF 0 gs)<;>simp[hq]
def AE(xs:List D):PyData.eqvAll xs []=xs.isEmpty:=by cases xs<;>simp[PyData.eqvAll]
def Av:SeqAt.shaped (.list [])=true:=by simp[SeqAt.shaped,PyData.canLay0,PyData.canLayAll0,PyData.depth,PyData.depthAll]
def FQ(h:∀x∈xs,iG b k x)(hk:k<=60):bo (.list xs) (.list [])=some (.bool xs.isEmpty):=by
 have hs:SeqAt.shaped (.list xs)=true:=(iG.lst (b:=max b xs.length) (k:=k) (Nat.le_max_right _ _) λx hx=>(h x hx).mono (Nat.le_max_left _ _) (yM _)).shaped (by lia);simp?[bo,KH,hs,Av,jO,xH,PyData.eqv,AE,zB]
def gZ:small []=some []:=rfl
def uX(xs:List α)(k:Nat):cut xs none (some (k:Int))=xs.take k:=by
 simp?[cut,HT.vy,HT.BA,List.drop_zero,Nat.sub_zero];rw[List.take_eq_take_iff];lia
def xi(xs:List α)(k:Nat):cut xs (some (k:Int)) none=xs.drop k:=by
 simp?[cut,HT.vy,HT.BA];rw[kG (by rw[qH];lia)];by_cases h:k<=xs.length
 ·rw[Nat.min_eq_left h]
 ·rw[Nat.min_eq_right (by lia),List.drop_of_length_le (yM _),List.drop_of_length_le (by lia)]
def gh(b:Bool):gB (.bool b)=some b:=rfl
def Aq(a b:D):small [a,b]=some [a,b]:=rfl
def md:∀ (ρ:ao) (k:Nat),hand [] k ρ=ρ
 | [],k=>rfl
 | s::r,k=>by simp[hand,md r]
def oP:∀ {ps:List D}{k:Nat}{i j:Int},[i,j]∈lF k ps↔∃m p,ps[m]?=some p/\i=((k+m:Nat):Int)/\j∈jq p
 | [],k,i,j=>by simp[lF]
 | p::ps,k,i,j=>by
  rw[lF,List.mem_append,oP (ps:=ps)];constructor
  ·rintro (h|⟨m,q,h1,h2,h3⟩)
   ·let⟨y,hy,e⟩:=List.mem_map.mp h;injection e with e1 e2
    injection e2 with e2 _
    exact⟨0,p,rfl,by simpa using e1.symm,e2 ▸ hy⟩
   ·exact⟨m+1,q,by simpa using h1,by rw[h2];congr 1;lia,h3⟩
  ·rintro⟨m,q,h1,h2,h3⟩;cases m with
   | zero =>
    simp at h1;subst h1;exact .inl (List.mem_map.mpr ⟨j,h3,by rw[h2];rfl⟩)
   | succ m=>exact .inr ⟨m,q,by simpa using h1,by rw[h2];congr 1;lia,h3⟩
def rO:∀ {ps:List D}{k:Nat},(∀p∈ps,(jq p).Nodup)->(lF k ps).Nodup
 | [],k,_=>List.nodup_nil
 | p::ps,k,h=>by
  rw[lF,wK];refine⟨List.pairwise_map.mpr ((h p zE).imp λhne e=>hne ?_),rO λq hq=>h q (zC _ hq),?_⟩;rotate_left
  ·injection e with _ e2
   injection e2
  ·rintro a ha b hb rfl;let⟨y,hy,rfl⟩:=List.mem_map.mp ha;let⟨m,q,h1,h2,h3⟩:=oP.mp hb;lia
def OE(h:Dl.lexLt a b=true):lexLe a b=true:=by
 unfold lexLe;cases e:Dl.lexLt b a with
 | false=>rfl
 | true=>have:=dX h e;rw[fJ] at this;cases this
def dz(h:rg i j):Dl.dv (.int i) (.int j)=some (.int (i * j)):=by
 simp?[Dl.dv,uU,yL h,Option.some_or]
def gT(h:0 < j):Dl.kl (.int i) (.int j)=some (.int (i % j)):=yL h
def iU(h:0 < j/\j < 1073741824):Dl.lM (.int i) (.int j)=some (.int (i / j)):=yL h
def dB(i j:Int):Dl.si (.int i) (.int j)=some (.bool (decide (j < i))):=rfl
def oG(i j:Int):Dl.Ic (.int i) (.int j)=some (.bool (decide (i < j))):=rfl
def lb(h:-(2 ^ 64) < i/\i < 2 ^ 64):rg i j:=.inl h
def Ml(h:-(2 ^ 64) < j/\j < 2 ^ 64):rg i j:=.inr h
def xj(i:Int):Dl.je (.int i)=true:=rfl
def xt(i:List D):Dl.je (.tuple i)=false:=rfl
def bY(ns:List Int):D:=.list (ns.map PyData.int)
def Nl(k:Int)(hl:ns.length<=63):∃c,d9 [bY ns,.int k]=some (.int c):=by
 have heq:bo (.list (ns.map PyData.int)) (.list [])=some (.bool ns.isEmpty):=by
  have:=FQ (b:=0) (k:=0) (xs:=ns.map PyData.int) (λx hx=>by let⟨i,_,rfl⟩:=List.mem_map.mp hx;exact lV i) (by decide);rw[this];cases ns<;>rfl
 by_cases hn:ns=[]
 ·subst hn;refine⟨7 * k,?_⟩;rw[yU,List.isEmpty_nil] at heq;simp! [d9,iX,bY,gZ,heq,List.isEmpty_nil,dz (lb (i:=7) (j:=k) (by decide))]
 ·have hpos:(0:Int) < (ns.length:Int):=by have:=List.length_pos_iff.mpr hn;lia
  have he:ns.isEmpty=false:=by cases ns<;>first|rfl|exact absurd rfl hn
  let⟨j,hj⟩:=vG (vP k (show (ns.length:Int)≠0 by lia));have hlt:=kW k hpos;have hx:oe (ns.map PyData.int) (k % (ns.length:Int))=some (.int (ns.getD j 0)):=by
   rw[hj];have:j < (ns.map PyData.int).length:=by rw[zD];lia
   rw[lU this,zG,zO,zG];rw[zK (by lia)];rfl
  refine⟨ns.getD j 0+6553 * (k / (ns.length:Int)),?_⟩;simp! [d9,iX,bY,gZ,heq,he,yO,zD,gT hpos,hx,iU (i:=k) (j:=(ns.length:Int)) ⟨hpos,by lia⟩,dz (lb (i:=6553) (j:=k / (ns.length:Int)) (by decide))]
def HM(k many:Int)(hl:ns.length<=63)(hm:0 < many):∃r,aq [bY ns,.int k,.int many]=some (.int r)/\0<=r/\r < many:=by
 let⟨c,hc⟩:=Nl k hl;have m1:∀i:Int,Dl.kl (.int i) (.int 2147483563)=some (.int (i % 2147483563)):=λi=>gT (by decide);have m2:∀i:Int,Dl.kl (.int i) (.int 2147483399)=some (.int (i % 2147483399)):=λi=>gT (by decide);have m3:∀i:Int,Dl.kl (.int i) (.int 2147483647)=some (.int (i % 2147483647)):=λi=>gT (by decide);have d1:∀i:Int,Dl.lM (.int i) (.int 3)=some (.int (i / 3)):=λi=>iU (by decide);have d2:∀i:Int,Dl.lM (.int i) (.int 7)=some (.int (i / 7)):=λi=>iU (by decide);have d3:∀i:Int,Dl.lM (.int i) (.int 11)=some (.int (i / 11)):=λi=>iU (by decide);have u1:∀i:Int,Dl.dv (.int i) (.int 69069)=some (.int (i * 69069)):=λi=>dz (Ml (by decide));have u2:∀i:Int,Dl.dv (.int 104723) (.int i)=some (.int (104723 * i)):=λi=>dz (lb (by decide));have b1:∀x:Int,Dl.dv (.int (x % 2147483563)) (.int (x % 2147483563))=some (.int (x % 2147483563 * (x % 2147483563))):=λx=>dz (lb (by
  have:=vP x (show (2147483563:Int)≠0 by decide);have:=kW x (show (0:Int) < 2147483563 by decide);lia))
 have b2:∀x:Int,Dl.dv (.int (x % 2147483399)) (.int (x % 2147483399))=some (.int (x % 2147483399 * (x % 2147483399))):=λx=>dz (lb (by
  have:=vP x (show (2147483399:Int)≠0 by decide);have:=kW x (show (0:Int) < 2147483399 by decide);lia))
 suffices h:∃x,aq [bY ns,.int k,.int many]=some (.int (x % many)) by
  let⟨x,hx⟩:=h;exact⟨_,hx,vP x (show many≠0 by lia),kW x hm⟩
 ·refine⟨(((((c % 2147483563 * 69069+104723 * (k+1)) % 2147483563) * ((c % 2147483563 * 69069+104723 * (k+1)) % 2147483563)+((c % 2147483563 * 69069+104723 * (k+1)) % 2147483563) / 3) % 2147483399) * ((((c % 2147483563 * 69069+104723 * (k+1)) % 2147483563) * ((c % 2147483563 * 69069+104723 * (k+1)) % 2147483563)+((c % 2147483563 * 69069+104723 * (k+1)) % 2147483563) / 3) % 2147483399)+((((c % 2147483563 * 69069+104723 * (k+1)) % 2147483563) * ((c % 2147483563 * 69069+104723 * (k+1)) % 2147483563)+((c % 2147483563 * 69069+104723 * (k+1)) % 2147483563) / 3) % 2147483399) / 7) % 2147483647 / 11,?_⟩;simp! [aq,lS,hc,m1,u1,u2,Dl.aD,xj,yW,yV,b1,d1,m2,b2,d2,m3,d3,gT (j:=many) hm]
def dr(ns:List Int)(k many:Int):Int:=gY ((aq [bY ns,.int k,.int many]).getD .none)
def eJ(k many:Int)(hl:ns.length<=63)(hm:0 < many):aq [bY ns,.int k,.int many]=some (.int (dr ns k many))/\0<=dr ns k many/\dr ns k many < many:=by
 let⟨r,h1,h2⟩:=HM k many hl hm;have:dr ns k many=r:=by simp?[dr,h1,qG,gY]
 rw[this];exact⟨h1,h2⟩
def sx(k many:Int)(hl:ns.length<=63)(hm:0 < many):aq [bY ns,.int k,.int many]=some (.int (dr ns k many)):=(eJ k many hl hm).1
def KU(k many:Int)(hl:ns.length<=63)(hm:0 < many):0<=dr ns k many:=(eJ k many hl hm).2.1
def K2(k many:Int)(hl:ns.length<=63)(hm:0 < many):dr ns k many < many:=(eJ k many hl hm).2.2
def bX(r:List Int):D:=.list (r.map PyData.int)
def insI(ds:List Int)(k:Int)(d:Int):List Int:=let j:=if k < 0 then (k+(ds.length:Int)).toNat else min k.toNat ds.length;ds.take j++d::ds.drop j
def CO(ds:List Int)(k d:Int):B8 (ds.map PyData.int) k (.int d)=(insI ds k d).map PyData.int:=by
 simp?[B8,insI,zD,jA,zI,List.map_take,List.map_drop]
def insI_perm(ds:List Int)(k d:Int):(insI ds k d).Perm (d::ds):=by
 simp?[insI];refine List.perm_middle.trans ?_;rw[List.take_append_drop]
def oB:ao->Option Out:=(D8 6 [8] (ah 3 aq (aa (ab 0) (aa (f2 aA (f2 aA (ab 1) (f2 dv (fC (.int 4)) (ab 4))) (ab 7)) (aa (f2 aA (aS aX (aa (ab 6) ae)) (fC (.int 1))) ae)))) (ab 8))
def L9{s3:Slot}(hl:ns.length<=63)(ho:order.length<=1000) :
  oB [.val (bY ns),.val (.int a),s2,s3,.val (.int k),s5,.own (order.map PyData.int),.val (.int j),.val (.int x)] =
   some (.nx [.val (bY ns),.val (.int a),s2,s3,.val (.int k),s5,.own ((insI order (dr ns (a+4 * k+j) ((order.length:Int)+1)) x).map PyData.int),.val (.int j),.val (.int x)]):=by
 have h4:Dl.dv (.int 4) (.int k)=some (.int (4 * k)):=dz (lb (by decide));have hd:=eJ (ns:=ns) (a+4 * k+j) ((order.length:Int)+1) hl (by lia);have hr:uy (dr ns (a+4 * k+j) ((order.length:Int)+1))=true:=by
  simp?[uy,zF,zJ];lia
 have hz:(order.map PyData.int).length < sizeLine:=by rw[zD];exact qZ ho (by decide)
 simp! [oB,D8,lW,xj,mv,zD,h4,hd.1];rw[zD] at hz;simp?[hr,hz,jO,xH,zB,CO,yW,yV]
def Ep{s3:Slot}(hl:ns.length<=63):∀ {row order:List Int}{j:Nat}{s7 s8:Slot},order.length+row.length<=1000 ->
  ∃ (o:List Int) (t7 t8:Slot),cf (fS 7 8) oB (br j (row.map PyData.int)) [.val (bY ns),.val (.int a),s2,s3,.val (.int k),s5,.own (order.map PyData.int),s7,s8] =
   some (.nx [.val (bY ns),.val (.int a),s2,s3,.val (.int k),s5,.own (o.map PyData.int),t7,t8])/\o.Perm (row++order)
 | [],order,j,s7,s8,_=>⟨order,s7,s8,by simp[br,cf],by simp⟩
 | x::row,order,j,s7,s8,h=>by
  rw[zL] at h;have hp:=insI_perm order (dr ns (a+4 * k+((j:Nat):Int)) ((order.length:Int)+1)) x;have hlen:=hp.length_eq;rw[zL] at hlen;let⟨o,t7,t8,e,p⟩:=Ep (s2:=s2) (s3:=s3) (s5:=s5) (a:=a) (k:=k) hl (row:=row) (order:=insI order (dr ns (a+4 * k+((j:Nat):Int)) ((order.length:Int)+1)) x) (j:=j+1) (s7:=.val (.int (j:Nat))) (s8:=.val (.int x)) (by lia);refine⟨o,t7,t8,?_,p.trans ?_⟩
  ·have hs:fS 7 8 [.val (bY ns),.val (.int a),s2,s3,.val (.int k),s5,.own (order.map PyData.int),s7,s8] (.tuple [.int (j:Nat),.int x])=some [.val (bY ns),.val (.int a),s2,s3,.val (.int k),s5,.own (order.map PyData.int),.val (.int (j:Nat)),.val (.int x)]:=rfl;simp?[zI,br,cf,hs,zA,L9 hl (show order.length<=1000 by lia),e]
  ·refine (hp.append_left row).trans ?_;rw[xF];exact List.perm_middle
def qh:List (List Int)->List (List Int)->Prop|[],[]=>True|a::l,b::m=>a.Perm b/\qh l m|_,_=>False
def rB:ao->Option Out:=(ar (aQ 6 [] (dR ae)) (ar (cP [5] (bf (aa (ab 5) ae)) (fS 7 8) oB) (lK 3 [6] (aS bS (aa (ab 6) ae)))))
def Nd(hl:ns.length<=63)(hr:row.length<=1000)(hf:found.length<=1000) :
  ∃ (o:List Int) (t7 t8:Slot),rB [.val (bY ns),.val (.int a),.val rows,.own found,.val (.int k),.val (bX row),s6,s7,s8]=some (.nx [.val (bY ns),.val (.int a),.val rows,.own (found++[ag o]),.val (.int k),.val (bX row),.val (bX o),t7,t8])/\o.Perm row:=by
 let⟨o,t7,t8,e,p⟩:=Ep (s2:=.val rows) (s3:=.own found) (s5:=.val (bX row)) (a:=a) (k:=k) hl (row:=row) (order:=[]) (j:=0) (s7:=s7) (s8:=s8) (by simpa using hr);rw[qF] at p;refine⟨o,t7,t8,?_,p⟩;have h1:aQ 6 [] (dR ae) [.val (bY ns),.val (.int a),.val rows,.own found,.val (.int k),.val (bX row),s6,s7,s8]=some (.nx [.val (bY ns),.val (.int a),.val rows,.own found,.val (.int k),.val (bX row),.own [],s7,s8]):=by
  simp?[aQ,md,dR,ae,zA,gZ,zB,yW,yV]
 have h2:cP [5] (bf (aa (ab 5) ae)) (fS 7 8) oB [.val (bY ns),.val (.int a),.val rows,.own found,.val (.int k),.val (bX row),.own [],s7,s8]=some (.nx [.val (bY ns),.val (.int a),.val rows,.own found,.val (.int k),.val (bX row),.own (o.map PyData.int),t7,t8]):=by
  have hh:hand [5] 0 [Slot.val (bY ns),.val (.int a),.val rows,.own found,.val (.int k),.val (bX row),.own [],s7,s8]=[Slot.val (bY ns),.val (.int a),.val rows,.own found,.val (.int k),.val (bX row),.own [],s7,s8]:=rfl;have hq:bf (aa (ab 5) ae) (ba [Slot.val (bY ns),.val (.int a),.val rows,.own found,.val (.int k),.val (bX row),.own [],s7,s8])=some (br 0 (row.map PyData.int)):=by
   simp?[ba,zI,yU];simp! [bf,bX]
  simp?[cP,hh,hq,zA];exact e
 have h3:lK 3 [6] (aS bS (aa (ab 6) ae)) [.val (bY ns),.val (.int a),.val rows,.own found,.val (.int k),.val (bX row),.own (o.map PyData.int),t7,t8]=some (.nx [.val (bY ns),.val (.int a),.val rows,.own (found++[ag o]),.val (.int k),.val (bX row),.val (bX o),t7,t8]):=by
  have hz:found.length < sizeLine:=qZ hf (by decide);have hh:hand [6] 0 [Slot.val (bY ns),.val (.int a),.val rows,.own found,.val (.int k),.val (bX row),.own (o.map PyData.int),t7,t8]=[Slot.val (bY ns),.val (.int a),.val rows,.own found,.val (.int k),.val (bX row),.val (bX o),t7,t8]:=rfl;simp?[lK,lW,hh,ba,zI,yU];simp! [xt,yO,mv,hz,yW,yV,bX,ag]
 simp?[rB,ar,h1,h2,h3,zA]
def Ey{rws:D}(hl:ns.length<=63):∀ {rows:List (List Int)}{found:List D}{k:Nat}{s4 s5 s6 s7 s8:Slot},(∀r∈rows,r.length<=1000)->found.length+rows.length<=1000 ->
  ∃ (os:List (List Int)) (t4 t5 t6 t7 t8:Slot),cf (fS 4 5) rB (br k (rows.map bX)) [.val (bY ns),.val (.int a),.val rws,.own found,s4,s5,s6,s7,s8]=some (.nx [.val (bY ns),.val (.int a),.val rws,.own (found++os.map ag),t4,t5,t6,t7,t8])/\qh os rows
 | [],found,k,s4,s5,s6,s7,s8,_,_=>⟨[],s4,s5,s6,s7,s8,by simp[br,cf],trivial⟩
 | r::rows,found,k,s4,s5,s6,s7,s8,h,hf=>by
  rw[zL] at hf;let⟨o,u7,u8,e1,p1⟩:=Nd (rows:=rws) (a:=a) (k:=((k:Nat):Int)) (s6:=s6) (s7:=s7) (s8:=s8) hl (h r zE) (show found.length<=1000 by lia);let⟨os,t4,t5,t6,t7,t8,e,p⟩:=Ey hl (rws:=rws) (a:=a) (rows:=rows) (found:=found++[ag o]) (k:=k+1) (s4:=.val (.int (k:Nat))) (s5:=.val (bX r)) (s6:=.val (bX o)) (s7:=u7) (s8:=u8) (λr' hr'=>h r' (zC _ hr')) (by rw[zN,xC];lia);refine⟨o::os,t4,t5,t6,t7,t8,?_,p1,p⟩;have hs:fS 4 5 [.val (bY ns),.val (.int a),.val rws,.own found,s4,s5,s6,s7,s8] (.tuple [.int (k:Nat),bX r])=some [.val (bY ns),.val (.int a),.val rws,.own found,.val (.int (k:Nat)),.val (bX r),s6,s7,s8]:=rfl;simp?[zI,br,cf,hs,zA,e1];rw[e,List.append_assoc];rfl
def xh(hl:ns.length<=63)(hr:∀r∈rows,r.length<=1000)(hn:rows.length<=1000):∃os:List (List Int),bO [bY ns,.int a,.list (rows.map bX)]=some (.list (os.map ag))/\qh os rows:=by
 let⟨os,t4,t5,t6,t7,t8,e,p⟩:=Ey hl (rws:=.list (rows.map bX)) (a:=a) (rows:=rows) (found:=[]) (k:=0) (s4:=.non) (s5:=.non) (s6:=.non) (s7:=.non) (s8:=.non) hr (by simpa using hn);refine⟨os,?_,p⟩;rw[xO] at e;have h1:aQ 3 [] (dR ae) [.val (bY ns),.val (.int a),.val (.list (rows.map bX)),.non,.non,.non,.non,.non,.non]=some (.nx [.val (bY ns),.val (.int a),.val (.list (rows.map bX)),.own [],.non,.non,.non,.non,.non]):=by
  simp?[aQ,md,dR,ae,zA,gZ,zB,yW,yV]
 have h2:cP [2] (bf (aa (ab 2) ae)) (fS 4 5) rB [.val (bY ns),.val (.int a),.val (.list (rows.map bX)),.own [],.non,.non,.non,.non,.non]=some (.nx [.val (bY ns),.val (.int a),.val (.list (rows.map bX)),.own (os.map ag),t4,t5,t6,t7,t8]):=by
  have hh:hand [2] 0 [Slot.val (bY ns),.val (.int a),.val (.list (rows.map bX)),.own [],.non,.non,.non,.non,.non]=[Slot.val (bY ns),.val (.int a),.val (.list (rows.map bX)),.own [],.non,.non,.non,.non,.non]:=rfl;have hq:bf (aa (ab 2) ae) (ba [Slot.val (bY ns),.val (.int a),.val (.list (rows.map bX)),.own [],.non,.non,.non,.non,.non])=some (br 0 (rows.map bX)):=by
   simp?[ba,zI,yU];simp! [bf]
  simp?[cP,hh,hq,zA];exact e
 unfold rB oB at h2;simp! [bO,k4,h1,h2]
abbrev Pl:=Int×List Int
abbrev Wy:=Int×Int×Int
def bx(p:Pl):D:=.tuple [.int p.1,ag p.2]
def ak(w:Wy):D:=.tuple [.int w.1,.int w.2.1,.int w.2.2]
def aC(G T:List Pl)(W:List Wy):D:=.tuple [.tuple (G.map bx),.tuple (T.map bx),.tuple (W.map ak)]
def Bv(W:List Wy)(i:Int):List Int:=(W.filter λw=>decide (w.1=i)).map λw=>w.2.1
def ofT(W:List Wy)(j:Int):List Int:=(W.filter λw=>decide (w.2.1=j)).map λw=>w.1
abbrev yd(W:List Wy):Prop:=W.Pairwise λa b=>a.1 < b.1\/(a.1=b.1/\a.2.1 < b.2.1)
structure Wd(G T:List Pl)(W:List Wy):Prop where
 g1:1<=G.length
 g4:G.length<=4
 t1:1<=T.length
 t4:T.length<=4
 ga:∀p∈G,0<=p.1/\p.1<=9
 ta:∀p∈T,0<=p.1/\p.1<=9
 gl:∀ (i:Nat) (p:Pl),G[i]?=some p->p.2.Perm (Bv W i)
 tl:∀ (j:Nat) (p:Pl),T[j]?=some p->p.2.Perm (ofT W j)
 wr:∀w∈W,(0<=w.1/\w.1 < G.length)/\(0<=w.2.1/\w.2.1 < T.length)/\1<=w.2.2/\w.2.2<=9
 wp:yd W
 wl:W.length<=16
def uf:j∈Bv W i↔[i,j]∈W.map λw=>[w.1,w.2.1]:=by
 simp?[Bv,List.mem_map,List.mem_filter,zJ,kP,and_true];constructor
 ·rintro⟨w,⟨h1,h2⟩,h3⟩;exact⟨w,h1,h2,h3⟩
 ·rintro⟨w,h1,h2,h3⟩;exact⟨w,⟨h1,h2⟩,h3⟩
def uj:i∈ofT W j↔[i,j]∈W.map λw=>[w.1,w.2.1]:=by
 simp?[ofT,List.mem_map,List.mem_filter,zJ,kP,and_true];constructor
 ·rintro⟨w,⟨h1,h2⟩,h3⟩;exact⟨w,h1,h3,h2⟩
 ·rintro⟨w,h1,h2,h3⟩;exact⟨w,⟨h1,h3⟩,h2⟩
def mG(h:yd W)(i:Int):(Bv W i).Nodup:=by
 unfold Bv List.Nodup;rw[jE,List.pairwise_filter];refine h.imp λhab ha hb=>?_;rw[zJ] at ha hb;lia
def nu(h:yd W)(i:Int):(ofT W i).Nodup:=by
 unfold ofT List.Nodup;rw[jE,List.pairwise_filter];refine h.imp λhab ha hb=>?_;rw[zJ] at ha hb;lia
def e9(p:Pl):jq (bx p)=p.2:=by
 show ((p.2.map PyData.int).map gY)=p.2;rw[zM];exact List.map_id _
def nH(ha:0<=p.1/\p.1<=9)(hn:p.2.Nodup)(hr:∀j∈p.2,0<=j/\j < n):placeOk n (bx p)=true:=by
 have e:(p.2.map PyData.int).map gY=p.2:=e9 p;have e2:(p.2.map PyData.int).all (whole 0 (n - 1))=true:=by
  rw[xG];intro x hx;let⟨j,hj,rfl⟩:=List.mem_map.mp hx;have:=hr j hj;simp?[whole,zF,zJ];lia
 simp?[placeOk,bx,ag,zL,xK,vV,vW,hZ,whole,e,e2,ha.1,ha.2,hn,jP,Bool.and_self]
def CJ(h:(0<=w.1/\w.1 < g)/\(0<=w.2.1/\w.2.1 < t)/\1<=w.2.2/\w.2.2<=9):iD g t (ak w)=true:=by
 let⟨⟨a,b⟩,⟨c,d⟩,e,f⟩:=h;have b':w.1<=g - 1:=by lia
 have d':w.2.1<=t - 1:=by lia
 simp?[iD,ak,zL,xK,vV,vW,whole,a,b',c,d',e,f,jP,Bool.and_self]
def QF(h:a < c\/(a=c/\b < d)):Dl.lexLt [a,b] [c,d]=true:=by
 show HT.lexLt [a,b] [c,d]=true;rw[HT.dP];by_cases e:a=c
 ·rw[yL e,HT.dP,yN (by lia)];simp?[zJ];lia
 ·rw[yN e];simp?[zJ];lia
def Wd.glike(h:Wd G T W)(hp:p∈G):∃i:Nat,i < G.length/\p.2.Perm (Bv W i):=by
 let⟨i,hi,e⟩:=qQ hp;exact⟨i,hi,h.gl i p (by rw[zK hi,e])⟩
def Wd.tlike(h:Wd G T W)(hp:p∈T):∃i:Nat,i < T.length/\p.2.Perm (ofT W i):=by
 let⟨i,hi,e⟩:=qQ hp;exact⟨i,hi,h.tl i p (by rw[zK hi,e])⟩
def Wd.gok(h:Wd G T W):(G.map bx).all (placeOk T.length)=true:=by
 rw[xG];intro x hx;let⟨p,hp,rfl⟩:=List.mem_map.mp hx;let⟨i,hi,q⟩:=h.glike hp;refine nH (h.ga p hp) (q.nodup_iff.mpr (mG h.wp _)) λj hj=>?_;let⟨w,hw,e⟩:=List.mem_map.mp (uf.mp (q.mem_iff.mp hj));injection e with e1 e2
 injection e2 with e2 _
 have:=(h.wr w hw).2.1;rw[e2] at this;exact this
def Wd.tok(h:Wd G T W):(T.map bx).all (placeOk G.length)=true:=by
 rw[xG];intro x hx;let⟨p,hp,rfl⟩:=List.mem_map.mp hx;let⟨i,hi,q⟩:=h.tlike hp;refine nH (h.ta p hp) (q.nodup_iff.mpr (nu h.wp _)) λj hj=>?_;let⟨w,hw,e⟩:=List.mem_map.mp (uj.mp (q.mem_iff.mp hj));injection e with e1 e2
 have:=(h.wr w hw).1;rw[e1] at this;exact this
def o7{W:List Wy}{p:Wy->Bool}(h:W.length<=16):(W.filter p).length<=16:=yD (xP _ _) h
def AZ(h:p.2.length<=16):iG 16 2 (bx p):=.tup (by simp?[zL,xK];lia) λx hx=>by
 rcases List.mem_cons.mp hx with rfl|hx
 ·exact lV _
 ·rw[yJ] at hx;subst hx;exact A3 h
def Je(w:Wy):iG 16 1 (ak w):=.tup (by simp?[zL,xK];lia) λx hx=>by
 simp?[zQ,yF,xU] at hx;rcases hx with rfl|rfl|rfl<;>exact lV _
def Wd.fit(h:Wd G T W):iG 16 4 (aC G T W):=by
 refine .tup (by simp?[zL,xK];lia) λx hx=>?_;simp?[zQ,yF,xU] at hx;have h4:=h.g4;have h5:=h.t4;have h6:=h.wl;rcases hx with rfl|rfl|rfl
 ·refine .tup (by rw[zD];lia) λx hx=>?_;let⟨p,hp,rfl⟩:=List.mem_map.mp hx;let⟨i,hi,q⟩:=h.glike hp;exact AZ (by rw[q.length_eq,Bv,zD];exact o7 h.wl)
 ·refine .tup (by rw[zD];lia) λx hx=>?_;let⟨p,hp,rfl⟩:=List.mem_map.mp hx;let⟨i,hi,q⟩:=h.tlike hp;exact AZ (by rw[q.length_eq,ofT,zD];exact o7 h.wl)
 ·refine .tup (by rw[zD];lia) λx hx=>?_;let⟨p,hp,rfl⟩:=List.mem_map.mp hx;exact (Je p).mono (yM _) (by decide)
def CG(h0:0<=c)(h9:c<=9):Wd [(c,[0,1]),(c,[1,0])] [(c,[1,0]),(c,[0,1])] [(0,0,2),(0,1,2),(1,0,2),(1,1,2)] where
 g1:=by simp?[zL,xK];lia
 g4:=by simp?[zL,xK];lia
 t1:=by simp?[zL,xK];lia
 t4:=by simp?[zL,xK];lia
 ga:=by intro p hp;simp?[zQ,yF,xU] at hp;rcases hp with rfl|rfl<;>exact⟨h0,h9⟩
 ta:=by intro p hp;simp?[zQ,yF,xU] at hp;rcases hp with rfl|rfl<;>exact⟨h0,h9⟩
 gl:=by
  intro i p hp
  match i,hp with
  | 0,hp=>injection hp with hp;subst hp;exact (show List.Perm ([0,1]:List Int) (Bv [(0,0,2),(0,1,2),(1,0,2),(1,1,2)] ((0:Nat):Int)) by decide)
  | 1,hp=>injection hp with hp;subst hp;exact (show List.Perm ([1,0]:List Int) (Bv [(0,0,2),(0,1,2),(1,0,2),(1,1,2)] ((1:Nat):Int)) by decide)
 tl:=by
  intro i p hp
  match i,hp with
  | 0,hp=>injection hp with hp;subst hp;exact (show List.Perm ([1,0]:List Int) (ofT [(0,0,2),(0,1,2),(1,0,2),(1,1,2)] ((0:Nat):Int)) by decide)
  | 1,hp=>injection hp with hp;subst hp;exact (show List.Perm ([0,1]:List Int) (ofT [(0,0,2),(0,1,2),(1,0,2),(1,1,2)] ((1:Nat):Int)) by decide)
 wr:=show ∀w∈([(0,0,2),(0,1,2),(1,0,2),(1,1,2)]:List Wy),(0<=w.1/\w.1 < ((2:Nat):Int))/\(0<=w.2.1/\w.2.1 < ((2:Nat):Int))/\1<=w.2.2/\w.2.2<=9 by decide
 wp:=by decide
 wl:=by decide
def iM(f:Nat->Int):Nat->List (List Int)->List Pl|_,[]=>[]|k,r::rs=>(f k,r)::iM f (k+1) rs
def gW(f:Nat->Int):∀ (rs:List (List Int)) (k:Nat),(iM f k rs).length=rs.length
 | [],k=>rfl
 | r::rs,k=>by rw[iM,zL,zL,gW f rs]
def gK(f:Nat->Int):∀ {rs:List (List Int)}{k i:Nat}{p:Pl},(iM f k rs)[i]?=some p->∃r,rs[i]?=some r/\p=(f (k+i),r)
 | [],k,i,p,h=>by simp[iM] at h
 | r::rs,k,0,p,h=>by simp[iM] at h;exact⟨r,rfl,h.symm⟩
 | r::rs,k,i+1,p,h=>by
  simp?[iM,yY] at h;let⟨y,h1,h2⟩:=gK f h;exact⟨y,by simpa using h1,by rw[h2];congr 2;lia⟩
def dQ:∀ {a b:List (List Int)},qh a b->a.length=b.length
 | [],[],_=>rfl
 | x::a,y::b,h=>by rw[zL,zL,dQ h.2]
 | [],_::_,h=>h.elim
 | _::_,[],h=>h.elim
def mK:∀ {a b:List (List Int)}{i:Nat}{r:List Int},qh a b->a[i]?=some r->∃s,b[i]?=some s/\r.Perm s
 | [],[],i,r,_,h=>by simp at h
 | x::a,y::b,0,r,h,e=>by
  simp?[xQ,yK] at e;subst e;exact⟨y,rfl,h.1⟩
 | x::a,y::b,i+1,r,h,e=>by
  simp?[yY] at e;let⟨s,h1,h2⟩:=mK h.2 e;exact⟨s,by simpa using h1,h2⟩
 | [],_::_,i,r,h,_=>h.elim
 | _::_,[],i,r,h,_=>h.elim
def kq(W:List Wy)(m:Nat):List (List Int):=(List.range m).map λi=>Bv W ((i:Nat):Int)
def iE(W:List Wy)(m:Nat):List (List Int):=(List.range m).map λi=>ofT W ((i:Nat):Int)
def IB(m1:1<=m)(m4:m<=4)(s1:1<=s)(s4:s<=4)(hf:∀k,0<=f k/\f k<=9)(hg:∀k,0<=g k/\g k<=9)
  (hm:qh mine (kq W m)) (hy:qh yours (iE W s)) (wr:∀w∈W,(0<=w.1/\w.1 < m)/\(0<=w.2.1/\w.2.1 < s)/\1<=w.2.2/\w.2.2<=9) (wp:yd W) (wl:W.length<=16):Wd (iM f 0 mine) (iM g 0 yours) W:=by
 have lm:(iM f 0 mine).length=m:=by rw[gW,dQ hm,kq,zD,zR]
 have ly:(iM g 0 yours).length=s:=by rw[gW,dQ hy,iE,zD,zR]
 have am:∀ {h:Nat->Int}{rs:List (List Int)},(∀k,0<=h k/\h k<=9)->∀p∈iM h 0 rs,0<=p.1/\p.1<=9:=λ{h rs} hh p hp=>by
  let⟨i,hi⟩:=List.mem_iff_getElem?.mp hp;let⟨r,_,rfl⟩:=gK h hi;exact hh _
 refine⟨by lia,by lia,by lia,by lia,am hf,am hg,λi p hp=>?_,λi p hp=>?_,by rw[lm,ly];exact wr,wp,wl⟩
 ·let⟨r,h1,rfl⟩:=gK f hp;let⟨t,h2,h3⟩:=mK hm h1;rw[kq,zO] at h2;let⟨k,hk,rfl⟩:=Option.map_eq_some_iff.mp h2;have:k=i:=by
   rw[zT] at hk;let⟨h,e⟩:=hk;rw[List.getElem_range] at e;exact e.symm
  subst this;exact h3
 ·let⟨r,h1,rfl⟩:=gK g hp;let⟨t,h2,h3⟩:=mK hy h1;rw[iE,zO] at h2;let⟨k,hk,rfl⟩:=Option.map_eq_some_iff.mp h2;have:k=i:=by
   rw[zT] at hk;let⟨h,e⟩:=hk;rw[List.getElem_range] at e;exact e.symm
  subst this;exact h3
def cL{i:Nat}{fz:List Nat}{f:Dl.Env->Option D}{ρ ρ':ao}{d:D}(hf:f (aR ρ)=some d)(hs:Dl.je d=false)(hh:hand fz 0 ρ=ρ')(hv:ba ρ'=aR ρ)(hr:fW d=false\/ρ'=ρ:=by first|exact .inr rfl|exact .inl rfl):Dl.aD i fz f ρ=some (.nx (ρ'.set i (.val d))):=by
 rcases hr with hr|hr
 ·simp?[Dl.aD,hf,zA,hs,yO,qP,hh,hv,zB,hr]
 ·subst hr;simp?[Dl.aD,hf,zA,hs,yO,qP,hh,hv,zB,ite_self]
def bq{i:Nat}{fz:List Nat}{f:Dl.Env->Option D}{ρ:ao}{d:D}(hf:f (aR ρ)=some d)(hs:Dl.je d=true):Dl.aD i fz f ρ=some (.nx (ρ.set i (.val d))):=by
 simp?[Dl.aD,hf,zA,hs,xH]
def FO(w:Wy):aw (ak w) (.int 0)=some (.int w.1):=rfl
def Ed(w:Wy):aw (ak w) (.int 1)=some (.int w.2.1):=rfl
def Ab(a b c:D):small [a,b,c]=some [a,b,c]:=rfl
def O5{a b s:Int}(hs:s=1\/s=2\/s=3)(h:a < b):a / s < b / s\/(a / s=b / s/\a % s < b % s):=by rcases hs with rfl|rfl|rfl<;>lia
def NJ{k m s:Int}(hs:s=1\/s=2\/s=3)(hm:m=1\/m=2\/m=3)(h0:0<=k)(h:k < m * s):(0<=k / s/\k / s < m)/\0<=k % s/\k % s < s:=by
 rcases hs with rfl|rfl|rfl<;>rcases hm with rfl|rfl|rfl<;>lia
def lB:ao->Option Out:=(d5 (nY (fB (f2 Ic (aS aX (aa (ab 7) ae)) (ab 2))) (fB (f2 si (ah 3 aq (aa (ab 0) (aa (f2 aA (f2 aA (ab 1) (fC (.int 2))) (ab 8)) (aa (fC (.int 4)) ae)))) (fC (.int 0))))) (lK 7 [0,1,6,8] (aJ (aa (f2 lM (ab 8) (ab 6)) (aa (f2 kl (ab 8) (ab 6)) (aa (f2 aA (fC (.int 1)) (ah 3 aq (aa (ab 0) (aa (f2 aA (f2 aA (ab 1) (fC (.int 12))) (ab 8)) (aa (fC (.int 2)) ae))))) ae))))) dC)
abbrev st(ns:List Int)(a mo m s:Int)(x4 x7 x8 x9 x10 x11:Slot):ao:=[.val (bY ns),.val (.int a),.val (.int mo),.non,x4,.val (.int m),.val (.int s),x7,x8,x9,x10,x11]
def JO(ns:List Int)(a mo s k:Int)(W:List Wy):List Wy:=if (W.length:Int) < mo/\0 < dr ns (a+2+k) 4 then W++[(k / s,k % s,1+dr ns (a+12+k) 2)] else W
def Lr{ns:List Int}{a mo m s k:Int}{W:List Wy}(hl:ns.length<=63)(hs:s=1\/s=2\/s=3)(hw:W.length<=9) :
  lB (st ns a mo m s .non (.own (W.map ak)) (.val (.int k)) .non .non .non)=some (.nx (st ns a mo m s .non (.own ((JO ns a mo s k W).map ak)) (.val (.int k)) .non .non .non)):=by
 have hs0:0 < s:=by lia
 have hz:W.length < sizeLine:=qZ hw (by decide);have hd:Dl.lM (.int k) (.int s)=some (.int (k / s)):=iU ⟨hs0,by lia⟩;have hm:Dl.kl (.int k) (.int s)=some (.int (k % s)):=gT hs0;have e4:=sx (ns:=ns) (a+2+k) 4 hl (by decide);have e2:=sx (ns:=ns) (a+12+k) 2 hl (by decide);have hh:hand [0,1,6,8] 0 (st ns a mo m s .non (.own (W.map ak)) (.val (.int k)) .non .non .non)=st ns a mo m s .non (.own (W.map ak)) (.val (.int k)) .non .non .non:=rfl;have ha:lK 7 [0,1,6,8] (aJ (aa (f2 lM (ab 8) (ab 6)) (aa (f2 kl (ab 8) (ab 6)) (aa (f2 aA (fC (.int 1)) (ah 3 aq (aa (ab 0) (aa (f2 aA (f2 aA (ab 1) (fC (.int 12))) (ab 8)) (aa (fC (.int 2)) ae))))) ae)))) (st ns a mo m s .non (.own (W.map ak)) (.val (.int k)) .non .non .non)=some (.nx (st ns a mo m s .non (.own ((W++[(k / s,k % s,1+dr ns (a+12+k) 2)]).map ak)) (.val (.int k)) .non .non .non)):=by
  simp?[lK,lW,hh,ba,zI,yU];simp! [xt,yO,mv,hd,hm,e2,Ab,zD,hz,yW,yV,jA];rfl
 by_cases c1:(W.length:Int) < mo
 ·by_cases c2:0 < dr ns (a+2+k) 4
  ·rw[show JO ns a mo s k W=W++[(k / s,k % s,1+dr ns (a+12+k) 2)] from yL ⟨c1,c2⟩,<- ha];simp! [lB,oG,dB,zD,c1,c2,jP,gh,e4]
  ·rw[show JO ns a mo s k W=W from yN λh=>c2 h.2];simp! [lB,oG,dB,zD,c1,c2,jP,wD,gh,e4,yO]
 ·rw[show JO ns a mo s k W=W from yN λh=>c1 h.1];simp! [lB,oG,dB,zD,c1,wD,gh,yO]
structure Dq(mo s k:Int)(W:List Wy):Prop where
 mem:∀w∈W,∃j:Int,0<=j/\j < k/\w.1=j / s/\w.2.1=j % s/\1<=w.2.2/\w.2.2<=2
 ris:yd W
 len:(W.length:Int)<=k
 lem:(W.length:Int)<=mo
def Dq.next{ns:List Int}{a mo s k:Int}{W:List Wy}(hl:ns.length<=63)(hs:s=1\/s=2\/s=3)(hk:0<=k)(h:Dq mo s k W):Dq mo s (k+1) (JO ns a mo s k W):=by
 have old:∀w∈W,∃j:Int,0<=j/\j < k+1/\w.1=j / s/\w.2.1=j % s/\1<=w.2.2/\w.2.2<=2:=λw hw=>by
  let⟨j,a,b,c⟩:=h.mem w hw;exact⟨j,a,by lia,c⟩
 by_cases c:(W.length:Int) < mo/\0 < dr ns (a+2+k) 4
 ·rw[show JO ns a mo s k W=W++[(k / s,k % s,1+dr ns (a+12+k) 2)] from yL c];have g1:=KU (ns:=ns) (a+12+k) 2 hl (by decide);have g2:=K2 (ns:=ns) (a+12+k) 2 hl (by decide);refine⟨λw hw=>?_,?_,?_,?_⟩
  ·rcases List.mem_append.mp hw with hw|hw
   ·exact old w hw
   ·rw[yJ] at hw;subst hw;exact⟨k,hk,by lia,rfl,rfl,by simp only;lia,by simp only;lia⟩
  ·refine List.pairwise_append.mpr ⟨h.ris,vF _ _,λa ha b hb=>?_⟩;rw[yJ] at hb;subst hb;let⟨j,_,b,c1,c2,_⟩:=h.mem a ha;rw[c1,c2];exact O5 hs b
  ·have:=h.len;rw[zN,xC];lia
  ·have:=c.1;rw[zN,xC];lia
 ·rw[show JO ns a mo s k W=W from yN c];exact⟨old,h.ris,by have:=h.len;lia,h.lem⟩
def EG{ns:List Int}{a mo m s:Int}(hl:ns.length<=63)(hs:s=1\/s=2\/s=3):∀ (n k:Nat) {W:List Wy}{x8:Slot},k+n<=9->Dq mo s k W ->
  ∃W' t8,cf (kn 8) lB ((List.range' k n).map λi=>PyData.int ((i:Nat):Int)) (st ns a mo m s .non (.own (W.map ak)) x8 .non .non .non)=some (.nx (st ns a mo m s .non (.own (W'.map ak)) t8 .non .non .non))/\(n=0/\t8=x8\/∃d,t8=.val d)/\Dq mo s ((k+n:Nat):Int) W'
 | 0,k,W,x8,hk,h=>⟨W,x8,rfl,.inl ⟨rfl,rfl⟩,h⟩
 | n+1,k,W,x8,hk,h=>by
  have h':Dq mo s ((k+1:Nat):Int) (JO ns a mo s k W):=by
   have:=h.next (ns:=ns) (a:=a) hl hs (by lia)
   rwa [show ((k:Int)+1)=((k+1:Nat):Int) by lia] at this
  let⟨W',t8,e,q,b⟩:=EG hl hs n (k+1) (W:=JO ns a mo s k W) (x8:=.val (.int (k:Nat))) (by lia) h';refine⟨W',t8,?_,.inr (q.elim (λz=>⟨_,z.2⟩) id),by rw[show k+(n+1)=k+1+n by lia];exact b⟩;have hsg:∀d,kn 8 (st ns a mo m s .non (.own (W.map ak)) x8 .non .non .non) d=some (st ns a mo m s .non (.own (W.map ak)) (.val d) .non .non .non):=λd=>rfl;rw[vD,zI,cf,hsg,zA,Lr hl hs (by have:=h.len;lia)];exact e
def Pm(W:List Wy)(i:Int)(hw:W.length<=20):aj 1 [0] (aB (ab 1)) (fG 0) (fB (f2 bo (f2 aw (ab 0) (fC (.int 0))) (ab 1))) (f2 aw (ab 0) (fC (.int 1))) [some (.int i),some (.list (W.map ak))]=some ((Bv W i).map PyData.int):=by
 rw[lG (ds:=W.map ak) (p:=λd=>decide (gY ((cE d).getD 0 .none)=i)) (h:=λd=>(cE d).getD 1 .none) rfl (by rw[zD];lia) (λd hd=>?_) λd hd _=>?_]
 ·rw[kE,zM,Bv,zM];rfl
 ·let⟨w,_,rfl⟩:=List.mem_map.mp hd;simp! [FO,cI,gh];rfl
 ·let⟨w,_,rfl⟩:=List.mem_map.mp hd;simp! [Ed];rfl
def Rt(W:List Wy)(i:Int)(hw:W.length<=20):aj 1 [0] (aB (ab 1)) (fG 0) (fB (f2 bo (f2 aw (ab 0) (fC (.int 1))) (ab 1))) (f2 aw (ab 0) (fC (.int 0))) [some (.int i),some (.list (W.map ak))]=some ((ofT W i).map PyData.int):=by
 rw[lG (ds:=W.map ak) (p:=λd=>decide (gY ((cE d).getD 1 .none)=i)) (h:=λd=>(cE d).getD 0 .none) rfl (by rw[zD];lia) (λd hd=>?_) λd hd _=>?_]
 ·rw[kE,zM,ofT,zM];rfl
 ·let⟨w,_,rfl⟩:=List.mem_map.mp hd;simp! [Ed,cI,gh];rfl
 ·let⟨w,_,rfl⟩:=List.mem_map.mp hd;simp! [FO];rfl
def oH{m:Nat}(hm:m<=1000):uy ((m:Nat):Int)=true:=by
 unfold uy;rw[zF,zJ,zJ];have h1:(0:Int)<=(m:Int):=Int.natCast_nonneg m;have h2:(m:Int)<=1000:=by lia
 exact⟨jT (by decide) h1,Int.lt_of_le_of_lt h2 (by decide)⟩
def va{j:Int}(h:uy j=true):k9 [.int j]=some ((List.range j.toNat).map λi=>PyData.int ((i:Nat):Int)):=by
 rw[k9,yL h]
def uz{fi:Dl.Env->Option D}{ρ:Dl.Env}(m:Nat)(hm:m<=1000)(h:fi ρ=some (.int (m:Nat))):bQ (aa fi ae) ρ=some ((List.range m).map λi=>PyData.int ((i:Nat):Int)):=by
 have e:aa fi ae ρ=some [.int ((m:Nat):Int)]:=by simp?[aa,ae,h,zA,zB]
 have e2:bQ (aa fi ae) ρ=(aa fi ae ρ).bind k9:=rfl;rw[e2,e,zA,va (oH hm),yG]
def Jo{W:List Wy}{m:Nat}{ρ:Dl.Env}(hw:W.length<=20)(hm:m<=1000)(h5:ab i5 ρ=some (.int (m:Nat)))(h7:(ρ[i7]?).getD none=some (.list (W.map ak))) :
  aj 1 [i7] (bQ (aa (ab i5) ae)) (fG 0) (λ_=>some true) (bc (aj 1 [0] (aB (ab 1)) (fG 0) (fB (f2 bo (f2 aw (ab 0) (fC (.int 0))) (ab 1))) (f2 aw (ab 0) (fC (.int 1))))) ρ=some ((kq W m).map bX):=by
 rw[cw (h:=λd=>bX (Bv W (gY d))) (uz m hm h5) (by rw[zD,zR];lia) λd hd=>?_]
 ·rw[kq,zM,zM];rfl
 ·let⟨i,_,rfl⟩:=List.mem_map.mp hd;simp?[zI,yU,h7,bc,Pm W _ hw,zB,bX,gY]
def Jy{W:List Wy}{m:Nat}{ρ:Dl.Env}(hw:W.length<=20)(hm:m<=1000)(h5:ab i5 ρ=some (.int (m:Nat)))(h7:(ρ[i7]?).getD none=some (.list (W.map ak))) :
  aj 1 [i7] (bQ (aa (ab i5) ae)) (fG 0) (λ_=>some true) (bc (aj 1 [0] (aB (ab 1)) (fG 0) (fB (f2 bo (f2 aw (ab 0) (fC (.int 1))) (ab 1))) (f2 aw (ab 0) (fC (.int 0))))) ρ=some ((iE W m).map bX):=by
 rw[cw (h:=λd=>bX (ofT W (gY d))) (uz m hm h5) (by rw[zD,zR];lia) λd hd=>?_]
 ·rw[iE,zM,zM];rfl
 ·let⟨i,_,rfl⟩:=List.mem_map.mp hd;simp?[zI,yU,h7,bc,Rt W _ hw,zB,bX,gY]
def KP(c:Int):Dl.Env->Option D:=(aJ (aa (ah 3 aq (aa (ab 2) (aa (f2 aA (f2 aA (ab 3) (fC (.int c))) (ab 0)) (aa (fC (.int 4)) ae)))) (aa (ab 1) ae)))
def N2{ns:List Int}{a:Int}(c:Int)(hl:ns.length<=63):∀ (mine:List (List Int)) (k:Nat),aZ (hC 0 1) (λ_=>some true) (KP c) [none,none,some (bY ns),some (.int a)] (br k (mine.map ag))=some ((iM (λk=>dr ns (a+c+((k:Nat):Int)) 4) k mine).map bx)
 | [],k=>rfl
 | r::mine,k=>by
  have hg:hC 0 1 [none,none,some (bY ns),some (.int a)] (.tuple [.int ((k:Nat):Int),ag r])=some [some (.int ((k:Nat):Int)),some (ag r),some (bY ns),some (.int a)]:=rfl;have he:KP c [some (.int ((k:Nat):Int)),some (ag r),some (bY ns),some (.int a)]=some (bx (dr ns (a+c+((k:Nat):Int)) 4,r)):=by
   simp! [KP,sx (ns:=ns) (a+c+((k:Nat):Int)) 4 hl (by decide),Aq,bx]
  have ih:=N2 (a:=a) c hl mine (k+1);rw[zI,br,aZ,hg];simp?[zA,xH,he,ih,zB,iM,zI]
def j5:∀ (ds:List D) (k:Nat),(br k ds).length=ds.length
 | [],k=>rfl
 | d::ds,k=>by rw[br,zL,zL,j5 ds]
def vt{ns:List Int}{a c:Int}{i9:Nat}{ρ:Dl.Env}{mine:List (List Int)}(hl:ns.length<=63)(hm:mine.length<=1000)(h9:ab i9 ρ=some (.list (mine.map ag)))(h0:(ρ[0]?).getD none=some (bY ns))(h1:(ρ[1]?).getD none=some (.int a)) :
  aS bS (aa (bc (aj 2 [0,1] (bf (aa (ab i9) ae)) (hC 0 1) (λ_=>some true) (KP c))) ae) ρ=some (.tuple ((iM (λk=>dr ns (a+c+((k:Nat):Int)) 4) 0 mine).map bx)):=by
 have hi:bf (aa (ab i9) ae) ρ=some (br 0 (mine.map ag)):=by
  simp?[bf,aa,ae,h9,zA,zB,dI,oneOf,eN]
 have hc:aj 2 [0,1] (bf (aa (ab i9) ae)) (hC 0 1) (λ_=>some true) (KP c) ρ=some ((iM (λk=>dr ns (a+c+((k:Nat):Int)) 4) 0 mine).map bx):=by
  simp?[aj,hi,zA,dm,zI,yU,h0,h1,List.replicate,xF,xO,N2 c hl];exact bu (by rw[zD,gW];lia)
 simp?[aS,aa,ae,bc,hc,zB,zA,bS,dI,oneOf,eN]
def ai{g1 g2:ao->Option Out}{ρ ρ':ao}(h:g1 ρ=some (.nx ρ')):ar g1 g2 ρ=g2 ρ':=by
 simp?[ar,h,zA]
def IX{g1 g2:ao->Option Out}{ρ:ao}{d:D}(h:g1 ρ=some (.rt d)):ar g1 g2 ρ=some (.rt d):=by
 simp?[ar,h,zA]
def aI{g:ao->Option Out}{n:Nat}{args:List D}{d:D}(h:g (args.map Slot.val++List.replicate (n - args.length) .non)=some (.rt d)):aV g n args=some d:=by
 simp?[aV,h,zB]
def gX{g:D->D->Option D}{fa fb:Dl.Env->Option D}{ρ:Dl.Env}{a b:D}(ha:fa ρ=some a)(hb:fb ρ=some b):f2 g fa fb ρ=g a b:=by
 simp?[f2,ha,hb,zA]
def Lh{ns:List Int}{a mo:Int}{m s:Nat}(m1:m<=3)(s1:s<=3):f2 dv (ab 5) (ab 6) (ba (st ns a mo m s .non (.own []) .non .non .non .non))=some (.int ((m * s:Nat):Int)):=by
 have h:Dl.dv (.int (m:Int)) (.int (s:Int))=some (.int ((m:Int) * (s:Int))):=dz (lb (by lia));rw[gX (a:=.int (m:Int)) (b:=.int (s:Int)) rfl rfl,h,Int.natCast_mul]
def Nx{ns:List Int}{a mo:Int}{m s:Nat}(m1:m<=3)(s1:s<=3)(hms:m * s<=9){W:List Wy}{t8:Slot}(e: cf (kn 8) lB ((List.range' 0 (m * s)).map λi=>PyData.int ((i:Nat):Int)) (st ns a mo m s .non (.own (([]:List Wy).map ak)) .non .non .non .non)=some (.nx (st ns a mo m s .non (.own (W.map ak)) t8 .non .non .non))):cP [5,6] (bQ (aa (f2 dv (ab 5) (ab 6)) ae)) (kn 8) lB (st ns a mo m s .non (.own []) .non .non .non .non)=some (.nx (st ns a mo m s .non (.own (W.map ak)) t8 .non .non .non)):=by
 have hh:hand [5,6] 0 (st ns a mo m s .non (.own []) .non .non .non .non)=st ns a mo m s .non (.own []) .non .non .non .non:=rfl;have hr:=uz (fi:=f2 dv (ab 5) (ab 6)) (ρ:=ba (st ns a mo m s .non (.own []) .non .non .non .non)) (m * s) (by lia) (Lh m1 s1);rw[yH] at hr;rw[yU] at e;simp?[cP,hh,hr,zA];exact e
structure P5(mo:Int)(G T:List Pl)(W:List Wy):Prop where
 g3:G.length<=3
 t3:T.length<=3
 w2:∀w∈W,w.2.2<=2
 ga:∀p∈G,p.1<=3
 ta:∀p∈T,p.1<=3
 wm:(W.length:Int)<=mo
def uD{ns:List Int}{a mo:Int}(hl:ns.length<=63)(hmo:3 < mo)(c:dr ns (a+64) 4=0):∃G T W,cJ [bY ns,.int a,.int mo]=some (aC G T W)/\Wd G T W/\P5 mo G T W:=by
 have e64:=sx (ns:=ns) (a+64) 4 hl (by decide);have e65:=eJ (ns:=ns) (a+65) 2 hl (by decide);refine⟨_,_,_,?_,CG (c:=1+dr ns (a+65) 2) (by lia) (by lia),⟨by simp,by simp,by decide,λp hp=>?_,λp hp=>?_,by simp;lia⟩⟩;rotate_left
 ·simp?[zQ,yF,xU] at hp;rcases hp with rfl|rfl<;>(simp only;lia)
 ·simp?[zQ,yF,xU] at hp;rcases hp with rfl|rfl<;>(simp only;lia)
 have s1:Dl.aD 3 [0,1] (f2 aA (fC (.int 1)) (ah 3 aq (aa (ab 0) (aa (f2 aA (ab 1) (fC (.int 65))) (aa (fC (.int 2)) ae))))) [.val (bY ns),.val (.int a),.val (.int mo),.non,.non,.non,.non,.non,.non,.non,.non,.non]=some (.nx [.val (bY ns),.val (.int a),.val (.int mo),.val (.int (1+dr ns (a+65) 2)),.non,.non,.non,.non,.non,.non,.non,.non]) :=
  bq (d:=.int (1+dr ns (a+65) 2)) (by simp! [e65.1]) rfl
 generalize 1+dr ns (a+65) 2=x at *;have s2:Dl.aD 4 [3] (aJ (aa (aJ (aa (ab 3) (aa (aJ (aa (fC (.int 1)) (aa (fC (.int 0)) ae))) ae))) (aa (aJ (aa (ab 3) (aa (aJ (aa (fC (.int 0)) (aa (fC (.int 1)) ae))) ae))) ae))) [.val (bY ns),.val (.int a),.val (.int mo),.val (.int x),.non,.non,.non,.non,.non,.non,.non,.non]=some (.nx [.val (bY ns),.val (.int a),.val (.int mo),.val (.int x),.val (.tuple [bx (x,[1,0]),bx (x,[0,1])]),.non,.non,.non,.non,.non,.non,.non]) :=
  cL (d:=.tuple [bx (x,[1,0]),bx (x,[0,1])]) (by simp! [Aq];rfl) rfl rfl rfl
 simp! [cJ,eW,dB,e64,c,cI,jP,gh,show decide ((3:Int) < mo)=true from yA hmo,s1,s2,Aq,Ab,show ∀a b c d:D,small [a,b,c,d]=some [a,b,c,d] fromλ_ _ _ _=>rfl];rfl
def uF{ns:List Int}{a mo:Int}(hl:ns.length<=63)(hm0:0<=mo)(c:¬ (3 < mo/\dr ns (a+64) 4=0)):∃G T W,cJ [bY ns,.int a,.int mo]=some (aC G T W)/\Wd G T W/\P5 mo G T W:=by
 have e64:=sx (ns:=ns) (a+64) 4 hl (by decide);have em:=eJ (ns:=ns) a 3 hl (by decide);have es:=eJ (ns:=ns) (a+1) 3 hl (by decide);let⟨m,hm⟩:=vG (show 0<=1+dr ns a 3 by lia);let⟨s,hs⟩:=vG (show 0<=1+dr ns (a+1) 3 by lia);have m1:1<=m/\m<=3:=by lia
 have s1:1<=s/\s<=3:=by lia
 have hs':(s:Int)=1\/(s:Int)=2\/(s:Int)=3:=by lia
 have hm':(m:Int)=1\/(m:Int)=2\/(m:Int)=3:=by lia
 have t5:Dl.aD 5 [0,1] (f2 aA (fC (.int 1)) (ah 3 aq (aa (ab 0) (aa (ab 1) (aa (fC (.int 3)) ae))))) [.val (bY ns),.val (.int a),.val (.int mo),.non,.non,.non,.non,.non,.non,.non,.non,.non]=some (.nx [.val (bY ns),.val (.int a),.val (.int mo),.non,.non,.val (.int (m:Nat)),.non,.non,.non,.non,.non,.non]) :=
  bq (d:=.int (m:Nat)) (by simp! [em.1,hm]) rfl
 have t6:Dl.aD 6 [0,1] (f2 aA (fC (.int 1)) (ah 3 aq (aa (ab 0) (aa (f2 aA (ab 1) (fC (.int 1))) (aa (fC (.int 3)) ae))))) [.val (bY ns),.val (.int a),.val (.int mo),.non,.non,.val (.int (m:Nat)),.non,.non,.non,.non,.non,.non]=some (.nx (st ns a mo m s .non .non .non .non .non .non)) :=
  bq (d:=.int (s:Nat)) (by simp! [es.1,hs]) rfl
 have t7:aQ 7 [] (dR ae) (st ns a mo m s .non .non .non .non .non .non)=some (.nx (st ns a mo m s .non (.own []) .non .non .non .non)):=by
  simp?[aQ,md,dR,ae,zA,gZ,zB,yW,yV]
 have hms:m * s<=9:=vS m1.2 s1.2;have hms1:1<=m * s:=vS m1.1 s1.1;let⟨W,t8,e,h8,I⟩:=EG (ns:=ns) (a:=a) (m:=m) (s:=s) hl hs' (m * s) 0 (W:=[]) (x8:=.non) (by lia) (mo:=mo) ⟨λw hw=>(by cases hw),List.Pairwise.nil,by decide,hm0⟩;rw[jD] at I;obtain⟨d8,rfl⟩:∃d,t8=.val d:=h8.elim (λz=>by lia) id;have hlen9:W.length<=9:=by have:=I.len;lia
 have tf:=Nx m1.2 s1.2 hms e;unfold lB at tf;have hwl:W.length<=20:=by lia
 have wr:∀w∈W,(0<=w.1/\w.1 < m)/\(0<=w.2.1/\w.2.1 < s)/\1<=w.2.2/\w.2.2<=9:=λw hw=>by
  let⟨j,j0,jk,ea,b,c1,c2⟩:=I.mem w hw;have:=NJ hs' hm' j0 (by rw[<- Int.natCast_mul];exact jk);rw[ea,b];exact⟨this.1,this.2,c1,by lia⟩
 have lenG:∀r∈kq W m,r.length<=1000:=λr hr=>by
  let⟨i,_,rfl⟩:=List.mem_map.mp hr;rw[Bv,zD];exact yD (xP _ _) (by lia)
 have lenT:∀r∈iE W s,r.length<=1000:=λr hr=>by
  let⟨i,_,rfl⟩:=List.mem_map.mp hr;rw[ofT,zD];exact yD (xP _ _) (by lia)
 let⟨mine,om,pm⟩:=xh (ns:=ns) (a:=a+24) (rows:=kq W m) hl lenG (by rw[kq,zD,zR];lia);let⟨yours,oy,py⟩:=xh (ns:=ns) (a:=a+40) (rows:=iE W s) hl lenT (by rw[iE,zD,zR];lia);have lm:mine.length<=1000:=by rw[dQ pm,kq,zD,zR];lia
 have ly:yours.length<=1000:=by rw[dQ py,iE,zD,zR];lia
 have t9:Dl.aD 9 [0,1,5,7] (ah 3 bO (aa (ab 0) (aa (f2 aA (ab 1) (fC (.int 24))) (aa (bc (aj 1 [7] (bQ (aa (ab 5) ae)) (fG 0) (λ_=>some true) (bc (aj 1 [0] (aB (ab 1)) (fG 0) (fB (f2 bo (f2 aw (ab 0) (fC (.int 0))) (ab 1))) (f2 aw (ab 0) (fC (.int 1))))))) ae)))) (st ns a mo m s .non (.own (W.map ak)) (.val d8) .non .non .non)=some (.nx (st ns a mo m s .non (.val (.list (W.map ak))) (.val d8) (.val (.list (mine.map ag))) .non .non)):=by
  refine (cL (ρ':=st ns a mo m s .non (.val (.list (W.map ak))) (.val d8) .non .non .non) (d:=.list (mine.map ag)) ?_ rfl rfl ?_).trans rfl
  ·have q:=Jo (ρ:=aR (st ns a mo m s .non (.own (W.map ak)) (.val d8) .non .non .non)) (i5:=5) (i7:=7) hwl (show m<=1000 by lia) rfl rfl;simp?[ah,aa,ae,bc,q,zB,zA];simp! [om]
  ·simp?[st,ba,aR,zI,yU];rfl
 have t10:Dl.aD 10 [0,1,6,7] (ah 3 bO (aa (ab 0) (aa (f2 aA (ab 1) (fC (.int 40))) (aa (bc (aj 1 [7] (bQ (aa (ab 6) ae)) (fG 0) (λ_=>some true) (bc (aj 1 [0] (aB (ab 1)) (fG 0) (fB (f2 bo (f2 aw (ab 0) (fC (.int 1))) (ab 1))) (f2 aw (ab 0) (fC (.int 0))))))) ae)))) (st ns a mo m s .non (.val (.list (W.map ak))) (.val d8) (.val (.list (mine.map ag))) .non .non)=some (.nx (st ns a mo m s .non (.val (.list (W.map ak))) (.val d8) (.val (.list (mine.map ag))) (.val (.list (yours.map ag))) .non)):=by
  refine (cL (ρ':=st ns a mo m s .non (.val (.list (W.map ak))) (.val d8) (.val (.list (mine.map ag))) .non .non) (d:=.list (yours.map ag)) ?_ rfl ?_ ?_).trans rfl
  ·have q:=Jy (ρ:=aR (st ns a mo m s .non (.val (.list (W.map ak))) (.val d8) (.val (.list (mine.map ag))) .non .non)) (i5:=6) (i7:=7) hwl (show s<=1000 by lia) rfl rfl;simp?[ah,aa,ae,bc,q,zB,zA];simp! [oy]
  ·rfl
  ·simp?[st,ba,aR,zI,yU];rfl
 have t11:Dl.aD 11 [0,1,8,9] (aS bS (aa (bc (aj 2 [0,1] (bf (aa (ab 9) ae)) (hC 0 1) (λ_=>some true) (KP 56))) ae)) (st ns a mo m s .non (.val (.list (W.map ak))) (.val d8) (.val (.list (mine.map ag))) (.val (.list (yours.map ag))) .non)=some (.nx (st ns a mo m s .non (.val (.list (W.map ak))) (.val d8) (.val (.list (mine.map ag))) (.val (.list (yours.map ag))) (.val (.tuple ((iM (λk=>dr ns (a+56+((k:Nat):Int)) 4) 0 mine).map bx))))):=by
  refine (cL (ρ':=st ns a mo m s .non (.val (.list (W.map ak))) (.val d8) (.val (.list (mine.map ag))) (.val (.list (yours.map ag))) .non) (vt hl lm rfl rfl rfl) rfl rfl ?_).trans rfl;simp?[st,ba,aR,zI,yU];rfl
 have t4:∀G:D,Dl.aD 4 [0,1,8,10] (aS bS (aa (bc (aj 2 [0,1] (bf (aa (ab 10) ae)) (hC 0 1) (λ_=>some true) (KP 60))) ae)) (st ns a mo m s .non (.val (.list (W.map ak))) (.val d8) (.val (.list (mine.map ag))) (.val (.list (yours.map ag))) (.val G))=some (.nx (st ns a mo m s (.val (.tuple ((iM (λk=>dr ns (a+60+((k:Nat):Int)) 4) 0 yours).map bx))) (.val (.list (W.map ak))) (.val d8) (.val (.list (mine.map ag))) (.val (.list (yours.map ag))) (.val G))):=λG=>by
  refine (cL (ρ':=st ns a mo m s .non (.val (.list (W.map ak))) (.val d8) (.val (.list (mine.map ag))) (.val (.list (yours.map ag))) (.val G)) (vt hl ly rfl rfl rfl) rfl rfl ?_).trans rfl;simp?[st,ba,aR,zI,yU];rfl
 refine⟨_,_,W,?_,IB (f:=λk=>dr ns (a+56+((k:Nat):Int)) 4) (g:=λk=>dr ns (a+60+((k:Nat):Int)) 4) m1.1 (by lia) s1.1 (by lia) (λk=>?_) (λk=>?_) pm py wr I.ris (by lia),⟨by rw[gW,dQ pm,kq,zD,zR];lia,by rw[gW,dQ py,iE,zD,zR];lia,λw hw=>(by let⟨j,_,_,_,_,_,z⟩:=I.mem w hw;exact z),λp hp=>?_,λp hp=>?_,I.lem⟩⟩
 ·unfold KP at t11 t4;have tA:∀g,d5 (nY (fB (f2 si (ab 2) (fC (.int 3)))) (fB (f2 bo (ah 3 aq (aa (ab 0) (aa (f2 aA (ab 1) (fC (.int 64))) (aa (fC (.int 4)) ae)))) (fC (.int 0))))) g dC [.val (bY ns),.val (.int a),.val (.int mo),.non,.non,.non,.non,.non,.non,.non,.non,.non]=some (.nx [.val (bY ns),.val (.int a),.val (.int mo),.non,.non,.non,.non,.non,.non,.non,.non,.non]):=λg=>by
   by_cases c1:3 < mo
   ·have c2:¬ dr ns (a+64) 4=0:=λz=>c ⟨c1,z⟩;simp! [dB,e64,c1,c2,cI,wD,jP,gh,yO]
   ·simp! [dB,c1,wD,gh,yO]
  refine aI ?_;show eW [.val (bY ns),.val (.int a),.val (.int mo),.non,.non,.non,.non,.non,.non,.non,.non,.non]=_;unfold eW;rw[ai (tA _),ai t5,ai t6,ai t7,ai tf,ai t9,ai t10,ai t11,ai (t4 _)];simp! [Ab,aC]
 ·have q:=eJ (ns:=ns) (a+56+((k:Nat):Int)) 4 hl (by decide);exact⟨q.2.1,by lia⟩
 ·have q:=eJ (ns:=ns) (a+60+((k:Nat):Int)) 4 hl (by decide);exact⟨q.2.1,by lia⟩
 ·let⟨i,hi⟩:=List.getElem?_of_mem hp;let⟨r,_,rfl⟩:=gK _ hi;have q:=eJ (ns:=ns) (a+56+((0+i:Nat):Int)) 4 hl (by decide);simp only;lia
 ·let⟨i,hi⟩:=List.getElem?_of_mem hp;let⟨r,_,rfl⟩:=gK _ hi;have q:=eJ (ns:=ns) (a+60+((0+i:Nat):Int)) 4 hl (by decide);simp only;lia
def wq{ns:List Int}{a mo:Int}(hl:ns.length<=63)(hm0:0<=mo):∃G T W,cJ [bY ns,.int a,.int mo]=some (aC G T W)/\Wd G T W/\P5 mo G T W:=by
 by_cases c:3 < mo/\dr ns (a+64) 4=0
 ·exact uD hl c.1 c.2
 ·exact uF hl hm0 c
def KO(h:yd W):(W.map λw=>[w.1,w.2.1]).Pairwise λa b=>Dl.lexLt a b=true:=List.pairwise_map.mpr (h.imp λhab=>QF hab)
def Gb(h:yd W):(W.map λw=>[w.1,w.2.1]).Nodup:=(KO h).imp λ{a b} hab e=>by
 rw[e,fJ] at hab;cases hab
def Gc(h:yd W)(hn:m.Nodup)(hm:∀r,r∈W.map (λw=>[w.1,w.2.1])↔r∈m):W.map (λw=>[w.1,w.2.1])=qp m :=
 FP ((List.perm_ext_iff_of_nodup (Gb h) hn).mpr hm) ((KO h).imp λhab=>OE hab)
def Wd.wok(h:Wd G T W):PB (aC G T W)=true:=by
 have hP:(W.map ak).map eM=W.map λw=>[w.1,w.2.1]:=by rw[zM];rfl
 have hpg:∀i j:Int,[i,j]∈W.map (λw=>[w.1,w.2.1])↔[i,j]∈lF 0 (G.map bx):=λi j=>by
  rw[oP];constructor
  ·intro hm;let⟨w,hw,e⟩:=List.mem_map.mp hm;simp?[kP,and_true] at e;have hr:=(h.wr w hw).1;obtain⟨p,hp⟩:∃p,G[i.toNat]?=some p:=⟨G[i.toNat]'(by lia),zK (by lia)⟩
   refine⟨i.toNat,bx p,by rw[zO,hp];rfl,by lia,?_⟩;rw[e9,(h.gl _ p hp).mem_iff,uf,show ((i.toNat:Nat):Int)=i by lia];exact hm
  ·rintro⟨m,p,hp,rfl,hj⟩;rw[zO] at hp;let⟨p',hp',rfl⟩:=Option.map_eq_some_iff.mp hp;rw[e9,(h.gl m p' hp').mem_iff,uf] at hj
   rwa [jD]
 have hpt:∀i j:Int,[i,j]∈W.map (λw=>[w.1,w.2.1])↔[j,i]∈lF 0 (T.map bx):=λi j=>by
  rw[oP];constructor
  ·intro hm;let⟨w,hw,e⟩:=List.mem_map.mp hm;simp?[kP,and_true] at e;have hr:=(h.wr w hw).2.1;obtain⟨p,hp⟩:∃p,T[j.toNat]?=some p:=⟨T[j.toNat]'(by lia),zK (by lia)⟩
   refine⟨j.toNat,bx p,by rw[zO,hp];rfl,by lia,?_⟩;rw[e9,(h.tl _ p hp).mem_iff,uj,show ((j.toNat:Nat):Int)=j by lia];exact hm
  ·rintro⟨m,p,hp,rfl,hj⟩;rw[zO] at hp;let⟨p',hp',rfl⟩:=Option.map_eq_some_iff.mp hp;rw[e9,(h.tl m p' hp').mem_iff,uj] at hj
   rwa [jD]
 have two:∀ {r:List Int},r∈W.map (λw=>[w.1,w.2.1])->∃i j,r=[i,j]:=λhr=>by
  let⟨w,_,rfl⟩:=List.mem_map.mp hr;exact⟨_,_,rfl⟩
 have ng:∀ (L:List Pl),(∀p∈L,p.2.Nodup)->(lF 0 (L.map bx)).Nodup:=λL hL=>rO λp hp=>by
  let⟨p',hp',rfl⟩:=List.mem_map.mp hp;rw[e9];exact hL p' hp'
 have e1:W.map (λw=>[w.1,w.2.1])=qp (lF 0 (G.map bx)):=Gc h.wp (ng G λp hp=>by
   let⟨i,hi,e⟩:=qQ hp;exact (h.gl i p (by rw[zK hi,e])).nodup_iff.mpr (mG h.wp i)) λr=>⟨λhr=>by
   let⟨i,j,rfl⟩:=two hr;exact (hpg i j).mp hr,λhr=>by
   let⟨i,j,rfl⟩:=ka r hr;exact (hpg i j).mpr hr⟩
 have e2:W.map (λw=>[w.1,w.2.1])=qp ((lF 0 (T.map bx)).map List.reverse):=Gc h.wp (by
   exact List.pairwise_map.mpr (List.Pairwise.imp (λ{a b} hne e=>hne (List.reverse_inj.mp e)) (ng T λp hp=>by
    let⟨i,hi,e⟩:=qQ hp;exact (h.tl i p (by rw[zK hi,e])).nodup_iff.mpr (nu h.wp i)))) λr=>⟨λhr=>by
   let⟨i,j,rfl⟩:=two hr;exact List.mem_map.mpr ⟨[j,i],(hpt i j).mp hr,rfl⟩,λhr=>by
   let⟨r',hr',rfl⟩:=List.mem_map.mp hr;let⟨i,j,rfl⟩:=ka r' hr';exact (hpt j i).mpr hr'⟩
 have hw:(W.map ak).all (iD G.length T.length)=true:=by
  rw[xG];intro x hx;let⟨w,hw,rfl⟩:=List.mem_map.mp hx;exact CJ (h.wr w hw)
 have hs:∀ {L:List Pl},1<=L.length->L.length<=4->mN (.tuple (L.map bx))=true:=λ{L} a b=>by
  simp?[mN,long,zD,zF,zJ];lia
 have h3:long 3 3 (aC G T W)=true:=rfl;have hg:=h.gok;have ht:=h.tok;unfold PB yp;rw[h3,jK];simp?[aC,cE,vV,vW,hP,<- e1,<- e2,jP,Bool.and_true,iy,hs h.g1 h.g4,hs h.t1 h.t4,zD,hg,ht,hw,K3]
def sI(b:Bool):Int:=if b then 1 else 0
def bE(b:Bool)(w:Wy):Int:=if b then w.2.1 else w.1
def bT(b:Bool)(w:Wy):Int:=bE (!b) w
def bp(b:Bool)(G T:List Pl):List Pl:=if b then T else G
def tK(b:Bool)(G T:List Pl)(W:List Wy):aw (aC G T W) (.int (sI b))=some (.tuple ((bp b G T).map bx)):=by cases b<;>rfl
def hJ(G T:List Pl)(W:List Wy):aw (aC G T W) (.int 2)=some (.tuple (W.map ak)):=rfl
def l8(b:Bool)(w:Wy):aw (ak w) (.int (sI b))=some (.int (bE b w)):=by cases b<;>rfl
def Kk(b:Bool)(w:Wy):aw (ak w) (.int (1 - sI b))=some (.int (bT b w)):=by cases b<;>rfl
def oM(w:Wy):aw (ak w) (.int 2)=some (.int w.2.2):=rfl
def Jh(p:Pl):aw (bx p) (.int 1)=some (ag p.2):=rfl
def Aa(h:ds[i]?=some d):aw (.tuple ds) (.int ((i:Nat):Int))=some d:=by
 show oe ds (i:Nat)=_;exact BX h
def lr{l:List α}(h:l[i]?=some x):aw (.tuple (l.map f)) (.int ((i:Nat):Int))=some (f x):=Aa (by rw[zO,h];rfl)
def NK(b:Bool)(W:List Wy)(p:Int):List Int:=(W.filter λw=>decide (bE b w=p)).map (bT b)
def Wd.lik{G T:List Pl}{W:List Wy}(h:Wd G T W){b:Bool}{i:Nat}{p:Pl}(e:(bp b G T)[i]?=some p):p.2.Perm (NK b W i):=by
 cases b
 ·exact h.gl i p e
 ·exact h.tl i p e
def Wd.nod(h:Wd G T W)(b:Bool)(i:Int):(NK b W i).Nodup:=by
 cases b
 ·exact mG h.wp i
 ·exact nu h.wp i
def pZ{tt:Dl.Env->Option Bool}{te:Dl.Env->Option D}{r:List (Option D)}{p:Nat->D->Bool}{h:Nat->D->D}:∀ {ds:List D}{k:Nat},
  (∀i d,ds[i]?=some d->tt (some (.int ((k+i:Nat):Int))::some d::r)=some (p (k+i) d)/\(p (k+i) d=true->te (some (.int ((k+i:Nat):Int))::some d::r)=some (h (k+i) d))) ->
  aZ (hC 0 1) tt te (none::none::r) (br k ds)=some (((ds.zipIdx k).filter λq=>p q.2 q.1).map λq=>h q.2 q.1)
 | [],k,_=>rfl
 | d::ds,k,hh=>by
  let⟨h1,h2⟩:=hh 0 d rfl;have ih:=pZ (ds:=ds) (k:=k+1) λi x hx=>by
   have:=hh (i+1) x (by simpa using hx);rw[show k+1+i=k+(i+1) by lia];exact this
  have hg:hC 0 1 (none::none::r) (.tuple [.int ((k:Nat):Int),d])=some (some (.int ((k:Nat):Int))::some d::r):=by
   simp?[hC,isFree,xQ,yY,qG,Option.isNone_none,jO,xH,yV,yW]
  rw[br,aZ,hg,List.zipIdx_cons];simp?[Nat.add_zero] at h1 h2;simp?[zA,h1];cases hp:p k d with
  | true=>simp[h2 hp,ih,hp]
  | false=>simp[ih,hp]
def Dw{cs:List Nat}{fi:Dl.Env->Option (List D)}{tt:Dl.Env->Option Bool}{te:Dl.Env->Option D}{ρ:Dl.Env}{ds:List D}{p:Nat->D->Bool}{h:Nat->D->D}(hfi:fi ρ=some (br 0 ds))(hl:ds.length<=1000)
  (hh:∀i d,ds[i]?=some d->tt (some (.int ((i:Nat):Int))::some d::cs.map λj=>(ρ[j]?).getD none)=some (p i d)/\(p i d=true->te (some (.int ((i:Nat):Int))::some d::cs.map λj=>(ρ[j]?).getD none)=some (h i d))) :
  aj 2 cs fi (hC 0 1) tt te ρ=some ((ds.zipIdx.filter λq=>p q.2 q.1).map λq=>h q.2 q.1):=by
 have:=pZ (tt:=tt) (te:=te) (r:=cs.map λj=>(ρ[j]?).getD none) (p:=p) (h:=h) (ds:=ds) (k:=0) (by simpa using hh);simp?[aj,hfi,zA,dm,List.replicate,xF,xO,this];refine bu ?_;rw[zD];refine yD (xP _ _) ?_;rw[List.length_zipIdx];lia
def k3(f:α->Int):∀ {l m:List α},l.Perm m->(l.Pairwise λa b=>f a<=f b)->(m.Pairwise λa b=>f a < f b)->l=m
 | l,[],hp,_,_=>hp.eq_nil
 | [],x::m,hp,_,_=>absurd hp.symm.eq_nil (by simp)
 | y::l,x::m,hp,h1,h2=>by
  rw[List.pairwise_cons] at h1 h2;have e:y=x:=by
   have hx:x∈y::l:=hp.mem_iff.mpr zE;rcases List.mem_cons.mp hx with z|hx
   ·exact z.symm
   ·have hy:y∈x::m:=hp.mem_iff.mp zE;rcases List.mem_cons.mp hy with z|hy
    ·exact z
    ·have:=h1.1 x hx;have:=h2.1 y hy;lia
  subst e;rw[k3 f ((List.perm_cons y).mp hp) h1.2 h2.2]
def p5(z:Nat->Int)(l:List α)(d:α)(f:α->Int)(h:∀i,i < l.length->z i=f (l.getD i d)):(oN z l d).Pairwise λa b=>f a<=f b:=by
 unfold oN;split
 ·rename_i hl
  match l,hl with
  | [],_=>exact List.Pairwise.nil
  | [a],_=>exact vF _ _
 ·rename_i hl;let⟨hp,hs⟩:=SP.f7 (z:=z) (n:=l.length) (by lia);rw[jE] at hs ⊢;refine hs.imp_of_mem λ{i j} hi hj hij=>?_;have hi':i < l.length:=by have:=hp.mem_iff.mp hi;simpa using this
  have hj':j < l.length:=by have:=hp.mem_iff.mp hj;simpa using this
  rw[<- h i hi',<- h j hj'];exact hij
def az(W:List Wy)(i:Nat):Wy:=W.getD i (0,0,0)
def eE(hk:k < W.length):W[k]=az W k:=by simp[az,hk]
def oD(hk:k < W.length):W[k]?=some (az W k):=by rw[zK hk,eE hk]
def own(b:Bool)(W:List Wy)(p:Int):List Nat:=(List.range W.length).filter λi=>decide (bE b (az W i)=p)
def pY(b:Bool)(W:List Wy)(p o:Int):Nat:=W.findIdx λw=>decide (bE b w=p)&&decide (bT b w=o)
def kr(b:Bool)(W:List Wy)(p:Int)(L:List Int):List Nat:=L.map (pY b W p)
def d4:i∈own b W p↔i < W.length/\bE b (az W i)=p:=by simp[own]
def map_range(d:α)(f:α->β)(l:List α):(List.range l.length).map (λi=>f (l.getD i d))=l.map f:=by
 apply jH
 ·simp
 ·intro i h1 h2;have:i < l.length:=by simpa using h2
  simp[this]
def ux(d:α)(q:α->Bool):∀ (l:List α),((List.range l.length).filter λi=>q (l.getD i d)).map (λi=>l.getD i d)=l.filter q:=by
 intro l;have e:l=(List.range l.length).map λi=>l.getD i d:=by
  have:=map_range d (λx=>x) l;simp at this;simpa using this.symm
 conv=>rhs;rw[e]
 rw[kE];rfl
def j3(b:Bool)(W:List Wy)(p:Int):(own b W p).map (λi=>bT b (az W i))=NK b W p:=by
 unfold own NK az;rw[<- ux (0,0,0) (λw=>decide (bE b w=p)) W,zM];rfl
def sX(h:yd W)(hi:i < W.length)(hj:j < W.length)(h1:(az W i).1=(az W j).1)(h2:(az W i).2.1=(az W j).2.1):i=j:=by
 have e:∀k,k < W.length->W[k]?=some (az W k):=λk hk=>by simp[az,hk]
 rcases Nat.lt_trichotomy i j with z|z|z
 ·have:=List.pairwise_iff_getElem.mp h i j hi hj z;have a:=e i hi;have b:=e j hj;rw[zK hi] at a;rw[zK hj] at b;rw[xD a,xD b] at this;rcases this with z|z<;>lia
 ·exact z
 ·have:=List.pairwise_iff_getElem.mp h j i hj hi z;have a:=e i hi;have b:=e j hj;rw[zK hi] at a;rw[zK hj] at b;rw[xD a,xD b] at this;rcases this with z|z<;>lia
def xr(h:yd W)(hi:i < W.length)(hj:j < W.length)(h1:bE b (az W i)=bE b (az W j))(h2:bT b (az W i)=bT b (az W j)):i=j:=by
 cases b
 ·exact sX h hi hj h1 h2
 ·exact sX h hi hj h2 h1
def sS(h:yd W)(hi:i∈own b W p):pY b W p (bT b (az W i))=i:=by
 let⟨hl,he⟩:=d4.mp hi;have hw:W[i]=az W i:=by simp[az,hl]
 unfold pY;have hlt:W.findIdx (λw=>decide (bE b w=p)&&decide (bT b w=bT b (az W i))) < W.length:=by
  apply kJ;exact⟨W[i],qA _,by rw[hw];simp[he]⟩
 have hq:=List.findIdx_getElem (w:=hlt);rw[zF,zJ,zJ] at hq;rw[eE hlt] at hq;exact xr h hlt hl (by rw[hq.1,he]) hq.2
def mf{G T:List Pl}{W:List Wy}(h:Wd G T W){b:Bool}{i:Nat}(e:(bp b G T)[i]?=some p):(kr b W i p.2).Perm (own b W i):=by
 have h1:=(h.lik e).map (pY b W i);rw[<- j3 b W i,zM] at h1;have e2:(own b W i).map (pY b W i ∘ λj=>bT b (az W j))=own b W i:=by
  conv=>rhs;rw[<- List.map_id (own b W i)]
  exact yI λj hj=>sS h.wp hj
 rw[e2] at h1;exact h1
def tU{G T:List Pl}{W:List Wy}(h:Wd G T W){b:Bool}{i:Nat}{p:Pl}(e:(bp b G T)[i]?=some p){o:Int}(ho:o∈p.2):pY b W i o < W.length/\bE b (az W (pY b W i o))=i/\bT b (az W (pY b W i o))=o:=by
 have hm:=(h.lik e).mem_iff.mp ho;rw[<- j3 b W i] at hm;let⟨j,hj,rfl⟩:=List.mem_map.mp hm;rw[sS h.wp hj];let⟨h1,h2⟩:=d4.mp hj;exact⟨h1,h2,rfl⟩
def kD(b:Bool)(W:List Wy)(L:List Int)(d:D):Int:=(L.findIdx λo=>decide (o=bT b (az W (gY d).toNat)):Nat)
def nq:∀ {L:List Int}{x:Int},x∈L->vq x L=some (L.findIdx λo=>decide (o=x))
 | [],x,h=>by cases h
 | o::L,x,h=>by
  unfold vq;by_cases e:o=x
  ·simp[e,kZ]
  ·rw[yN e];have hx:x∈L:=(List.mem_cons.mp h).resolve_left λz=>e z.symm;rw[nq hx];simp[kZ,e]
def Hh{G T:List Pl}{W:List Wy}(h:Wd G T W){b:Bool}{i:Nat}{p:Pl}(e:(bp b G T)[i]?=some p)(z:Nat->Int)(hz:∀j,j < (own b W i).length->z j=kD b W p.2 (((own b W i).map λn=>PyData.int ((n:Nat):Int)).getD j .none)) :
  oN z ((own b W i).map λn=>PyData.int ((n:Nat):Int)) .none=(kr b W i p.2).map λn=>PyData.int ((n:Nat):Int):=by
 refine k3 (kD b W p.2) ((fu _ _ _).trans ((mf h e).symm.map _)) (p5 z _ _ _ λj hj=>hz j (by simpa using hj)) ?_;have hn:p.2.Nodup:=(h.lik e).nodup_iff.mpr (h.nod b i);unfold kr;rw[zM,jE];have key:∀k (hk:k < p.2.length),kD b W p.2 (PyData.int ((pY b W i p.2[k]:Nat):Int))=(k:Nat):=λk hk=>by
  let⟨_,_,e3⟩:=tU h e (qA hk);unfold kD;simp?[gY,yG,e3]
  congr 1
  rw[List.findIdx_eq (by exact hk)];refine⟨by simp,λj hj=>?_⟩;have:=List.pairwise_iff_getElem.mp hn j k (by lia) hk hj;simpa using this
 refine List.pairwise_iff_getElem.mpr λj k hj hk hjk=>?_;show kD b W p.2 (PyData.int ((pY b W i p.2[j]:Nat):Int)) < kD b W p.2 (PyData.int ((pY b W i p.2[k]:Nat):Int));rw[key j hj,key k hk];lia
abbrev nD(n:Nat):D:=.int ((n:Nat):Int)
def mS:∀ {ds:List D},(∀d∈ds,te (ρ.set 0 (some d))=some (h d))->g9 te ρ ds=some (ds.map h)
 | [],_=>rfl
 | d::ds,hh=>by
  unfold g9;rw[hh d zE,zA,mS λx hx=>hh x (zC _ hx)];rfl
def tL(b:Bool)(W:List Wy)(p:Int):(own b W p).length<=W.length:=by
 unfold own;refine yD (xP _ _) ?_;rw[zR];exact yM _
def Am(b:Bool)(W:List Wy)(p:Int):(((W.map ak).zipIdx.filter λq=>decide (bE b (az W q.2)=p)).map λq=>nD q.2)=(own b W p).map nD:=by
 have e:(W.map ak).zipIdx=(List.range W.length).map λi=>(ak (az W i),i):=by
  apply jH
  ·simp
  ·intro i h1 h2;have:i < W.length:=by simpa using h2
   simp[eE this]
 rw[e,kE,zM];rfl
def rZ(h:Wd G T W)(e:(bp b G T)[i]?=some p):fj [aC G T W,.int (sI b),nD i]=some (.list ((kr b W i p.2).map nD)):=by
 have hw:=h.wl;have ep:aw (.tuple ((bp b G T).map bx)) (nD i)=some (bx p):=lr e;have hl:=tL b W i;have t3:Dl.aD 3 [0] (f2 aw (ab 0) (fC (.int 2))) [.val (aC G T W),.val (.int (sI b)),.val (nD i),.non,.non,.non]=some (.nx [.val (aC G T W),.val (.int (sI b)),.val (nD i),.val (.tuple (W.map ak)),.non,.non]) :=
  cL (d:=.tuple (W.map ak)) rfl rfl rfl rfl
 have t4:Dl.aD 4 [0,1,2] (f2 aw (f2 aw (f2 aw (ab 0) (ab 1)) (ab 2)) (fC (.int 1))) [.val (aC G T W),.val (.int (sI b)),.val (nD i),.val (.tuple (W.map ak)),.non,.non]=some (.nx [.val (aC G T W),.val (.int (sI b)),.val (nD i),.val (.tuple (W.map ak)),.val (ag p.2),.non]):=by
  refine cL (d:=ag p.2) ?_ rfl rfl rfl;rw[gX (a:=bx p) (b:=.int 1) ?_ rfl,Jh];rw[gX (a:=.tuple ((bp b G T).map bx)) (b:=nD i) ?_ rfl,ep];rw[gX (a:=aC G T W) (b:=.int (sI b)) rfl rfl,tK]
 have c5:aj 2 [1,2] (bf (aa (ab 3) ae)) (hC 0 1) (fB (f2 bo (f2 aw (ab 1) (ab 2)) (ab 3))) (ab 0) [some (aC G T W),some (.int (sI b)),some (nD i),some (.tuple (W.map ak)),some (ag p.2),none]=some ((own b W i).map nD):=by
  rw[Dw (ds:=W.map ak) (p:=λj _=>decide (bE b (az W j)=i)) (h:=λj _=>nD j) rfl (by rw[zD];lia) λj d hd=>?_,Am];rw[zO] at hd;let⟨w,hw',rfl⟩:=Dl.af hd;have hj:j < W.length:=(List.getElem?_eq_some_iff.mp hw').1;rw[oD hj] at hw';cases hw';refine⟨?_,λ_=>rfl⟩;show fB (f2 bo (f2 aw (ab 1) (ab 2)) (ab 3)) [some (nD j),some (ak (az W j)),some (.int (sI b)),some (nD i)]=_;simp?[fB];rw[gX (a:=.int (bE b (az W j))) (b:=nD i) (by rw[gX (a:=ak (az W j)) (b:=.int (sI b)) rfl rfl,l8]) rfl,cI];rfl
 have t5:aQ 5 [1,2,3] (aj 2 [1,2] (bf (aa (ab 3) ae)) (hC 0 1) (fB (f2 bo (f2 aw (ab 1) (ab 2)) (ab 3))) (ab 0)) [.val (aC G T W),.val (.int (sI b)),.val (nD i),.val (.tuple (W.map ak)),.val (ag p.2),.non]=some (.nx [.val (aC G T W),.val (.int (sI b)),.val (nD i),.val (.tuple (W.map ak)),.val (ag p.2),.own ((own b W i).map nD)]):=by
  have hh:hand [1,2,3] 0 [Slot.val (aC G T W),.val (.int (sI b)),.val (nD i),.val (.tuple (W.map ak)),.val (ag p.2),.non]=[Slot.val (aC G T W),.val (.int (sI b)),.val (nD i),.val (.tuple (W.map ak)),.val (ag p.2),.non]:=rfl;simp?[aQ,hh,ba,zI,yU,Slot.frz,c5,zB,yW,yV]
 have hk:g9 (f2 oh (ab 3) (f2 aw (f2 aw (ab 2) (ab 0)) (f2 Dl.iz (fC (.int 1)) (ab 1)))) [none,some (.int (sI b)),some (.tuple (W.map ak)),some (ag p.2)] ((own b W i).map nD)=some (((own b W i).map nD).map λd=>.int (kD b W p.2 d)):=by
  refine mS λd hd=>?_;let⟨j,hj,rfl⟩:=List.mem_map.mp hd;let⟨hjl,hje⟩:=d4.mp hj;show f2 oh (ab 3) (f2 aw (f2 aw (ab 2) (ab 0)) (f2 Dl.iz (fC (.int 1)) (ab 1))) [some (nD j),some (.int (sI b)),some (.tuple (W.map ak)),some (ag p.2)]=_;have ew:aw (.tuple (W.map ak)) (nD j)=some (ak (az W j)):=lr (oD hjl);rw[gX (a:=ag p.2) (b:=.int (bT b (az W j))) rfl ?_]
  ·have hm:bT b (az W j)∈p.2:=(h.lik e).mem_iff.mpr (by rw[<- j3];exact List.mem_map.mpr ⟨j,hj,rfl⟩);simp?[oh,ag,bC,zA,nq hm,zB,kD,gY,yG]
   all_goals first|rfl|(congr 3;funext o;congr)
  ·rw[gX (a:=ak (az W j)) (b:=.int (1 - sI b)) ?_ ?_,Kk]
   ·rw[gX (a:=.tuple (W.map ak)) (b:=nD j) rfl rfl,ew]
   ·rw[gX (a:=.int 1) (b:=.int (sI b)) rfl rfl,oQ]
 have hi:intsOf (((own b W i).map nD).map λd=>PyData.int (kD b W p.2 d))=some (((own b W i).map nD).map (kD b W p.2)):=by
  rw[show (((own b W i).map nD).map λd=>PyData.int (kD b W p.2 d))=(((own b W i).map nD).map (kD b W p.2)).map PyData.int by simp?[zM];rfl,bC]
 have t6:aE (bc (nc [1,3,4] (ab 5) (f2 oh (ab 3) (f2 aw (f2 aw (ab 2) (ab 0)) (f2 Dl.iz (fC (.int 1)) (ab 1)))))) [.val (aC G T W),.val (.int (sI b)),.val (nD i),.val (.tuple (W.map ak)),.val (ag p.2),.own ((own b W i).map nD)]=some (.rt (.list ((kr b W i p.2).map nD))):=by
  have es:nc [1,3,4] (ab 5) (f2 oh (ab 3) (f2 aw (f2 aw (ab 2) (ab 0)) (f2 Dl.iz (fC (.int 1)) (ab 1)))) [some (aC G T W),some (.int (sI b)),some (nD i),some (.tuple (W.map ak)),some (ag p.2),some (.list ((own b W i).map nD))]=some ((kr b W i p.2).map nD):=by
   unfold nc;show (g9 _ [none,some (.int (sI b)),some (.tuple (W.map ak)),some (ag p.2)] ((own b W i).map nD)).bind _=_;rw[hk,zA,hi,zA,yL (by rw[zD];lia),Hh h e _ λj hj=>?_];simp[hj]
  simp?[aE,aR,zI,yU,tN,uS,bc,es,zB]
 refine aI ?_;show mH [.val (aC G T W),.val (.int (sI b)),.val (nD i),.non,.non,.non]=_;unfold mH;rw[ai t3,ai t4,ai t5,t6]
local macro_rules|`(tactic| dsimp! [$ts,*])=>`(tactic| simp only[ab,fC,f1,f2,aa,ae,ah,aS,qy,aB,eN,bc,fB,gB,bG,nY,ki,bf,aR,ba,tN,uS,B0,AL,Bh,B4,zI,yU,xQ,yY,zA,zB,qG,zL,xK,Nat.reduceAdd,jD,reduceIte,yW,yV,$ts,*])
def wb(R:S->ao->Prop)(f:α->D)(st:S->α->S):∀ {l:List α}{s:S}{ρ:ao},
  (∀s ρ x,x∈l->R s ρ->∃ρ1 ρ2,tgt ρ (f x)=some ρ1/\gb ρ1=some (.nx ρ2)/\R (st s x) ρ2)->R s ρ->∃ρ',cf tgt gb (l.map f) ρ=some (.nx ρ')/\R (l.foldl st s) ρ'
 | [],s,ρ,_,h=>⟨ρ,rfl,h⟩
 | d::ds,s,ρ,hh,h=>by
  let⟨ρ1,ρ2,e1,e2,h2⟩:=hh s ρ d zE h;let⟨ρ',e3,h3⟩:=wb R f st (λs ρ x hx=>hh s ρ x (zC _ hx)) h2;refine⟨ρ',?_,h3⟩;rw[zI,cf,e1,zA,e2];exact e3
def ig(R:ao->Prop)(f:α->D)(q:α->Bool)(out:α->D):∀ {l:List α}{ρ:ao},
  (∀ρ x,x∈l->R ρ->∃ρ1,tgt ρ (f x)=some ρ1/\(q x=true->gb ρ1=some (.rt (out x)))/\(q x=false->∃ρ2,gb ρ1=some (.nx ρ2)/\R ρ2))->R ρ ->
  (∀x,l.find? q=some x->cf tgt gb (l.map f) ρ=some (.rt (out x)))/\(l.find? q=none->∃ρ',cf tgt gb (l.map f) ρ=some (.nx ρ')/\R ρ')
 | [],ρ,_,h=>⟨λx hx=>(by cases hx),λ_=>⟨ρ,rfl,h⟩⟩
 | x::l,ρ,hh,h=>by
  let⟨ρ1,e1,e2,e3⟩:=hh ρ x zE h;rw[zI,cf,e1,zA];cases hq:q x with
  | true =>
   rw[vL (by simpa using hq),e2 hq];exact⟨λy hy=>(by cases hy;rfl),λhn=>(by cases hn)⟩
  | false =>
   let⟨ρ2,e4,h2⟩:=e3 hq;rw[kH (by simp[hq]),e4];exact ig R f q out (λρ x hx=>hh ρ x (zC _ hx)) h2
def bU(h:cf tgt gb ds ρ1=o)(hi:fi (ba ρ1)=some ds)(hh:hand fz 0 ρ=ρ1):cP fz fi tgt gb ρ=o:=by
 simp?[cP,hh,hi,zA,h]
def Jj(hh:hand fz 0 ρ=ρ')(hf:f (ba ρ')=some ds):aQ i fz f ρ=some (.nx (ρ'.set i (.own ds))):=by
 simp?[aQ,hh,hf,zB]
def dM(hf:f (ba ρ)=some ds)(hh:hand fz 0 ρ=ρ):aQ i fz f ρ=some (.nx (ρ.set i (.own ds))):=Jj hh hf
def pG(hh:hand fz 0 ρ=ρ')(hA:f (aR ρ)=some d)(hF:f (ba ρ')=some d)(hs:Dl.je d=false)(hr:fW d=false\/ρ'=ρ:=by first|exact .inr rfl|exact .inl rfl):Dl.aD i fz f ρ=some (.nx (ρ'.set i (.val d))):=by
 rcases hr with hr|hr
 ·simp?[Dl.aD,hA,zA,hs,yO,qP,hh,hF,zB,hr]
 ·subst hr;simp?[Dl.aD,hA,zA,hs,yO,qP,hh,hF,zB,ite_self]
def call_of(h:m ds=some d)(hf:fs ρ=some ds)(hn:ds.length=n):ah n m fs ρ=some d:=by
 unfold ah;rw[hf,zA,yL hn,h]
def cons_of(h:f ρ=some d)(hs:fs ρ=some ds):aa f fs ρ=some (d::ds):=by
 unfold aa;rw[h,hs];rfl
def aL(hf:f (aR ρ)=some d):aE f ρ=some (.rt d):=by
 simp?[aE,hf,zB]
def gG(hf:f (aR ρ)=some d):k8 f ρ=some (.nx ρ):=by
 simp?[k8,hf,zB]
def bD(h:t (aR ρ)=some false):d5 t g dC ρ=some (.nx ρ):=by
 simp[d5,h,dC]
def f9(h:t (aR ρ)=some true):d5 t g g2 ρ=g ρ:=by
 simp[d5,h]
def ji(h:g1 ρ=some (.rt d)):ar g1 g2 ρ=some (.rt d):=by
 simp?[ar,h,zA]
def C7(hf:f (aR ρ)=some d)(hs:Dl.je d=true)(hk:fk (aR ρ)=some (nD k))(ho:ρ[i]?=some (.own ds))(hl:k < ds.length):Dh i fz fk f ρ=some (.nx (ρ.set i (.own (ds.set k d)))):=by
 have hx:DQ ds.length ((k:Nat):Int)=some k:=by
  unfold DQ;rw[yL (Int.natCast_nonneg k),yL (by lia)];simp
 simp?[Dh,lW,hf,zA,hs,xH,hk,mv,ho,hx,zB]
def lp(cont:S->Bool)(st:S->S):Nat->S->S
 | 0,s=>s
 | n+1,s=>if cont s=true then lp cont st n (st s) else s
def mO{off:List Int}(h:i < off.length):aw (ag off) (nD i)=some (.int (off.getD i 0)):=lr (f:=PyData.int) (l:=off) (by simp[h])
def ud(h:i < W.length):aw (.tuple (W.map ak)) (nD i)=some (ak (az W i)):=lr (oD h)
def ue(l:List D):bS [.list l]=some (.tuple l):=rfl
def J7(l:List D):aX [.tuple l]=some (nD l.length):=rfl
def JA(l:List Int):aX [ag l]=some (nD l.length):=by
 show some (PyData.int ((l.map PyData.int).length:Nat))=_;rw[zD]
def C6(h:n<=1000):k9 [nD n]=some ((List.range n).map nD):=by
 rw[va (oH h),yG]
def zw(h:fs ρ=some [nD n])(hn:n<=1000):bQ fs ρ=some ((List.range n).map nD):=by
 unfold bQ;rw[h,zA,C6 hn]
def sub_int(i j:Int):Dl.iz (.int i) (.int j)=some (.int (i - j)):=oQ i j
def zeros(hfi:fi ρ=some ds)(hl:ds.length<=1000):aj 1 [] fi (fG 0) (λ_=>some true) (fC (.int 0)) ρ=some ((List.replicate ds.length (0:Int)).map PyData.int):=by
 rw[cw (h:=λ_=>.int 0) hfi (by lia) λd hd=>rfl];simp[List.map_const']
def Kz:∀n,(List.replicate n [PyData.int 0]).flatten=(List.replicate n (0:Int)).map PyData.int
 | 0=>rfl
 | n+1=>by rw[xE,qM,Kz n,xE];rfl
def cV(W:List Wy)(off:List Int)(left:Int)(i:Nat):Int:=min (min (off.getD i 0) (az W i).2.2) left
def Re(W:List Wy)(off:List Int)(s:Int×List Int)(i:Nat):Int×List Int:=(s.1 - cV W off s.1 i,s.2.set i (cV W off s.1 i))
def Ry(W:List Wy)(off:List Int)(amt:Int)(is:List Nat):List Int:=(is.foldl (Re W off) (amt,List.replicate W.length 0)).2
def eB(b:Bool)(G T:List Pl)(i:Nat):Pl:=(bp b G T).getD i (0,[])
def Ri(b:Bool)(G T:List Pl)(W:List Wy)(off s:List Int)(i:Nat):List Int:=List.zipWith (·+·) s (Ry W off (eB b G T i).1 (kr b W i (eB b G T i).2))
def Mz(b:Bool)(G T:List Pl)(W:List Wy)(off:List Int):List Int:=(List.range (bp b G T).length).foldl (Ri b G T W off) (List.replicate W.length 0)
def sV(h:i < (bp b G T).length):(bp b G T)[i]?=some (eB b G T i):=by simp[eB,h]
def Wd.pl(h:Wd G T W)(b:Bool):(bp b G T).length<=4:=by
 cases b
 ·exact h.g4
 ·exact h.t4
def tJ(h:(xs++ys).length<=4000):Dl.aA (.tuple xs) (.tuple ys)=some (.tuple (xs++ys)):=by
 simp?[Dl.aA,uU,J0,bu h,zB,Option.none_or,Option.some_or]
def GW(h:f ρ=some d):aJ (aa f ae) ρ=some (.tuple [d]):=by
 simp?[aJ,aa,ae,h,zA,zB];rw[bu (by simp),zB]
def av(h:g a b=some c)(ha:fa ρ=some a)(hb:fb ρ=some b):f2 g fa fb ρ=some c:=by rw[gX ha hb,h]
def L5(h:f ρ=some (.tuple ds))(h2:g ρ=some (nD k)):dw b0 f eu (nK g) ρ=some (.tuple (ds.take k)):=by
 simp?[dw,h,eu,nK,h2,zA,gI,zB,b0,uX]
def M0(h:f ρ=some (.tuple ds))(h2:g ρ=some (nD k)):dw b0 f (nK g) eu ρ=some (.tuple (ds.drop k)):=by
 simp?[dw,h,eu,nK,h2,zA,gI,zB,b0,xi]
def AI(c:List Int)(i:Nat)(v:Int)(h:i < c.length):((c.map PyData.int).take i++[PyData.int v])++(c.map PyData.int).drop (i+1)=(c.set i v).map PyData.int:=by
 rw[List.set_eq_take_append_cons_drop,yL h];simp
def Q6(i:Nat):Dl.aA (nD i) (.int 1)=some (nD (i+1)):=by
 rw[cQ];rfl
def o6(h:i < c.length)(hl:c.length<=1000):cH [ag c,nD i,.int v]=some (ag (c.set i v)):=by
 refine aI ?_;show pH [.val (ag c),.val (nD i),.val (.int v)]=_;refine aL ?_;refine av (a:=.tuple ((c.map PyData.int).take i++[PyData.int v])) (b:=.tuple ((c.map PyData.int).drop (i+1))) ?_ (av (a:=.tuple ((c.map PyData.int).take i)) (b:=.tuple [.int v]) (tJ ?_) (L5 rfl rfl) (GW rfl)) (M0 rfl (av (Q6 i) rfl rfl))
 ·rw[tJ,AI c i v h]
  ·rfl
  ·rw[AI c i v h];simp;lia
 ·simp;lia
def Nj(W:List Wy):List Int:=W.map λw=>w.2.2
def QS(G T:List Pl)(W:List Wy)(c:List Int):List Int:=Mz true G T W (Mz false G T W c)
def qR(G T:List Pl)(W:List Wy)(c:List Int)(k:Nat):Bool:=decide ((QS G T W c).getD k 0 < (Mz false G T W c).getD k 0)
def QR(G T:List Pl)(W:List Wy)(c:List Int):Option (Nat×Int):=((List.range W.length).find? (qR G T W c)).map λk=>(k,(QS G T W c).getD k 0)
def enum_zip:∀ (ds:List D) (k:Nat),br k ds=(ds.zipIdx k).map λq=>.tuple [nD q.2,q.1]
 | [],k=>rfl
 | d::ds,k=>by rw[br,enum_zip ds (k+1),List.zipIdx_cons];rfl
def wg(l:List Int)(k:Nat)(v:Int)(i:Nat):(l.set k v).getD i 0=if k=i/\i < l.length then v else l.getD i 0:=by
 simp?[zG,xI];by_cases h:k=i
 ·subst h;by_cases h2:k < l.length
  ·simp[h2]
  ·simp[h2]
 ·simp[h]
def Off(off:List Int):Prop:=∀i,0<=off.getD i 0
def QP(W:List Wy):Prop:=∀i,0<=(az W i).2.2
def Wd.lim{G T:List Pl}{W:List Wy}(h:Wd G T W):QP W:=λi=>by
 by_cases hi:i < W.length
 ·have:=h.wr (az W i) (by rw[<- eE hi];exact qA hi);lia
 ·simp?[az,zG];rw[jL (by lia)];simp
def Wd.amt{G T:List Pl}{W:List Wy}(h:Wd G T W)(b:Bool)(i:Nat):0<=(eB b G T i).1:=by
 unfold eB;rw[zG];cases e:(bp b G T)[i]? with
 | none=>simp
 | some p =>
  have hm:=qB e;cases b
  ·exact (h.ga p hm).1
  ·exact (h.ta p hm).1
def xk{l:List Int}{i:Nat}(h:l.length<=i):l.getD i 0=0:=by simp[zG,h]
def QQ(c:List Int):Nat:=(c.map Int.toNat).sum
def F8(a b:List Int):PyData.eqv (ag a) (ag b)=decide (a=b):=by
 rw[ag,ag,PyData.eqv,qg]
def aY(h:f ρ=some (.bool b)):fB f ρ=some b:=by
 simp?[fB,h,zA,gB]
def du(h:t ρ=some b):bG t ρ=some (!b):=by
 simp?[bG,h,zB]
def An(h:t ρ=some false)(h2:u ρ=some false):ki t u ρ=some false:=by
 simp?[ki,h,zA,h2]
def DB(a b:List (List Int)):cO (.list (a.map ag)) (.list (b.map ag))=some (.bool (!decide (a=b))):=by
 simp?[cO,NL,nF,jO,xH,PyData.eqv,qj,zB]
def bj(hA:f (aR ρ)=some d)(hF:f (ba ρ)=some d)(hh:hand fz 0 ρ=ρ):Dl.aD i fz f ρ=some (.nx (ρ.set i (.val d))):=by
 cases hs:Dl.je d with
 | true=>exact bq hA hs
 | false=>exact pG hh hA hF hs (.inr rfl)
def cx(h:Wd G T W):bB [aC G T W]=some .none:=by
 have hw:cC [aC G T W]=some (.bool true):=by rw[zk h.fit (by decide),h.wok]
 have hc:(bG (fB (ah 1 cC (aa (ab 0) ae)))) (aR [.val (aC G T W)])=some false:=du (aY (call_of hw rfl rfl));have:dY [.val (aC G T W)]=some (.nx [.val (aC G T W)]):=by
  unfold dY;rw[bD hc]
 show (dY [.val (aC G T W)]).map _=_;rw[this];rfl
abbrev Sp:=List (Nat×Int)×List Int
def Rq(G T:List Pl)(W:List Wy)(s:Sp):Bool:=(QR G T W s.2).isSome
def spS(G T:List Pl)(W:List Wy)(s:Sp):Sp:=match QR G T W s.2 with|some p=>(s.1++[p],s.2.set p.1 p.2)|none=>s
def low(c:List Int)(p:Nat×Int):List Int:=c.set p.1 p.2
structure Rz(W:List Wy)(s:Sp):Prop where
 len:s.2.length=W.length
 off:Off s.2
 eq:s.2=s.1.foldl low (Nj W)
 bd:s.1.length+QQ s.2<=QQ (Nj W)
 mem:∀p∈s.1,p.1 < W.length
def fin(G T:List Pl)(W:List Wy):Sp:=lp (Rq G T W) (spS G T W) Rf.turns ([],Nj W)
def NP(w:Wy):Wy:=(w.2.1,w.1,w.2.2)
structure Ord(W:List Wy)(π:List Nat):Prop where
 perm:π.Perm (List.range W.length)
 up:π.Pairwise λi j=>(az W i).2.1 < (az W j).2.1\/((az W i).2.1=(az W j).2.1/\(az W i).1 < (az W j).1)
def qm(W:List Wy)(π:List Nat):List Wy:=π.map λi=>NP (az W i)
def Ae(P:List Int)(π:List Nat):List Int:=π.map λi=>P.getD i 0
def Ord.len(o:Ord W π):π.length=W.length:=by rw[o.perm.length_eq,zR]
def Ord.lt(o:Ord W π)(hk:k < W.length):π.getD k 0 < W.length:=by
 have h:k < π.length:=by rw[o.len];exact hk
 have:=o.perm.mem_iff.mp (qA h);rw[zG,zK h];simpa using this
def kc(o:Ord W π):(qm W π).length=W.length:=by simp[qm,o.len]
def JV(o:Ord W π):(Ae P π).length=W.length:=by simp[Ae,o.len]
def zm(o:Ord W π)(hk:k < W.length):az (qm W π) k=NP (az W (π.getD k 0)):=by
 have h:k < π.length:=by rw[o.len];exact hk
 simp[az,qm,h,zG]
def GF(o:Ord W π)(hk:k < W.length):(Ae P π).getD k 0=P.getD (π.getD k 0) 0:=by
 have h:k < π.length:=by rw[o.len];exact hk
 simp[Ae,h,zG]
def Ju(b:Bool)(w:Wy):bE (!b) (NP w)=bE b w:=by cases b<;>rfl
def Ik(b:Bool)(w:Wy):bT (!b) (NP w)=bT b w:=by cases b<;>rfl
def Ord.ris(o:Ord W π):yd (qm W π):=by
 unfold yd qm;rw[jE];exact o.up
def map_getD(l:List Nat):(List.range l.length).map (λk=>l.getD k 0)=l:=by
 apply jH
 ·simp
 ·intro i h1 h2;simp[h2]
def Fq(o:Ord W π)(b:Bool)(p:Int):((own (!b) (qm W π) p).map λk=>π.getD k 0).Perm (own b W p):=by
 have hl:(qm W π).length=W.length:=kc o;have e:((own (!b) (qm W π) p).map λk=>π.getD k 0)=π.filter λi=>decide (bE b (az W i)=p):=by
  conv=>rhs;rw[<- map_getD π,kE,o.len]
  unfold own;rw[hl]
  congr 1
  refine List.filter_congr λk hk=>?_;have hk':k < W.length:=by simpa using hk
  rw[zm o hk',Ju];rfl
 rw[e];exact o.perm.filter _
def FW(o:Ord W π)(b:Bool)(p:Int):(NK (!b) (qm W π) p).Perm (NK b W p):=by
 have hl:(qm W π).length=W.length:=kc o;rw[<- j3,<- j3];have:=(Fq o b p).map λi=>bT b (az W i);rw[zM] at this;refine List.Perm.trans (List.Perm.of_eq ?_) this;refine yI λk hk=>?_;have hk':k < W.length:=by have:=(d4.mp hk).1;rwa [hl] at this
 show bT (!b) (az (qm W π) k)=bT b (az W (π.getD k 0));rw[zm o hk',Ik]
def Ord.wd(h:Wd G T W)(o:Ord W π):Wd T G (qm W π) where
 g1:=h.t1
 g4:=h.t4
 t1:=h.g1
 t4:=h.g4
 ga:=h.ta
 ta:=h.ga
 gl:=λi p e=>(h.tl i p e).trans (FW o true i).symm
 tl:=λi p e=>(h.gl i p e).trans (FW o false i).symm
 wr:=λw hw=>by
  let⟨i,hi,rfl⟩:=List.mem_map.mp hw;have hi':i < W.length:=by have:=o.perm.mem_iff.mp hi;simpa using this
  have:=h.wr (az W i) (by rw[<- eE hi'];exact qA _);exact⟨this.2.1,this.1,this.2.2⟩
 wp:=o.ris
 wl:=by rw[kc o];exact h.wl
def Ci(b:Bool)(G T:List Pl):bp (!b) T G=bp b G T:=by cases b<;>rfl
def M1(b:Bool)(G T:List Pl)(i:Nat):eB (!b) T G i=eB b G T i:=by unfold eB;rw[Ci]
def iL(b:Bool)(W:List Wy)(P:List Int)(p:Int):Int:=((own b W p).map λi=>P.getD i 0).sum
def Gx{l m:List Int}(p:l.Perm m):l.sum=m.sum:=by
 induction p with
 | nil=>rfl
 | cons x _ ih=>simp[ih]
 | swap x y l=>simp?[List.sum_cons];lia
 | trans _ _ h1 h2=>exact h1.trans h2
def Mr(o:Ord W π)(b:Bool)(p:Int):iL (!b) (qm W π) (Ae P π) p=iL b W P p:=by
 have hl:(qm W π).length=W.length:=kc o;have:=Gx ((Fq o b p).map λi=>P.getD i 0);unfold iL;rw[<- this,zM]
 congr 1
 refine yI λk hk=>?_;have hk':k < W.length:=by have:=(d4.mp hk).1;rwa [hl] at this
 exact GF o hk'
def rm(L:List Int)(x:Int):Nat:=L.findIdx λo=>decide (o=x)
def uV(b:Bool)(G T:List Pl)(W:List Wy)(P:List Int)(k:Nat):Bool :=
 decide (iL b W P (bE b (az W k)) < (eB b G T (bE b (az W k)).toNat).1) ||
 ((eB b G T (bE b (az W k)).toNat).2.drop (rm (eB b G T (bE b (az W k)).toNat).2 (bT b (az W k))+1)).any λo=>decide (0 < P.getD (pY b W (bE b (az W k)) o) 0)
def gU(G T:List Pl)(W:List Wy)(P:List Int)(k:Nat):Nat :=
 if P.getD k 0=(az W k).2.2 then 0 else if uV false G T W P k=false then 1 else if uV true G T W P k=false then 2 else 3
def o4(G T:List Pl)(W:List Wy)(P:List Int):List Nat:=(List.range W.length).filter λk=>decide (gU G T W P k=3)
def Wd.end_pl(h:Wd G T W)(b:Bool)(hk:k < W.length):0<=bE b (az W k)/\(bE b (az W k)).toNat < (bp b G T).length/\((bE b (az W k)).toNat:Int)=bE b (az W k):=by
 have:=h.wr (az W k) (by rw[<- eE hk];exact qA _);cases b
 ·simp?[bE,bp,yO,qP];lia
 ·simp?[bE,bp,xH];lia
structure Pn(G T:List Pl)(W:List Wy)(P:List Int):Prop where
 len:P.length=W.length
 bd:∀k,k < W.length->0<=P.getD k 0/\P.getD k 0<=(az W k).2.2
 am:∀ (b:Bool) (i:Nat),i < (bp b G T).length->iL b W P i<=(eB b G T i).1
def Pn.tu(h:Wd G T W)(o:Ord W π)(p:Pn G T W P):Pn T G (qm W π) (Ae P π) where
 len:=by rw[JV o,kc o]
 bd:=λk hk=>by
  rw[kc o] at hk;rw[GF o hk,zm o hk];exact p.bd _ (o.lt hk)
 am:=λb i hi=>by
  have:=p.am (!b) i (by rw[<- Ci b T G] at hi;exact hi);rw[<- Mr o (!b),<- M1 (!b),Bool.not_not] at this;exact this
section
variable {off:List Int}
def rH(h:∀k,k < W.length->P.getD k 0=Q.getD k 0):iL b W P p=iL b W Q p:=by
 unfold iL
 congr 1
 exact yI λk hk=>h k (d4.mp hk).1
end
def qv(G T:List Pl)(W:List Wy)(P:List Int):Bool :=
 ((List.range G.length).all λi=>decide (iL false W P i<=(eB false G T i).1))&&((List.range T.length).all λi=>decide (iL true W P i<=(eB true G T i).1))
def zs(n:Nat):List Int:=List.replicate n 0
def lE(d:Nat->Int)(G T:List Pl)(W:List Wy):Nat->List Int
 | 0=>[]
 | k+1=>if qv G T W ((lE d G T W k++[d k])++zs (W.length - (lE d G T W k++[d k]).length))=true then lE d G T W k++[d k] else lE d G T W k++[0]
section
variable {W:List Wy}{G T:List Pl}{d:Nat->Int}
def gN:qv G T W P=true↔∀ (b:Bool) (i:Nat),i < (bp b G T).length->iL b W P i<=(eB b G T i).1:=by
 unfold qv;rw[zF,xG,xG];constructor
 ·rintro⟨h1,h2⟩ b i hi;cases b
  ·exact yQ (h1 i (by simpa [bp] using hi))
  ·exact yQ (h2 i (by simpa [bp] using hi))
 ·intro h;exact⟨λi hi=>yA (h false i (by simpa [bp] using hi)),λi hi=>yA (h true i (by simpa [bp] using hi))⟩
def lT:∀k,(lE d G T W k).length=k
 | 0=>rfl
 | k+1=>by
  unfold lE;split<;>simp[lT k]
def Ft(h:∀k,P.getD k 0=0):iL b W P p=0:=by
 unfold iL;have:((own b W p).map λi=>P.getD i 0)=(own b W p).map λ_=>(0:Int):=yI λk _=>h k;rw[this];generalize own b W p=l
 induction l with
 | nil=>rfl
 | cons a l ih=>simp[ih]
def KA(n k:Nat):(zs n).getD k 0=0:=by
 simp?[zs,zG,yX];split<;>rfl
def EU(l:List Int)(n k:Nat):(l++zs n).getD k 0=l.getD k 0:=by
 by_cases h:k < l.length
 ·simp[zG,yS h]
 ·have h':l.length<=k:=by lia
  have:=KA n (k - l.length);simp?[zG] at this ⊢;rw[yT h',this];simp[h']
def QC(l:List Int)(k:Nat):(l++[0]).getD k 0=l.getD k 0:=EU l 1 k
def AO(h:Wd G T W):∀k,qv G T W (lE d G T W k)=true
 | 0=>gN.mpr λb i hi=>by
  rw[Ft λk=>by simp[lE]];exact h.amt b i
 | k+1=>by
  unfold lE;split
  ·rename_i e;refine gN.mpr λb i hi=>?_;have:=gN.mp e b i hi;rw[rH (Q:=lE d G T W k++[d k]) λj _=>EU _ _ _] at this;exact this
  ·refine gN.mpr λb i hi=>?_;rw[rH (Q:=lE d G T W k) λj _=>QC _ _];exact gN.mp (AO h k) b i hi
def AD(hd:∀k,k < W.length->0<=d k/\d k<=(az W k).2.2)(hl:QP W):∀k,k<=W.length->∀j,j < k->0<=(lE d G T W k).getD j 0/\(lE d G T W k).getD j 0<=(az W j).2.2
 | 0,_,j,hj=>by lia
 | k+1,hk,j,hj=>by
  have ih:=AD hd hl k (by lia) j;have len:(lE d G T W k).length=k:=lT k;have key:∀x,(0<=x/\x<=(az W k).2.2)->0<=(lE d G T W k++[x]).getD j 0/\(lE d G T W k++[x]).getD j 0<=(az W j).2.2:=λx hx=>by
   by_cases hjk:j < k
   ·rw[zG,yS (by lia),<- zG];exact ih hjk
   ·have:j=k:=by lia
    subst this;rw[zG,yT (by lia),len];simpa using hx
  unfold lE;split
  ·exact key _ (hd k (by lia))
  ·exact key _ ⟨by lia,hl k⟩
def Mm(h:Wd G T W)(hd:∀k,k < W.length->0<=d k/\d k<=(az W k).2.2):Pn G T W (lE d G T W W.length) where
 len:=lT _
 bd:=AD hd h.lim W.length (yM _)
 am:=gN.mp (AO h _)
end
section
variable {P off:List Int}
def GR:∀ (xs:List Nat),(∀i∈xs,0<=off.getD i 0)->0<=(xs.map λi=>off.getD i 0).sum
 | [],_=>by simp
 | i::xs,h=>by
  have:=GR xs λj hj=>h j (zC _ hj);have:=h i zE;rw[zI,List.sum_cons];lia
def Bs:∀ (xs:List Nat),(∀i∈xs,0<=P.getD i 0)->(0 < (xs.map λi=>P.getD i 0).sum↔(xs.any λi=>decide (0 < P.getD i 0))=true)
 | [],_=>by simp
 | i::xs,h=>by
  have ih:=Bs xs λj hj=>h j (zC _ hj);have h0:=GR (off:=P) xs λj hj=>h j (zC _ hj);have hi:=h i zE;rw[zI,List.sum_cons,vB,jB,zJ,<- ih];lia
def IR(h:Wd G T W){b:Bool}(hk:k < W.length) :
  let i:=(bE b (az W k)).toNat;let L:=(eB b G T i).2
  kr b W i L=(L.take (rm L (bT b (az W k)))).map (pY b W i)++k::(L.drop (rm L (bT b (az W k))+1)).map (pY b W i):=by
 intro i L;let⟨h1,h2,h3⟩:=h.end_pl b hk;have e:=sV h2;have hm:bT b (az W k)∈L:=by
  rw[(h.lik e).mem_iff,<- j3];exact List.mem_map.mpr ⟨k,d4.mpr ⟨hk,h3.symm⟩,rfl⟩
 have hlt:rm L (bT b (az W k)) < L.length:=by
  unfold rm;exact kJ ⟨_,hm,by simp⟩
 have hg:L[rm L (bT b (az W k))]=bT b (az W k):=by
  have:=List.findIdx_getElem (w:=hlt);exact yQ this
 have hx:pY b W i (bT b (az W k))=k:=sS h.wp (d4.mpr ⟨hk,h3.symm⟩);unfold kr
 conv=>lhs;rw[<- List.take_append_drop (rm L (bT b (az W k))) L,kX hlt,hg,jA,zI,hx]
end
def rQ{tt:Dl.Env->Option Bool}{te:Dl.Env->Option D}{r:List (Option D)}{x y h:Nat->D}{p:Nat->Bool}:∀ (is:List Nat),
  (∀i∈is,tt (some (x i)::some (y i)::r)=some (p i)/\(p i=true->te (some (x i)::some (y i)::r)=some (h i))) ->
  aZ (hC 0 1) tt te (none::none::r) (is.map λi=>.tuple [x i,y i])=some ((is.filter p).map h)
 | [],_=>rfl
 | i::is,hh=>by
  let⟨h1,h2⟩:=hh i zE;have ih:=rQ is λj hj=>hh j (zC _ hj);have hg:hC 0 1 (none::none::r) (.tuple [x i,y i])=some (some (x i)::some (y i)::r):=by
   simp?[hC,isFree,xQ,yY,qG,Option.isNone_none,jO,xH,yV,yW]
  rw[zI,aZ,hg];simp?[zA,h1];cases hp:p i with
  | true=>simp[h2 hp,ih,hp]
  | false=>simp[ih,hp]
def jd{cs:List Nat}{fi:Dl.Env->Option (List D)}{tt:Dl.Env->Option Bool}{te:Dl.Env->Option D}{ρ:Dl.Env}{n:Nat}{x y h:Nat->D}{p:Nat->Bool}(hfi:fi ρ=some ((List.range n).map λi=>.tuple [x i,y i]))(hl:n<=1000)
  (hh:∀i,i < n->tt (some (x i)::some (y i)::cs.map λj=>(ρ[j]?).getD none)=some (p i)/\(p i=true->te (some (x i)::some (y i)::cs.map λj=>(ρ[j]?).getD none)=some (h i))) :
  aj 2 cs fi (hC 0 1) tt te ρ=some (((List.range n).filter p).map h):=by
 have:=rQ (tt:=tt) (te:=te) (r:=cs.map λj=>(ρ[j]?).getD none) (p:=p) (h:=h) (List.range n) λi hi=>hh i (by simpa using hi);simp?[aj,hfi,zA,dm,List.replicate,xF,xO,this];refine bu ?_;rw[zD];refine yD (xP _ _) ?_;rw[zR];lia
def mX{W:List Wy}{P:List Int}(h:P.length=W.length):ja (W.map ak) (P.map PyData.int)=(List.range W.length).map λi=>.tuple [ak (az W i),.int (P.getD i 0)]:=by
 apply List.ext_getElem?;intro i;by_cases hi:i < W.length
 ·have hz:i < (ja (W.map ak) (P.map PyData.int)).length:=by rw[mn];simp[h];exact hi
  rw[zK hz];let⟨x,y,e1,e2,e3⟩:=o8 (zK hz);rw[zO,oD hi] at e1;rw[zO,zK (by lia)] at e2;cases e1;have e2:PyData.int P[i]=y:=by simpa using e2
  rw[e3,<- e2];have:i < P.length:=by lia
  simp[hi,this,zG]
 ·rw[jL (by rw[mn];simp;lia),jL (by simp;lia)]
def Sm(P:List Int):Prop:=∀k,-1000000<=P.getD k 0/\P.getD k 0<=1000000
def BF(hs:Sm P)(hw:W.length<=16)(b:Bool)(p:Int):Mu ((own b W p).map λi=>P.getD i 0)=true:=by
 unfold Mu;rw[zF,zJ,xG];refine⟨?_,λx hx=>?_⟩
 ·have:=tL b W p;rw[zD];lia
 ·let⟨i,_,rfl⟩:=List.mem_map.mp hx;rw[zF,zJ,zJ];exact hs i
def ni(h:Wd G T W)(hp:P.length=W.length)(hs:Sm P)(b:Bool)(p:Int):cy [aC G T W,ag P,.int (sI b),.int p]=some (.int (iL b W P p)):=by
 have hw:=h.wl;refine aI ?_;show sC [.val (aC G T W),.val (ag P),.val (.int (sI b)),.val (.int p)]=_;have hz:eS (aa (f2 aw (ab 0) (fC (.int 2))) (aa (ab 1) ae)) [some (aC G T W),some (ag P),some (.int (sI b)),some (.int p)]=some ((List.range W.length).map λi=>.tuple [ak (az W i),.int (P.getD i 0)]):=by
  rw[<- mX hp];rfl
 have c:aj 2 [2,3] (eS (aa (f2 aw (ab 0) (fC (.int 2))) (aa (ab 1) ae))) (hC 0 1) (fB (f2 bo (f2 aw (ab 0) (ab 2)) (ab 3))) (ab 1) [some (aC G T W),some (ag P),some (.int (sI b)),some (.int p)]=some ((own b W p).map λi=>.int (P.getD i 0)):=by
  rw[jd (p:=λi=>decide (bE b (az W i)=p)) (h:=λi=>.int (P.getD i 0)) hz (by lia) λi hi=>⟨?_,λ_=>rfl⟩]
  ·rfl
  ·show fB (f2 bo (f2 aw (ab 0) (ab 2)) (ab 3)) [some (ak (az W i)),some (.int (P.getD i 0)),some (.int (sI b)),some (.int p)]=_;exact aY (by rw[gX (a:=.int (bE b (az W i))) (b:=.int p) (av (l8 b _) rfl rfl) rfl,cI])
 refine aL ?_;have e:((own b W p).map λi=>PyData.int (P.getD i 0))=((own b W p).map λi=>P.getD i 0).map PyData.int:=by rw[zM];rfl
 show aS qq (aa (bc (aj 2 [2,3] (eS (aa (f2 aw (ab 0) (fC (.int 2))) (aa (ab 1) ae))) (hC 0 1) (fB (f2 bo (f2 aw (ab 0) (ab 2)) (ab 3))) (ab 1))) ae) [some (aC G T W),some (ag P),some (.int (sI b)),some (.int p)]=_;rw[e] at c;simp?[aS,aa,ae,bc,c,zB,zA];show qq [.list (((own b W p).map λi=>P.getD i 0).map PyData.int)]=_;simp?[qq,dI,oneOf,eN,zA,bC,BF hs hw b p,xH];rfl
def pO(L:List Pl):br 0 (L.map bx)=(List.range L.length).map λi=>.tuple [nD i,bx (L.getD i (0,[]))]:=by
 rw[enum_zip];apply jH
 ·simp
 ·intro i h1 h2;have:i < L.length:=by simpa using h2
  simp[this,zG]
def r9(is:List Nat):gx [.list (is.map λi=>.bool (p i))]=some (.bool (is.all p)):=by
 have:∀is:List Nat,boolsOf (is.map λi=>PyData.bool (p i))=some (is.map p):=λis=>by
  induction is with
  | nil=>rfl
  | cons i is ih=>simp[boolsOf,ih]
 simp?[gx,oneOf,zA,this,zB,List.all_map];rfl
def BL(h:Wd G T W)(hp:P.length=W.length)(hs:Sm P)(b:Bool):cT [aC G T W,ag P,.int (sI b)]=some (.bool ((List.range (bp b G T).length).all λi=>decide (iL b W P i<=(eB b G T i).1))):=by
 have hl:=h.pl b;refine aI ?_;show iK [.val (aC G T W),.val (ag P),.val (.int (sI b))]=_;have he:bf (aa (f2 aw (ab 0) (ab 2)) ae) [some (aC G T W),some (ag P),some (.int (sI b))]=some ((List.range (bp b G T).length).map λi=>.tuple [nD i,bx (eB b G T i)]):=by
  have:=pO (bp b G T);unfold eB;rw[<- this];cases b<;>rfl
 have c:=jd (cs:=[0,1,2]) (tt:=λ_=>some true) (te:=f2 Cf (ah 4 cy (aa (ab 2) (aa (ab 3) (aa (ab 4) (aa (ab 0) ae))))) (f2 aw (ab 1) (fC (.int 0)))) (p:=λ_=>true) (h:=λi=>.bool (decide (iL b W P i<=(eB b G T i).1))) he (by lia) λi hi=>⟨rfl,λ_=>av (a:=.int (iL b W P i)) (b:=.int (eB b G T i).1) rfl (call_of (ni h hp hs b i) rfl rfl) rfl⟩
 refine aL ?_;show aS gx (aa (bc (aj 2 [0,1,2] (bf (aa (f2 aw (ab 0) (ab 2)) ae)) (hC 0 1) (λ_=>some true) (f2 Cf (ah 4 cy (aa (ab 2) (aa (ab 3) (aa (ab 4) (aa (ab 0) ae))))) (f2 aw (ab 1) (fC (.int 0)))))) ae) [some (aC G T W),some (ag P),some (.int (sI b))]=_;simp?[aS,aa,ae,bc,c,zB,zA];rw[show (List.range (bp b G T).length).filter (λ_=>true)=List.range (bp b G T).length by simp,r9]
def GO(ha:fa ρ=some (.bool true))(hb:fb ρ=some d):kj fa fb ρ=some d:=by
 simp?[kj,ha,zA,hb]
def Jr(ha:fa ρ=some (.bool false)):kj fa fb ρ=some (.bool false):=by
 simp?[kj,ha,zA]
def ID(ha:fa ρ=some (.bool a))(hb:fb ρ=some (.bool b)):kj fa fb ρ=some (.bool (a&&b)):=by
 cases a
 ·exact Jr ha
 ·exact GO ha hb
def iA(h:f ρ=some d):aS g (aa f ae) ρ=g [d]:=by
 simp?[aS,aa,ae,h,zB,zA]
def mP{l:List α}(h:f ρ=some (.tuple (l.map k))):aS aX (aa f ae) ρ=some (nD l.length):=by
 rw[iA h,J7,zD]
def KG(W:List Wy)(P:List Int):Bool:=(List.range W.length).all λk=>decide (0<=P.getD k 0)&&decide (P.getD k 0<=(az W k).2.2)
def AW(b:Bool)(G T:List Pl)(W:List Wy)(P:List Int):Bool:=(List.range (bp b G T).length).all λi=>decide (iL b W P i<=(eB b G T i).1)
def MI(G T:List Pl)(W:List Wy)(P:List Int):Bool:=KG W P&&(AW false G T W P&&AW true G T W P)
def tI(hp:P.length=W.length):MI G T W P=true↔Pn G T W P:=by
 simp?[MI,KG,AW,zF,xG,zS,zJ];constructor
 ·rintro⟨h1,h2,h3⟩;exact⟨hp,h1,λb=>by cases b<;>assumption⟩
 ·intro p;exact⟨p.bd,p.am false,p.am true⟩
def Mv(P:List Int):nU (ag P)=true:=rfl
def sQ(h:Wd G T W)(hp:P.length=W.length)(hs:Sm P):bb [aC G T W,ag P]=some (.bool (MI G T W P)):=by
 have hw:=h.wl;have hlen:(P.map PyData.int).length=W.length:=by rw[zD,hp]
 refine aI ?_;show nv [.val (aC G T W),.val (ag P),.non]=_;unfold nv;have t1:Dl.aD 2 [0] (f2 aw (ab 0) (fC (.int 2))) [.val (aC G T W),.val (ag P),.non]=some (.nx [.val (aC G T W),.val (ag P),.val (.tuple (W.map ak))]):=cL (d:=.tuple (W.map ak)) rfl rfl rfl rfl;rw[ai t1];have el:bH [ag P,nD W.length,nD W.length]=some (.bool true):=by
  rw[show nD W.length=.int ((W.length:Nat):Int) from rfl,dJ (Mv P)];simp[long,ag,hp]
 have hl:∀ρ:Dl.Env,ab 2 ρ=some (.tuple (W.map ak))->aS aX (aa (ab 2) ae) ρ=some (nD W.length):=λρ hr=>mP hr;have c1:(bG (fB (ah 3 bH (aa (ab 1) (aa (aS aX (aa (ab 2) ae)) (aa (aS aX (aa (ab 2) ae)) ae)))))) (aR [.val (aC G T W),.val (ag P),.val (.tuple (W.map ak))])=some false :=
  du (aY (call_of el (cons_of rfl (cons_of (hl _ rfl) (cons_of (hl _ rfl) rfl))) rfl))
 rw[ai (bD c1)];have hz:eS (aa (ab 2) (aa (ab 1) ae)) [some (aC G T W),some (ag P),some (.tuple (W.map ak))]=some ((List.range W.length).map λi=>.tuple [ak (az W i),.int (P.getD i 0)]):=by
  rw[<- mX hp];rfl
 have c2:=jd (cs:=[]) (tt:=λ_=>some true) (te:=ah 3 cg (aa (ab 1) (aa (fC (.int 0)) (aa (f2 aw (ab 0) (fC (.int 2))) ae)))) (p:=λ_=>true) (h:=λk=>.bool (decide (0<=P.getD k 0)&&decide (P.getD k 0<=(az W k).2.2))) hz (by lia)
  λi hi=>⟨rfl,λ_=>call_of (iB (d:=.int (P.getD i 0)) rfl 0 (az W i).2.2) rfl rfl⟩
 have hall:(fB (aS gx (aa (bc (aj 2 [] (eS (aa (ab 2) (aa (ab 1) ae))) (hC 0 1) (λ_=>some true) (ah 3 cg (aa (ab 1) (aa (fC (.int 0)) (aa (f2 aw (ab 0) (fC (.int 2))) ae)))))) ae))) [some (aC G T W),some (ag P),some (.tuple (W.map ak))]=some (KG W P):=by
  refine aY ?_;simp?[aS,aa,ae,bc,c2,zB,zA];rw[show (List.range W.length).filter (λ_=>true)=List.range W.length by simp,r9];rfl
 have k0:=BL h hp hs false;have k1:=BL h hp hs true;cases hb:KG W P with
 | false =>
  rw[hb] at hall;refine ji ((f9 (du hall)).trans ?_);rw[MI,hb];exact aL rfl
 | true =>
  rw[hb] at hall;rw[ai (bD (du hall)),MI,hb,jK];exact aL (ID (call_of k0 rfl rfl) (call_of k1 rfl rfl))
def fP(hk:k < W.length):az W k∈W:=eE hk ▸ qA hk
def Pn.smP(h:Wd G T W)(p:Pn G T W P):Sm P:=λk=>by
 by_cases hk:k < W.length
 ·have:=p.bd k hk;have:=(h.wr _ (fP hk)).2.2.2;lia
 ·rw[zG,jL (by rw[p.len];lia)];simp
def gw(h:Wd G T W)(p:Pn G T W P):bb [aC G T W,ag P]=some (.bool true):=by
 rw[sQ h p.len (p.smP h),(tI p.len).mpr p]
def hU(h:Wd G T W)(p:Pn G T W P):cK [aC G T W,ag P]=some .none:=by
 have:eX [.val (aC G T W),.val (ag P)]=some (.nx [.val (aC G T W),.val (ag P)]):=by
  unfold eX;refine (ai (gG (call_of (cx h) rfl rfl))).trans ?_;exact bD (du (aY (call_of (gw h p) rfl rfl)))
 show (eX [.val (aC G T W),.val (ag P)]).map _=_;rw[this];rfl
def ml(W:List Wy)(i:Nat):List Int:=[(az W i).2.1,(az W i).1]
def fV(W:List Wy):List (List Int):=(List.range W.length).map (ml W)
def cN(W:List Wy):List Nat:=oN (λi=>rk (fV W) ((fV W).getD i [])) (List.range W.length) 0
def FA(z:Nat->Int)(n:Nat):oN z ((List.range n).map nD) .none=(oN z (List.range n) 0).map nD:=by
 unfold oN;rw[zD];split
 ·rfl
 ·rename_i h;rw[zM];let⟨hp,_⟩:=SP.f7 (z:=z) (n:=(List.range n).length) (by lia);refine yI λi hi=>?_;have hi':i < (List.range n).length:=by have:=hp.mem_iff.mp hi;simpa using this
  rw[zR] at hi';simp[hi']
def EF(hi:i < W.length):(fV W).getD i []=ml W i:=by
 simp[fV,hi]
def tP(h:yd W):Ord W (cN W) where
 perm:=fu _ _ _
 up:=by
  have hp:(cN W).Perm (List.range W.length):=fu _ _ _;have hs:(cN W).Pairwise λi j=>rk (fV W) (ml W i)<=rk (fV W) (ml W j):=by
   refine p5 _ _ _ (λi=>rk (fV W) (ml W i)) λi hi=>?_;rw[zR] at hi;have e:(List.range W.length).getD i 0=i:=by simp[hi]
   show rk (fV W) ((fV W).getD i [])=rk (fV W) (ml W ((List.range W.length).getD i 0));rw[e,EF hi]
  have hn:(cN W).Nodup:=hp.nodup_iff.mpr List.nodup_range;refine (hs.and hn).imp_of_mem λ{i j} hi hj hij=>?_;have hi':i < W.length:=by have:=hp.mem_iff.mp hi;simpa using this
  have hj':j < W.length:=by have:=hp.mem_iff.mp hj;simpa using this
  let⟨hle,hne⟩:=hij;have mj:ml W j∈fV W:=List.mem_map.mpr ⟨j,by simpa using hj',rfl⟩;have n1:Dl.lexLt (ml W j) (ml W i)=false:=by
   rw[Bz mj,xB];lia
  simp?[ml,HT.lexLt] at n1;by_cases e1:(az W j).2.1=(az W i).2.1
  ·rw[yL e1] at n1;by_cases e2:(az W j).1=(az W i).1
   ·exact absurd (sX h hj' hi' e2 e1).symm hne
   ·rw[yN e2,xB] at n1;exact .inr ⟨e1.symm,by lia⟩
  ·rw[yN e1,xB] at n1;exact .inl (by lia)
def tup_is(h:fs ρ=some ds)(hl:ds.length<=1000):aJ fs ρ=some (.tuple ds):=by
 simp?[aJ,h,zA,bu (show ds.length<=4000 by lia),zB]
def QE(w:Wy):aw (ak w) (.int 0)=some (.int w.1):=rfl
def Qd(w:Wy):aw (ak w) (.int 1)=some (.int w.2.1):=rfl
def jb(h:Wd G T W):bg [aC G T W]=some (.list ((cN W).map nD)):=by
 have hw:=h.wl;have t1:Dl.aD 1 [0] (f2 aw (ab 0) (fC (.int 2))) [.val (aC G T W),.non]=some (.nx [.val (aC G T W),.val (.tuple (W.map ak))]):=cL (d:=.tuple (W.map ak)) rfl rfl rfl rfl;have hl:(aS aX (aa (ab 1) ae)) [some (aC G T W),some (.tuple (W.map ak))]=some (nD W.length):=mP (l:=W) (k:=ak) rfl;have hk:g9 (aJ (aa (f2 aw (f2 aw (ab 1) (ab 0)) (fC (.int 1))) (aa (f2 aw (f2 aw (ab 1) (ab 0)) (fC (.int 0))) ae))) [none,some (.tuple (W.map ak))] ((List.range W.length).map nD)=some (((List.range W.length).map nD).map λd=>ag (ml W (gY d).toNat)):=by
  refine mS λd hd=>?_;let⟨j,hj,rfl⟩:=List.mem_map.mp hd;have hj':j < W.length:=by simpa using hj
  have a:∀ρ:Dl.Env,ab 1 ρ=some (.tuple (W.map ak))->ab 0 ρ=some (nD j)->(f2 aw (ab 1) (ab 0)) ρ=some (ak (az W j)):=λρ e1 e2=>av (ud hj') e1 e2;show aJ (aa (f2 aw (f2 aw (ab 1) (ab 0)) (fC (.int 1))) (aa (f2 aw (f2 aw (ab 1) (ab 0)) (fC (.int 0))) ae)) [some (nD j),some (.tuple (W.map ak))]=_;have c2:(aa (f2 aw (f2 aw (ab 1) (ab 0)) (fC (.int 1))) (aa (f2 aw (f2 aw (ab 1) (ab 0)) (fC (.int 0))) ae)) [some (nD j),some (.tuple (W.map ak))]=some [.int (az W j).2.1,.int (az W j).1] :=
   cons_of (av (Qd (az W j)) (a _ rfl rfl) rfl) (cons_of (av (QE (az W j)) (a _ rfl rfl) rfl) rfl)
  rw[tup_is c2 (by simp)];simp[gY,ml,ag]
 have hr:rowsOf (((List.range W.length).map nD).map λd=>ag (ml W (gY d).toNat))=some (fV W):=by
  have e:(((List.range W.length).map nD).map λd=>ag (ml W (gY d).toNat))=(fV W).map ag:=by
   simp?[zM,fV];refine yI λj hj=>?_;simp[gY]
  rw[e,k6];intro ns hns;let⟨j,_,rfl⟩:=List.mem_map.mp hns;exact List.cons_ne_nil _ _
 refine aI ?_;show fA [.val (aC G T W),.non]=_;unfold fA;rw[ai t1];refine aL ?_;have es:qb [1] (aa (aS aX (aa (ab 1) ae)) ae) (aJ (aa (f2 aw (f2 aw (ab 1) (ab 0)) (fC (.int 1))) (aa (f2 aw (f2 aw (ab 1) (ab 0)) (fC (.int 0))) ae))) [some (aC G T W),some (.tuple (W.map ak))]=some ((cN W).map nD):=by
  unfold qb;rw[cons_of hl rfl,zA];show (if (0:Int)<=((W.length:Nat):Int)/\((W.length:Nat):Int) < 64 then _ else none)=_;rw[yL ⟨by lia,by lia⟩,yG];show (g9 _ [none,some (.tuple (W.map ak))] ((List.range W.length).map nD)).bind _=_;rw[hk,zA,hr,zB];exact jC some (FA _ _)
 show bc _ [some (aC G T W),some (.tuple (W.map ak))]=_;simp?[bc,es,zB]
def kf{cs:List Nat}{fi:Dl.Env->Option (List D)}{te:Dl.Env->Option D}{ρ:Dl.Env}{is:List Nat}{f:Nat->D}(hfi:fi ρ=some (is.map nD))(hl:is.length<=1000)(hh:∀i∈is,te (some (nD i)::cs.map λj=>(ρ[j]?).getD none)=some (f i)):aj 1 cs fi (fG 0) (λ_=>some true) te ρ=some (is.map f):=by
 rw[cw (h:=λd=>f (gY d).toNat) hfi (by rw[zD];lia) λd hd=>?_]
 ·rw[zM];refine jC some (yI λi _=>?_);simp[gY]
 ·let⟨i,hi,rfl⟩:=List.mem_map.mp hd;rw[hh i hi];simp[gY]
def ma(h:m ds=some (.list es))(hf:fs ρ=some ds)(hn:ds.length=n):aB (ah n m fs) ρ=some es:=by
 simp?[aB,call_of h hf hn,zA,eN]
def A7(h:yd W)(hi:i∈cN W):i < W.length:=by
 have:=(tP h).perm.mem_iff.mp hi;simpa using this
def vj(h:yd W):(cN W).length=W.length:=(tP h).len
def nE:∀ (l:List Wy),aZ (Hs 0 1 2) (λ_=>some true) (aJ (aa (ab 1) (aa (ab 0) (aa (ab 2) ae)))) (none::none::none::r) (l.map ak)=some ((l.map NP).map ak)
 | []=>rfl
 | w::l=>by
  have ih:=nE (r:=r) l;have hg:Hs 0 1 2 (none::none::none::r) (ak w)=some (some (.int w.1)::some (.int w.2.1)::some (.int w.2.2)::r):=rfl;rw[zI,aZ,hg,zA];have e:aJ (aa (ab 1) (aa (ab 0) (aa (ab 2) ae))) (some (.int w.1)::some (.int w.2.1)::some (.int w.2.2)::r)=some (ak (NP w)):=rfl;simp?[zA,xH,e,ih,zB,zI]
def GQ(h:Wd G T W):eh [aC G T W]=some (aC T G (qm W (cN W))):=by
 have hw:=h.wl;have hn:=vj h.wp;refine aI ?_;show pE [.val (aC G T W),.non]=_;unfold pE;refine (ai (gG (call_of (cx h) rfl rfl))).trans ?_;have c:aj 1 [0] (aB (ah 1 bg (aa (ab 0) ae))) (fG 0) (λ_=>some true) (f2 aw (f2 aw (ab 1) (fC (.int 2))) (ab 0)) [some (aC G T W),none]=some ((cN W).map λi=>ak (az W i)) :=
  kf (ma (jb h) rfl rfl) (by lia) λi hi=>av (ud (A7 h.wp hi)) rfl rfl
 have t2:aQ 1 [0] (aj 1 [0] (aB (ah 1 bg (aa (ab 0) ae))) (fG 0) (λ_=>some true) (f2 aw (f2 aw (ab 1) (fC (.int 2))) (ab 0))) [.val (aC G T W),.non]=some (.nx [.val (aC G T W),.own ((cN W).map λi=>ak (az W i))]):=dM c rfl;rw[ai t2];refine aL ?_;have e3:aj 3 [] (aB (ab 1)) (Hs 0 1 2) (λ_=>some true) (aJ (aa (ab 1) (aa (ab 0) (aa (ab 2) ae)))) [some (aC G T W),some (.list ((cN W).map λi=>ak (az W i)))]=some ((qm W (cN W)).map ak):=by
  have:=nE (r:=[]) ((cN W).map λi=>az W i);rw[zM,zM] at this;have hf:aB (ab 1) [some (aC G T W),some (.list ((cN W).map λi=>ak (az W i)))]=some ((cN W).map λi=>ak (az W i)):=rfl;unfold aj;rw[hf,zA];show (aZ (Hs 0 1 2) (λ_=>some true) (aJ (aa (ab 1) (aa (ab 0) (aa (ab 2) ae)))) [none,none,none] ((cN W).map λi=>ak (az W i))).bind small=_;rw[show ((cN W).map λi=>ak (az W i))=List.map (ak ∘ λi=>az W i) (cN W) from rfl,this,zA];rw[bu (by simp;lia),qm];simp?[zM];rfl
 show aJ (aa (f2 aw (ab 0) (fC (.int 1))) (aa (f2 aw (ab 0) (fC (.int 0))) (aa (aS bS (aa (bc (aj 3 [] (aB (ab 1)) (Hs 0 1 2) (λ_=>some true) (aJ (aa (ab 1) (aa (ab 0) (aa (ab 2) ae)))))) ae)) ae))) [some (aC G T W),some (.list ((cN W).map λi=>ak (az W i)))]=_;have e4:(aS bS (aa (bc (aj 3 [] (aB (ab 1)) (Hs 0 1 2) (λ_=>some true) (aJ (aa (ab 1) (aa (ab 0) (aa (ab 2) ae)))))) ae)) [some (aC G T W),some (.list ((cN W).map λi=>ak (az W i)))]=some (.tuple ((qm W (cN W)).map ak)):=by
  simp?[aS,aa,ae,bc,e3,zB,zA,ue]
 exact tup_is (ds:=[.tuple (T.map bx),.tuple (G.map bx),.tuple ((qm W (cN W)).map ak)]) (cons_of (av (a:=aC G T W) (b:=.int 1) (c:=.tuple (T.map bx)) rfl rfl rfl) (cons_of (av (a:=aC G T W) (b:=.int 0) (c:=.tuple (G.map bx)) rfl rfl rfl) (cons_of e4 rfl))) (by simp)
def qu(h:Wd G T W)(p:Pn G T W P):cS [aC G T W,ag P]=some (ag (Ae P (cN W))):=by
 have hw:=h.wl;have hn:=vj h.wp;refine aI ?_;show gu [.val (aC G T W),.val (ag P)]=_;unfold gu;refine (ai (gG (call_of (hU h p) rfl rfl))).trans ?_;have c:aj 1 [1] (aB (ah 1 bg (aa (ab 0) ae))) (fG 0) (λ_=>some true) (f2 aw (ab 1) (ab 0)) [some (aC G T W),some (ag P)]=some ((cN W).map λi=>.int (P.getD i 0)) :=
  kf (ma (jb h) rfl rfl) (by lia) λi hi=>av (mO (by rw[p.len];exact A7 h.wp hi)) rfl rfl
 refine aL ?_;show aS bS (aa (bc (aj 1 [1] (aB (ah 1 bg (aa (ab 0) ae))) (fG 0) (λ_=>some true) (f2 aw (ab 1) (ab 0)))) ae) [some (aC G T W),some (ag P)]=_;simp?[aS,aa,ae,bc,c,zB,zA,ue];simp[ag,Ae]
def Bf(h:f ρ=some (.list ds))(h2:g ρ=some (nD k)):dw b0 f (nK g) eu ρ=some (.list (ds.drop k)):=by
 have:=xi ds k;simp?[dw,h,nK,h2,eu,gI,b0,zA,zB,this]
def De(is:List Nat):Rf.G8 [.list (is.map λi=>.bool (p i))]=some (.bool (is.any p)):=by
 have:∀is:List Nat,boolsOf (is.map λi=>PyData.bool (p i))=some (is.map p):=λis=>by
  induction is with
  | nil=>rfl
  | cons i is ih=>simp[boolsOf,ih]
 simp?[Rf.G8,oneOf,zA,this,zB,wH];rfl
def lL(f:α->β)(p:β->Bool)(q:α->Bool):∀ (l:List α),(∀x∈l,p (f x)=q x)->(l.map f).findIdx p=l.findIdx q
 | [],_=>rfl
 | x::l,h=>by
  rw[zI,kZ,kZ,h x zE,lL f p q l λy hy=>h y (zC _ hy)]
def MY(h:Wd G T W){b:Bool}{i:Nat}(e:(bp b G T)[i]?=some p){k:Nat}(hk:k < W.length)(he:bE b (az W k)=i):oh (.list ((kr b W i p.2).map nD)) (nD k)=some (nD (rm p.2 (bT b (az W k)))):=by
 have ko:k∈own b W i:=d4.mpr ⟨hk,he⟩;have km:k∈kr b W i p.2:=(mf h e).mem_iff.mpr ko;have e1:(kr b W i p.2).map nD=((kr b W i p.2).map λj=>((j:Nat):Int)).map PyData.int:=by rw[zM];rfl
 have m1:((k:Nat):Int)∈(kr b W i p.2).map λj=>((j:Nat):Int):=List.mem_map.mpr ⟨k,km,rfl⟩;rw[e1];show (intsOf _).bind _=_;rw[bC,zA,nq m1,zB];have e2:((kr b W i p.2).map λj=>((j:Nat):Int)).findIdx (λo=>decide (o=((k:Nat):Int)))=rm p.2 (bT b (az W k)):=by
  unfold kr rm;rw[zM];refine lL _ _ _ _ λx hx=>?_;let⟨hl,h1,h2⟩:=tU h e hx;show decide (((pY b W i x:Nat):Int)=(k:Int))=decide (x=bT b (az W k));rw[decide_eq_decide];constructor
  ·intro z;have z:pY b W i x=k:=by lia
   rw[<- z,h2]
  ·intro z;rw[z,sS h.wp ko]
 rw[e2]
def mC(h:Wd G T W)(hp:P.length=W.length)(hs:Sm P)(b:Bool){k:Nat}(hk:k < W.length):cM [aC G T W,ag P,.int (sI b),nD k]=some (.bool (uV b G T W P k)):=by
 have hw:=h.wl;let⟨z1,z2,z3⟩:=h.end_pl b hk;have hx:(bp b G T)[(bE b (az W k)).toNat]?=some (eB b G T (bE b (az W k)).toNat):=by
  rw[zK z2];simp[eB,z2]
 have hL:∀x∈(eB b G T (bE b (az W k)).toNat).2,_:=λx hx'=>tU h hx hx';have hb:(eB b G T (bE b (az W k)).toNat).2.length<=16:=by
  have:=(mf h hx).length_eq;have h2:=tL b W ((bE b (az W k)).toNat:Int);unfold kr at this;rw[zD] at this;lia
 have ei:=MY h hx hk z3.symm;have ew:=rZ h hx;generalize hpl:eB b G T (bE b (az W k)).toNat=pl at *;generalize hj:(bE b (az W k)).toNat=j at *;have ez:PyData.int (bE b (az W k))=nD j:=by rw[<- z3]
 refine aI ?_;show ib [.val (aC G T W),.val (ag P),.val (.int (sI b)),.val (nD k),.non,.non,.non]=_;unfold ib;have t4:Dl.aD 4 [0,2,3] (f2 aw (f2 aw (f2 aw (ab 0) (fC (.int 2))) (ab 3)) (ab 2)) [.val (aC G T W),.val (ag P),.val (.int (sI b)),.val (nD k),.non,.non,.non]=some (.nx [.val (aC G T W),.val (ag P),.val (.int (sI b)),.val (nD k),.val (nD j),.non,.non]):=by
  rw[<- ez];exact bq (d:=.int (bE b (az W k))) (av (l8 b _) (av (ud hk) rfl rfl) rfl) rfl
 rw[ai t4];have ep:aw (.tuple ((bp b G T).map bx)) (nD j)=some (bx pl):=lr hx;have ct:(fB (f2 Ic (ah 4 cy (aa (ab 0) (aa (ab 1) (aa (ab 2) (aa (ab 4) ae))))) (f2 aw (f2 aw (f2 aw (ab 0) (ab 2)) (ab 4)) (fC (.int 0))))) (aR [.val (aC G T W),.val (ag P),.val (.int (sI b)),.val (nD k),.val (nD j),.non,.non])=some (decide (iL b W P j < pl.1)):=by
  refine aY (av (oG _ _) (call_of (ni h hp hs b j) rfl rfl) ?_);refine av (a:=bx pl) (b:=.int 0) rfl (av ep (av (tK b G T W) rfl rfl) rfl) rfl
 have hm:uV b G T W P k=(decide (iL b W P j < pl.1)||(pl.2.drop (rm pl.2 (bT b (az W k))+1)).any λo=>decide (0 < P.getD (pY b W j o) 0)):=by
  unfold uV;rw[hj,hpl,z3]
 rw[hm];cases hc:decide (iL b W P j < pl.1) with
 | true =>
  rw[hc] at ct;exact ji ((f9 ct).trans (aL rfl))
 | false =>
  rw[hc] at ct;rw[ai (bD ct),Bool.false_or];have t5:Dl.aD 5 [0,2,4] (ah 3 fj (aa (ab 0) (aa (ab 2) (aa (ab 4) ae)))) [.val (aC G T W),.val (ag P),.val (.int (sI b)),.val (nD k),.val (nD j),.non,.non]=some (.nx [.val (aC G T W),.val (ag P),.val (.int (sI b)),.val (nD k),.val (nD j),.val (.list ((kr b W j pl.2).map nD)),.non]) :=
   bj (call_of ew rfl rfl) (call_of ew rfl rfl) rfl
  rw[ai t5];have cu:∀ρ:Dl.Env,ab 5 ρ=some (.list ((kr b W j pl.2).map nD))->ab 3 ρ=some (nD k)->(dw b0 (ab 5) (nK (f2 aA (f2 oh (ab 5) (ab 3)) (fC (.int 1)))) eu) ρ=some (.list (((kr b W j pl.2).map nD).drop (rm pl.2 (bT b (az W k))+1))):=λρ a c =>
   Bf a (av (cQ _ _) (av ei a c) rfl)
  have t6:Dl.aD 6 [3,5] (dw b0 (ab 5) (nK (f2 aA (f2 oh (ab 5) (ab 3)) (fC (.int 1)))) eu) [.val (aC G T W),.val (ag P),.val (.int (sI b)),.val (nD k),.val (nD j),.val (.list ((kr b W j pl.2).map nD)),.non]=some (.nx [.val (aC G T W),.val (ag P),.val (.int (sI b)),.val (nD k),.val (nD j),.val (.list ((kr b W j pl.2).map nD)),.val (.list (((kr b W j pl.2).drop (rm pl.2 (bT b (az W k))+1)).map nD))]):=by
   rw[List.map_drop];exact bj (cu _ rfl rfl) (cu _ rfl rfl) rfl
  rw[ai t6];have c:aj 1 [1] (aB (ab 6)) (fG 0) (λ_=>some true) (f2 si (f2 aw (ab 1) (ab 0)) (fC (.int 0))) [some (aC G T W),some (ag P),some (.int (sI b)),some (nD k),some (nD j),some (.list ((kr b W j pl.2).map nD)),some (.list (((kr b W j pl.2).drop (rm pl.2 (bT b (az W k))+1)).map nD))]=some (((kr b W j pl.2).drop (rm pl.2 (bT b (az W k))+1)).map λi=>.bool (decide (0 < P.getD i 0))):=by
   refine kf rfl ?_ λi hi=>?_
   ·rw[qH,kr,zD];lia
   ·have hi':=List.mem_of_mem_drop hi;unfold kr at hi';let⟨x,hx',rfl⟩:=List.mem_map.mp hi';exact av (dB _ _) (av (mO (by rw[hp];exact (hL x hx').1)) rfl rfl) rfl
  refine aL ?_;show aS Rf.G8 (aa (bc (aj 1 [1] (aB (ab 6)) (fG 0) (λ_=>some true) (f2 si (f2 aw (ab 1) (ab 0)) (fC (.int 0))))) ae) [some (aC G T W),some (ag P),some (.int (sI b)),some (nD k),some (nD j),some (.list ((kr b W j pl.2).map nD)),some (.list (((kr b W j pl.2).drop (rm pl.2 (bT b (az W k))+1)).map nD))]=_;simp?[aS,aa,ae,bc,c,zB,zA,De];unfold kr;rw[<- List.map_drop,wH];rfl
def N1:Nat->D|0=>.str "full" | 1=>.str "giver" | 2=>.str "taker" | _=>.none
def ym(h:Wd G T W)(hp:P.length=W.length)(hs:Sm P)(hk:k < W.length):fy [aC G T W,ag P,nD k]=some (N1 (gU G T W P k)):=by
 refine aI ?_;show lC [.val (aC G T W),.val (ag P),.val (nD k)]=_;unfold lC gU;have c1:(fB (f2 bo (f2 aw (ab 1) (ab 2)) (f2 aw (f2 aw (f2 aw (ab 0) (fC (.int 2))) (ab 2)) (fC (.int 2))))) (aR [.val (aC G T W),.val (ag P),.val (nD k)])=some (decide (P.getD k 0=(az W k).2.2)) :=
  aY (av (cI _ _) (av (mO (by rw[hp];exact hk)) rfl rfl) (av (a:=ak (az W k)) (b:=.int 2) rfl (av (ud hk) rfl rfl) rfl))
 have w0:=mC h hp hs false hk;have w1:=mC h hp hs true hk;have c2:(bG (fB (ah 4 cM (aa (ab 0) (aa (ab 1) (aa (fC (.int 0)) (aa (ab 2) ae))))))) (aR [.val (aC G T W),.val (ag P),.val (nD k)])=some (!(uV false G T W P k)):=du (aY (call_of w0 rfl rfl));have c3:(bG (fB (ah 4 cM (aa (ab 0) (aa (ab 1) (aa (fC (.int 1)) (aa (ab 2) ae))))))) (aR [.val (aC G T W),.val (ag P),.val (nD k)])=some (!(uV true G T W P k)):=du (aY (call_of w1 rfl rfl));by_cases e1:P.getD k 0=(az W k).2.2
 ·rw[yA e1] at c1;rw[yL e1];exact ji ((f9 c1).trans (aL rfl))
 ·rw[zZ e1] at c1;rw[yN e1,ai (bD c1)];cases e2:uV false G T W P k with
  | false =>
   rw[e2] at c2;rw[yL rfl];exact ji ((f9 c2).trans (aL rfl))
  | true =>
   rw[e2] at c2;rw[yN (by simp),ai (bD c2)];cases e3:uV true G T W P k with
   | false =>
    rw[e3] at c3;rw[yL rfl];exact ji ((f9 c3).trans (aL rfl))
   | true =>
    rw[e3] at c3;rw[yN (by simp),ai (bD c3)];exact aL rfl
def M3(G T:List Pl)(W:List Wy)(P:List Int)(k:Nat):gU G T W P k<=3:=by
 unfold gU;split
 ·lia
 ·split
  ·lia
  ·split<;>lia
def Hu(n:Nat)(h:n<=3):rf (N1 n) .none=some (.bool (decide (n=3))):=by
 match n,h with
 | 0,_=>rfl
 | 1,_=>rfl
 | 2,_=>rfl
 | 3,_=>rfl
def FK{W:List Wy}{P:List Int}(hp:P.length=W.length)(hf:f ρ=some (ag P)):(aa (aS aX (aa f ae)) ae) ρ=some [nD W.length]:=by
 have:=JA P;rw[hp] at this;refine cons_of ?_ rfl;rw[iA hf,this]
def iF(h:Wd G T W)(hp:P.length=W.length)(hs:Sm P):aW [aC G T W,ag P]=some (match (List.range W.length).find? λk=>decide (gU G T W P k=3) with|some k=>nD k|none=>.none):=by
 have hw:=h.wl;refine aI ?_;show eL [.val (aC G T W),.val (ag P),.non]=_;unfold eL;let⟨f1,f2'⟩:=ig (tgt:=kn 2) (gb:=d5 (fB (f2 rf (ah 3 fy (aa (ab 0) (aa (ab 1) (aa (ab 2) ae)))) (fC .none))) (aE (ab 2)) dC) (λρ=>∃x,ρ=[.val (aC G T W),.val (ag P),x]) nD (λk=>decide (gU G T W P k=3)) nD
  (l:=List.range W.length) (ρ:=[.val (aC G T W),.val (ag P),.non])
  (λρ k hk hρ=>by
   let⟨x,rfl⟩:=hρ;have hk':k < W.length:=by simpa using hk
   have c:(fB (f2 rf (ah 3 fy (aa (ab 0) (aa (ab 1) (aa (ab 2) ae)))) (fC .none))) (aR [.val (aC G T W),.val (ag P),.val (nD k)])=some (decide (gU G T W P k=3)) :=
    aY (av (Hu _ (M3 G T W P k)) (call_of (ym h hp hs hk') rfl rfl) rfl)
   refine⟨_,rfl,λhq=>?_,λhq=>?_⟩
   ·show d5 _ _ _ [.val (aC G T W),.val (ag P),.val (nD k)]=_;rw[hq] at c;exact (f9 c).trans (aL rfl)
   ·rw[hq] at c;exact⟨_,bD c,_,rfl⟩) ⟨_,rfl⟩
 have hr:bQ (aa (aS aX (aa (ab 1) ae)) ae) [some (aC G T W),some (ag P),none]=some ((List.range W.length).map nD):=zw (FK hp rfl) (by lia);cases e:(List.range W.length).find? λk=>decide (gU G T W P k=3) with
 | some k=>exact ji (bU (f1 k e) hr rfl)
 | none =>
  let⟨ρ',e',x,rfl⟩:=f2' e;exact (ai (bU e' hr rfl)).trans (aL rfl)
def yv(h:Wd G T W)(hp:P.length=W.length)(hs:Sm P):lx [aC G T W,ag P]=some (.bool (decide (o4 G T W P=[]))):=by
 refine aI ?_;show lD [.val (aC G T W),.val (ag P)]=_;unfold lD;refine aL (av ?_ (call_of (iF h hp hs) rfl rfl) rfl);cases e:(List.range W.length).find? λk=>decide (gU G T W P k=3) with
 | some k =>
  have:o4 G T W P≠[]:=λz=>by
   have hm:=List.mem_of_find?_eq_some e;have hq:=List.find?_some e;have:k∈o4 G T W P:=List.mem_filter.mpr ⟨hm,hq⟩;rw[z] at this;cases this
  rw[zZ this];rfl
 | none =>
  have:o4 G T W P=[]:=by
   rw[vZ] at e;exact List.filter_eq_nil_iff.mpr e
  rw[yA this];rfl
def n5:∀ (is:List Nat),(∀i∈is,tt (some (nD i)::r)=some (q i)/\(q i=true->te (some (nD i)::r)=some (f i)))->aZ (fG 0) tt te (none::r) (is.map nD)=some ((is.filter q).map f)
 | [],_=>rfl
 | i::is,h=>by
  have ih:=n5 (tt:=tt) (te:=te) (r:=r) (f:=f) (q:=q) is λj hj=>h j (zC _ hj);let⟨h1,h2⟩:=h i zE;have hg:fG 0 (none::r) (nD i)=some (some (nD i)::r):=rfl;rw[zI,aZ,hg,zA,h1,zA,jW];cases e:q i with
  | true =>
   rw[yL rfl,yL rfl,h2 e,zA,ih];rfl
  | false =>
   rw[yN (by simp),yN (by simp),ih]
def zu{cs:List Nat}{fi:Dl.Env->Option (List D)}{tt:Dl.Env->Option Bool}{te:Dl.Env->Option D}{ρ:Dl.Env}{is:List Nat}{f:Nat->D}{q:Nat->Bool}(hfi:fi ρ=some (is.map nD))(hl:is.length<=1000)(hh:∀i∈is,tt (some (nD i)::cs.map λj=>(ρ[j]?).getD none)=some (q i)/\(q i=true->te (some (nD i)::cs.map λj=>(ρ[j]?).getD none)=some (f i))):aj 1 cs fi (fG 0) tt te ρ=some ((is.filter q).map f):=by
 have:=n5 is hh;simp?[aj,hfi,zA,dm,List.replicate,xF,xO,this];refine bu ?_;rw[zD];refine yD (xP _ _) ?_;lia
def ou(f:Nat->D)(R:Nat->ao->Prop):∀ (n k:Nat) (ρ:ao),
  (∀j ρ,k<=j->j < k+n->R j ρ->∃ρ1 ρ2,tgt ρ (f j)=some ρ1/\gb ρ1=some (.nx ρ2)/\R (j+1) ρ2)->R k ρ->∃ρ',cf tgt gb ((List.range' k n).map f) ρ=some (.nx ρ')/\R (k+n) ρ'
 | 0,k,ρ,_,h=>⟨ρ,rfl,h⟩
 | n+1,k,ρ,hh,h=>by
  let⟨ρ1,ρ2,e1,e2,h2⟩:=hh k ρ (yM _) (by lia) h;let⟨ρ',e3,h3⟩:=ou f R n (k+1) ρ2 (λj ρ a b=>hh j ρ (by lia) (by lia)) h2;refine⟨ρ',?_,by rw[show k+(n+1)=k+1+n by lia];exact h3⟩;rw[vD,zI,cf,e1,zA,e2];exact e3
def OW(hl:n<=1000):Dl.dv (.tuple [.int 0]) (nD n)=some (ag (zs n)):=by
 have e:wZ (.tuple [.int 0]) (nD n)=some (ag (zs n)):=by
  show (if uy ((n:Nat):Int)=true/\[PyData.int 0].length * ((n:Nat):Int).toNat<=sizeLine then some (PyData.tuple (List.replicate ((n:Nat):Int).toNat [PyData.int 0]).flatten) else none)=_;have hz:[PyData.int 0].length * n<=sizeLine:=by
   rw[xC,Nat.one_mul];exact yD hl (by decide)
  rw[yG,yL ⟨oH hl,hz⟩,Kz];rfl
 show ((uU rg λi j=>PyData.int (i * j)) (.tuple [.int 0]) (nD n)).or (wZ (.tuple [.int 0]) (nD n))=_;rw[e];rfl
def yr{W:List Wy}{P:List Int}(h:P.length=W.length):ja (P.map PyData.int) (W.map ak)=(List.range W.length).map λi=>.tuple [.int (P.getD i 0),ak (az W i)]:=by
 have:∀ (a:List Int) (l:List Wy),a.length=l.length->ja (a.map PyData.int) (l.map ak)=(List.range l.length).map λi=>.tuple [.int (a.getD i 0),ak (az l i)]:=by
  intro a
  induction a with
  | nil=>intro l e;cases l with|nil=>rfl|cons _ _=>simp at e
  | cons x a ih =>
   intro l e;cases l with
   | nil=>simp at e
   | cons w l =>
    rw[zI,zI,ja,ih l (by simpa using e),zL,vJ,zI,zM];rfl
 exact this P W h
def yn(h:Wd G T W)(hp:P.length=W.length)(hs:Sm P)(b:Bool)(p:Int):c9 [aC G T W,ag P,.int (sI b),.int p]=some (.int (iL b W P p)):=by
 have hw:=h.wl;refine aI ?_;show nS [.val (aC G T W),.val (ag P),.val (.int (sI b)),.val (.int p)]=_;have hz:eS (aa (ab 1) (aa (f2 aw (ab 0) (fC (.int 2))) ae)) [some (aC G T W),some (ag P),some (.int (sI b)),some (.int p)]=some ((List.range W.length).map λi=>.tuple [.int (P.getD i 0),ak (az W i)]):=by
  rw[<- yr hp];rfl
 have c:aj 2 [2,3] (eS (aa (ab 1) (aa (f2 aw (ab 0) (fC (.int 2))) ae))) (hC 0 1) (fB (f2 bo (f2 aw (ab 1) (ab 2)) (ab 3))) (ab 0) [some (aC G T W),some (ag P),some (.int (sI b)),some (.int p)]=some ((own b W p).map λi=>.int (P.getD i 0)):=by
  rw[jd (p:=λi=>decide (bE b (az W i)=p)) (h:=λi=>.int (P.getD i 0)) hz (by lia) λi hi=>⟨?_,λ_=>rfl⟩]
  ·rfl
  ·show fB (f2 bo (f2 aw (ab 1) (ab 2)) (ab 3)) [some (.int (P.getD i 0)),some (ak (az W i)),some (.int (sI b)),some (.int p)]=_;exact aY (by rw[gX (a:=.int (bE b (az W i))) (b:=.int p) (av (l8 b _) rfl rfl) rfl,cI])
 refine aL ?_;have e:((own b W p).map λi=>PyData.int (P.getD i 0))=((own b W p).map λi=>P.getD i 0).map PyData.int:=by rw[zM];rfl
 show aS qq (aa (bc (aj 2 [2,3] (eS (aa (ab 1) (aa (f2 aw (ab 0) (fC (.int 2))) ae))) (hC 0 1) (fB (f2 bo (f2 aw (ab 1) (ab 2)) (ab 3))) (ab 0))) ae) [some (aC G T W),some (ag P),some (.int (sI b)),some (.int p)]=_;rw[e] at c;simp?[aS,aa,ae,bc,c,zB,zA];show qq [.list (((own b W p).map λi=>P.getD i 0).map PyData.int)]=_;simp?[qq,dI,oneOf,eN,zA,bC,BF hs hw b p,xH];rfl
def Qw:ao->Option Out:=(cP [0,2] (bf (aa (f2 aw (ab 0) (ab 2)) ae)) (fS 3 4) (d5 (fB (f2 si (ah 4 c9 (aa (ab 0) (aa (ab 1) (aa (ab 2) (aa (ab 3) ae))))) (f2 aw (ab 4) (fC (.int 0))))) (aE (fC (.bool false))) dC))
def JD(h:Wd G T W)(hp:P.length=W.length)(hs:Sm P)(b:Bool)(x y:Slot):(AW b G T W P=false->Qw [.val (aC G T W),.val (ag P),.val (.int (sI b)),x,y]=some (.rt (.bool false)))/\(AW b G T W P=true->∃x' y',Qw [.val (aC G T W),.val (ag P),.val (.int (sI b)),x,y]=some (.nx [.val (aC G T W),.val (ag P),.val (.int (sI b)),x',y'])):=by
 have hl:=h.pl b;let⟨f1,f2'⟩:=ig (tgt:=fS 3 4) (gb:=d5 (fB (f2 si (ah 4 c9 (aa (ab 0) (aa (ab 1) (aa (ab 2) (aa (ab 3) ae))))) (f2 aw (ab 4) (fC (.int 0))))) (aE (fC (.bool false))) dC)
  (λρ=>∃x y,ρ=[.val (aC G T W),.val (ag P),.val (.int (sI b)),x,y]) (λi:Nat=>.tuple [nD i,bx (eB b G T i)]) (λi=>decide ((eB b G T i).1 < iL b W P i)) (λ_=>.bool false)
  (l:=List.range (bp b G T).length) (ρ:=[.val (aC G T W),.val (ag P),.val (.int (sI b)),x,y])
  (λρ i hi hρ=>by
   let⟨x,y,rfl⟩:=hρ;have c:(fB (f2 si (ah 4 c9 (aa (ab 0) (aa (ab 1) (aa (ab 2) (aa (ab 3) ae))))) (f2 aw (ab 4) (fC (.int 0))))) (aR [.val (aC G T W),.val (ag P),.val (.int (sI b)),.val (nD i),.val (bx (eB b G T i))])=some (decide ((eB b G T i).1 < iL b W P i)) :=
    aY (av (dB _ _) (call_of (yn h hp hs b i) rfl rfl) (av (a:=bx (eB b G T i)) (b:=.int 0) rfl rfl rfl))
   refine⟨_,rfl,λhq=>?_,λhq=>?_⟩
   ·rw[hq] at c;exact (f9 c).trans (aL rfl)
   ·rw[hq] at c;exact⟨_,bD c,_,_,rfl⟩) ⟨_,_,rfl⟩
 have he:bf (aa (f2 aw (ab 0) (ab 2)) ae) (ba [.val (aC G T W),.val (ag P),.val (.int (sI b)),x,y])=some ((List.range (bp b G T).length).map λi=>.tuple [nD i,bx (eB b G T i)]):=by
  have:=pO (bp b G T);unfold eB;rw[<- this];cases b<;>rfl
 have hh:hand [0,2] 0 [Slot.val (aC G T W),.val (ag P),.val (.int (sI b)),x,y]=[Slot.val (aC G T W),.val (ag P),.val (.int (sI b)),x,y]:=rfl;unfold AW;constructor
 ·intro hk;cases e:(List.range (bp b G T).length).find? λi=>decide ((eB b G T i).1 < iL b W P i) with
  | some i=>exact bU (f1 i e) he hh
  | none =>
   rw[vZ] at e;rw[List.all_eq_false] at hk;let⟨i,hi,hn⟩:=hk;have:=e i hi;simp?[zJ] at this hn;lia
 ·intro hk;have e:(List.range (bp b G T).length).find? (λi=>decide ((eB b G T i).1 < iL b W P i))=none:=by
   rw[vZ];intro i hi;have:=List.all_eq_true.mp hk i hi;simp?[zJ] at this ⊢;lia
  let⟨ρ',e',x',y',rfl⟩:=f2' e;exact⟨x',y',bU e' he hh⟩
def ME:qv G T W P=(AW false G T W P&&AW true G T W P):=rfl
def yt(h:Wd G T W)(hp:P.length=W.length)(hs:Sm P):dk [aC G T W,ag P]=some (.bool (qv G T W P)):=by
 let⟨f1,f2'⟩:=ig (tgt:=kn 2) (gb:=Qw)
  (λρ=>∃x y z,ρ=[.val (aC G T W),.val (ag P),x,y,z]) (λb:Bool=>.int (sI b)) (λb=>!(AW b G T W P)) (λ_=>.bool false)
  (l:=[false,true]) (ρ:=[.val (aC G T W),.val (ag P),.non,.non,.non])
  (λρ b _ hρ=>by
   let⟨x,y,z,rfl⟩:=hρ;let⟨r1,r2⟩:=JD h hp hs b y z;refine⟨_,rfl,λhq=>?_,λhq=>?_⟩
   ·exact r1 (by simpa using hq)
   ·let⟨x',y',e⟩:=r2 (by simpa using hq);exact⟨_,e,_,_,_,rfl⟩) ⟨_,_,_,rfl⟩
 have hr:bQ (aa (fC (.int 2)) ae) (ba [.val (aC G T W),.val (ag P),.non,.non,.non])=some ([false,true].map λb=>.int (sI b)):=zw (n:=2) rfl (by lia);refine aI ?_;show jz [.val (aC G T W),.val (ag P),.non,.non,.non]=_;unfold jz;rw[ME];cases e0:AW false G T W P with
 | false =>
  have e:[false,true].find? (λb=>!(AW b G T W P))=some false:=by rw[vL (by simp[e0])]
  exact ji (bU (f1 _ e) hr rfl)
 | true =>
  cases e1:AW true G T W P with
  | false =>
   have e:[false,true].find? (λb=>!(AW b G T W P))=some true:=by rw[kH (by simp[e0]),vL (by simp[e1])]
   exact ji (bU (f1 _ e) hr rfl)
  | true =>
   have e:[false,true].find? (λb=>!(AW b G T W P))=none:=by rw[kH (by simp[e0]),kH (by simp[e1])];rfl
   let⟨ρ',e',x,y,z,rfl⟩:=f2' e;exact (ai (bU e' hr rfl)).trans (aL rfl)
def Sm.app(ha:Sm a)(hb:Sm b):Sm (a++b):=λk=>by
 by_cases hk:k < a.length
 ·have:=ha k
  rwa [show (a++b).getD k 0=a.getD k 0 by simp[yS hk]]
 ·have:=hb (k - a.length)
  rwa [show (a++b).getD k 0=b.getD (k - a.length) 0 by simp[yT (by lia:a.length<=k)]]
def Nk(h1:-1000000<=x)(h2:x<=1000000):Sm [x]:=λk=>by
 cases k with
 | zero=>exact⟨h1,h2⟩
 | succ k=>simp
def Ou(n:Nat):Sm (zs n):=λk=>by rw[KA];lia
def qx(ns:List Int)(at':Int)(W:List Wy)(k:Nat):Int:=dr ns (at'+(k:Nat)) ((az W k).2.2+1)
def AC(hl:ns.length<=63)(h:Wd G T W)(hk:k < W.length):0<=qx ns at' W k/\qx ns at' W k<=(az W k).2.2:=by
 have:=(h.wr _ (fP hk)).2.2;have h1:=KU (ns:=ns) (at'+(k:Nat)) ((az W k).2.2+1) hl (by lia);have h2:=K2 (ns:=ns) (at'+(k:Nat)) ((az W k).2.2+1) hl (by lia);unfold qx;lia
def QH:ao->Option Out:=(ar (aD 6 [0,1,3,4,5] (f2 aA (ab 3) (aJ (aa (ah 3 aq (aa (ab 0) (aa (f2 aA (ab 1) (ab 4)) (aa (f2 aA (f2 aw (ab 5) (fC (.int 2))) (fC (.int 1))) ae)))) ae)))) (ar (aD 7 [2,6] (ah 2 dk (aa (ab 2) (aa (f2 aA (ab 6) (f2 dv (aJ (aa (fC (.int 0)) ae)) (f2 Dl.iz (aS aX (aa (f2 aw (ab 2) (fC (.int 2))) ae)) (aS aX (aa (ab 6) ae))))) ae)))) (aD 3 [3,6,7] (Hj (fB (ab 7)) (ab 6) (f2 aA (ab 3) (aJ (aa (fC (.int 0)) ae)))))))
def ox(h:a.length+b.length<=1000):Dl.aA (ag a) (ag b)=some (ag (a++b)):=by
 unfold ag;rw[tJ (by simp;lia),jA]
def oF(h:tc ρ=some true)(ha:fa ρ=some d):Hj tc fa fb ρ=some d:=by
 simp?[Hj,h,zA,ha]
def uM(h:tc ρ=some false)(ha:fb ρ=some d):Hj tc fa fb ρ=some d:=by
 simp?[Hj,h,zA,ha]
def MA(hl:ns.length<=63)(h:Wd G T W)(hk:k<=W.length):Sm (lE (qx ns at' W) G T W k):=λj=>by
 by_cases hj:j < k
 ·have:=AD (d:=qx ns at' W) (G:=G) (T:=T) (W:=W) (λk hk=>AC hl h hk) h.lim k hk j hj;have:=(h.wr _ (fP (show j < W.length by lia))).2.2;lia
 ·rw[zG,jL (by rw[lT];lia)];simp
def HP(hl:ns.length<=63)(h:Wd G T W)(hk:k < W.length)(x y:Slot):∃x' y',QH [.val (bY ns),.val (.int at'),.val (aC G T W),.val (ag (lE (qx ns at' W) G T W k)),.val (nD k),.val (ak (az W k)),x,y]=some (.nx [.val (bY ns),.val (.int at'),.val (aC G T W),.val (ag (lE (qx ns at' W) G T W (k+1))),.val (nD k),.val (ak (az W k)),x',y']):=by
 have hw:=h.wl;have hr:=(h.wr _ (fP hk)).2.2;have hsm:=MA (at':=at') hl h (jS hk);have hfl:=lT (d:=qx ns at' W) (G:=G) (T:=T) (W:=W) k;have hdb:=AC (at':=at') hl h hk;have e2:lE (qx ns at' W) G T W (k+1)=if qv G T W ((lE (qx ns at' W) G T W k++[qx ns at' W k])++zs (W.length - (lE (qx ns at' W) G T W k++[qx ns at' W k]).length))=true then lE (qx ns at' W) G T W k++[qx ns at' W k] else lE (qx ns at' W) G T W k++[0]:=rfl
 rw[e2];clear e2;generalize hf:lE (qx ns at' W) G T W k=f at hsm hfl ⊢;generalize hd:qx ns at' W k=d at hdb ⊢;have ed:∀ρ:Dl.Env,ab 0 ρ=some (bY ns)->ab 1 ρ=some (.int at')->ab 4 ρ=some (nD k)->ab 5 ρ=some (ak (az W k))->(ah 3 aq (aa (ab 0) (aa (f2 aA (ab 1) (ab 4)) (aa (f2 aA (f2 aw (ab 5) (fC (.int 2))) (fC (.int 1))) ae)))) ρ=some (.int d):=λρ a b c e=>by
  rw[<- hd];exact call_of (sx (at'+((k:Nat):Int)) ((az W k).2.2+1) hl (by lia)) (cons_of a (cons_of (av (cQ at' k) b c) (cons_of (av (cQ (az W k).2.2 1) (av (oM _) e rfl) rfl) rfl))) rfl
 have em:∀ρ:Dl.Env,ab 0 ρ=some (bY ns)->ab 1 ρ=some (.int at')->ab 3 ρ=some (ag f)->ab 4 ρ=some (nD k)->ab 5 ρ=some (ak (az W k))->(f2 aA (ab 3) (aJ (aa (ah 3 aq (aa (ab 0) (aa (f2 aA (ab 1) (ab 4)) (aa (f2 aA (f2 aw (ab 5) (fC (.int 2))) (fC (.int 1))) ae)))) ae))) ρ=some (ag (f++[d])):=λρ a b z c e =>
  av (ox (a:=f) (b:=[d]) (by simp;lia)) z (GW (ed ρ a b c e))
 have t6:Dl.aD 6 [0,1,3,4,5] (f2 aA (ab 3) (aJ (aa (ah 3 aq (aa (ab 0) (aa (f2 aA (ab 1) (ab 4)) (aa (f2 aA (f2 aw (ab 5) (fC (.int 2))) (fC (.int 1))) ae)))) ae))) [.val (bY ns),.val (.int at'),.val (aC G T W),.val (ag f),.val (nD k),.val (ak (az W k)),x,y]=some (.nx [.val (bY ns),.val (.int at'),.val (aC G T W),.val (ag f),.val (nD k),.val (ak (az W k)),.val (ag (f++[d])),y]) :=
  bj (em _ rfl rfl rfl rfl rfl) (em _ rfl rfl rfl rfl rfl) rfl
 have hlen:(f++[d]).length=k+1:=by simp[hfl]
 have hsub:((W.length:Nat):Int) - (((f++[d]).length:Nat):Int)=((W.length - (f++[d]).length:Nat):Int):=by lia
 have hwl:((f++[d])++zs (W.length - (f++[d]).length)).length=W.length:=by simp[zs,hfl];lia
 have hsl:Sm ((f++[d])++zs (W.length - (f++[d]).length)):=(hsm.app (Nk (by lia) (by lia))).app (Ou _);have ef:∀ρ:Dl.Env,ab 2 ρ=some (aC G T W)->ab 6 ρ=some (ag (f++[d]))->(ah 2 dk (aa (ab 2) (aa (f2 aA (ab 6) (f2 dv (aJ (aa (fC (.int 0)) ae)) (f2 Dl.iz (aS aX (aa (f2 aw (ab 2) (fC (.int 2))) ae)) (aS aX (aa (ab 6) ae))))) ae))) ρ=some (.bool (qv G T W ((f++[d])++zs (W.length - (f++[d]).length)))):=λρ a b=>by
  refine call_of (yt h hwl hsl) (cons_of a (cons_of (av (ox ?_) b (av (OW (n:=W.length - (f++[d]).length) (by lia)) (GW rfl) ?_)) rfl)) rfl
  ·rw[<- zN,hwl];lia
  ·rw[show nD (W.length - (f++[d]).length)=.int (((W.length:Nat):Int) - (((f++[d]).length:Nat):Int)) by rw[hsub]];exact av (sub_int _ _) (mP (l:=W) (k:=ak) (av (hJ G T W) a rfl)) (mP (l:=f++[d]) (k:=PyData.int) b)
 have t7:Dl.aD 7 [2,6] (ah 2 dk (aa (ab 2) (aa (f2 aA (ab 6) (f2 dv (aJ (aa (fC (.int 0)) ae)) (f2 Dl.iz (aS aX (aa (f2 aw (ab 2) (fC (.int 2))) ae)) (aS aX (aa (ab 6) ae))))) ae))) [.val (bY ns),.val (.int at'),.val (aC G T W),.val (ag f),.val (nD k),.val (ak (az W k)),.val (ag (f++[d])),y]=some (.nx [.val (bY ns),.val (.int at'),.val (aC G T W),.val (ag f),.val (nD k),.val (ak (az W k)),.val (ag (f++[d])),.val (.bool (qv G T W ((f++[d])++zs (W.length - (f++[d]).length))))]) :=
  bj (ef _ rfl rfl) (ef _ rfl rfl) rfl
 unfold QH;rw[ai t6,ai t7];have h0:∀ρ:Dl.Env,ab 3 ρ=some (ag f)->(f2 aA (ab 3) (aJ (aa (fC (.int 0)) ae))) ρ=some (ag (f++[0])):=λρ z=>av (ox (a:=f) (b:=[0]) (by simp;lia)) z (GW rfl);generalize qv G T W ((f++[d])++zs (W.length - (f++[d]).length))=fb;cases fb with
 | true =>
  rw[yL rfl];exact⟨_,_,bj (oF (aY rfl) rfl) (oF (aY rfl) rfl) rfl⟩
 | false =>
  rw[yN (by simp)];exact⟨_,_,bj (uM (aY rfl) (h0 _ rfl)) (uM (aY rfl) (h0 _ rfl)) rfl⟩
def sH(W:List Wy):br 0 (W.map ak)=(List.range' 0 W.length).map λi=>.tuple [nD i,ak (az W i)]:=by
 rw[<- yH,enum_zip];apply jH
 ·simp
 ·intro i h1 h2;have:i < W.length:=by simpa using h2
  simp[eE this]
def yo(hl:ns.length<=63)(h:Wd G T W):eA [bY ns,.int at',aC G T W]=some (ag (lE (qx ns at' W) G T W W.length)):=by
 have hw:=h.wl;let⟨ρ',e,x4,x5,x6,x7,rfl⟩:=ou (tgt:=fS 4 5) (gb:=QH) (λi=>.tuple [nD i,ak (az W i)]) (λk ρ=>∃x4 x5 x6 x7,ρ=[.val (bY ns),.val (.int at'),.val (aC G T W),.val (ag (lE (qx ns at' W) G T W k)),x4,x5,x6,x7]) W.length 0 [.val (bY ns),.val (.int at'),.val (aC G T W),.val (ag []),.non,.non,.non,.non]
  (λj ρ _ hj hρ=>by
   let⟨x4,x5,x6,x7,rfl⟩:=hρ;let⟨x',y',e⟩:=HP (at':=at') hl h (show j < W.length by lia) x6 x7;exact⟨_,_,rfl,e,_,_,_,_,rfl⟩) ⟨_,_,_,_,rfl⟩
 refine aI ?_;show iR [.val (bY ns),.val (.int at'),.val (aC G T W),.non,.non,.non,.non,.non]=_;unfold iR;have t3:Dl.aD 3 [] (aJ ae) [.val (bY ns),.val (.int at'),.val (aC G T W),.non,.non,.non,.non,.non]=some (.nx [.val (bY ns),.val (.int at'),.val (aC G T W),.val (ag []),.non,.non,.non,.non]) :=
  bj (tup_is (ds:=[]) rfl (by simp)) (tup_is (ds:=[]) rfl (by simp)) rfl
 rw[ai t3];have he:bf (aa (f2 aw (ab 2) (fC (.int 2))) ae) (ba [.val (bY ns),.val (.int at'),.val (aC G T W),.val (ag []),.non,.non,.non,.non])=some ((List.range' 0 W.length).map λi=>.tuple [nD i,ak (az W i)]):=by
  rw[<- sH];rfl
 rw[jD] at e;exact (ai (bU e he rfl)).trans (aL rfl)
def Hw(hl:ns.length<=63)(h:Wd G T W):Pn G T W (lE (qx ns at' W) G T W W.length):=Mm h λk hk=>AC hl h hk
def sm(l:List Nat)(f:Nat->Int):Int:=(l.map f).sum
def bI(q:Nat)(l:List Nat)(f:Nat->Int):sm (q::l) f=f q+sm l f:=by simp[sm]
def GJ(l r:List Nat)(f:Nat->Int):sm (l++r) f=sm l f+sm r f:=by simp[sm]
def Bi:∀ {l:List Nat}{f g:Nat->Int},(∀q∈l,f q<=g q)->sm l f<=sm l g
 | [],_,_,_=>xZ _
 | q::l,f,g,h=>by
  have h1:=h q zE;have h2:=Bi (l:=l) λx hx=>h x (zC _ hx);rw[bI,bI];lia
def Kt(h:∀q∈l,0<=f q):0<=sm l f:=by
 have:sm l (λ_=>0)=0:=by induction l with
  | nil=>rfl
  | cons q l ih=>rw[bI,ih λx hx=>h x (zC _ hx)];rfl
 rw[<- this];exact Bi h
def Ke(p:l.Perm r)(f:Nat->Int):sm l f=sm r f:=by
 induction p with
 | nil=>rfl
 | cons x _ ih=>rw[bI,bI,ih]
 | swap x y l=>rw[bI,bI,bI,bI];lia
 | trans _ _ h1 h2=>rw[h1,h2]
def ch(m:Nat->Int):Int->List Nat->Nat->Int
 | _,[],_=>0
 | a,q::r,k=>if k=q then min (m q) a else ch m (a - min (m q) a) r k
def up:List Nat->Nat->List Nat
 | [],_=>[]
 | q::r,k=>if k=q then [q] else q::up r k
def Bo(q:Nat)(r:List Nat):up (q::r) q=[q]:=by simp[up]
def Bu(h:k≠q):up (q::r) k=q::up r k:=by simp[up,h]
def Cn:∀ {l:List Nat}{k:Nat},k∈l->k∈up l k
 | x::l,k,h=>by
  by_cases e:k=x
  ·subst e;rw[Bo];exact zE
  ·rw[Bu e];rcases List.mem_cons.mp h with z|z
   ·exact absurd z e
   ·exact zC _ (Cn z)
def uc:∀ {xs ys:List Nat}{k:Nat},k∉xs->up (xs++k::ys) k=xs++[k]
 | [],ys,k,_=>Bo _ _
 | x::xs,ys,k,h=>by
  rw[zQ,not_or] at h;rw[xF,Bu h.1,uc h.2];rfl
def BP(hn:l.Nodup)(hk:k∈l):∃ys,l=up l k++ys/\(∀q∈ys,q∉up l k):=by
 let⟨xs,ys,rfl⟩:=List.append_of_mem hk;have hx:k∉xs:=λz=>by
  rw[wK] at hn;exact hn.2.2 k z k zE rfl
 refine⟨ys,by rw[uc hx];simp,λq hq hq2=>?_⟩;rw[uc hx] at hq2;rw[show xs++k::ys=(xs++[k])++ys by simp,wK] at hn;exact hn.2.2 q hq2 q hq rfl
def cn(b:Bool)(W:List Wy)(k:Nat):Nat:=(bE b (az W k)).toNat
def lst(b:Bool)(G T:List Pl)(W:List Wy)(i:Nat):List Nat:=kr b W i (eB b G T i).2
def amt(b:Bool)(G T:List Pl)(i:Nat):Int:=(eB b G T i).1
def vl(P:List Int)(q:Nat):Int:=P.getD q 0
section
variable {G T:List Pl}{W:List Wy}{P X c off:List Int}{b:Bool}{i k q:Nat}
def uC(h:Wd G T W)(b:Bool)(hk:k < W.length):cn b W k < (bp b G T).length:=(h.end_pl b hk).2.1
def l6(h:Wd G T W)(hi:i < (bp b G T).length):(lst b G T W i).Perm (own b W i):=mf h (sV hi)
def j9(h:Wd G T W)(hi:i < (bp b G T).length):(lst b G T W i).Nodup:=(l6 h hi).nodup_iff.mpr (List.nodup_range.filter _)
def ke(h:Wd G T W)(hi:i < (bp b G T).length):q∈lst b G T W i↔q < W.length/\cn b W q=i:=by
 rw[(l6 h hi).mem_iff,d4];constructor
 ·rintro⟨h1,h2⟩;exact⟨h1,by unfold cn;rw[h2];simp⟩
 ·rintro⟨h1,h2⟩;have:=(h.end_pl b h1).2.2;unfold cn at h2;rw[h2] at this;exact⟨h1,this.symm⟩
def u5(h:Wd G T W)(b:Bool)(hk:k < W.length):k∈lst b G T W (cn b W k):=(ke h (uC h b hk)).mpr ⟨hk,rfl⟩
def lj(h:Wd G T W)(hi:i < (bp b G T).length):iL b W P i=sm (lst b G T W i) (vl P):=by
 unfold iL;rw[Ke (l6 h hi)];rfl
def Fl(b:Bool)(G T:List Pl)(W:List Wy)(P:List Int)(k:Nat):Prop:=sm (up (lst b G T W (cn b W k)) k) (vl P)=amt b G T (cn b W k)
def Rs(G T:List Pl)(W:List Wy)(P:List Int):Prop:=∀k,k < W.length->P.getD k 0=(az W k).2.2\/Fl false G T W P k\/Fl true G T W P k
def Pn.nn(p:Pn G T W P)(q:Nat):0<=vl P q:=by
 by_cases hq:q < W.length
 ·exact (p.bd q hq).1
 ·unfold vl;rw[xk (by rw[p.len];lia)];lia
def Pn.le_sm(h:Wd G T W)(p:Pn G T W P)(hi:i < (bp b G T).length):sm (lst b G T W i) (vl P)<=amt b G T i:=by
 rw[<- lj h hi];exact p.am b i hi
def vf(h:Wd G T W)(p:Pn G T W P)(b:Bool)(hk:k < W.length):uV b G T W P k=false↔Fl b G T W P k:=by
 let⟨z1,z2,z3⟩:=h.end_pl b hk;have hc:lst b G T W (cn b W k)=((eB b G T (cn b W k)).2.take (rm (eB b G T (cn b W k)).2 (bT b (az W k)))).map (pY b W (cn b W k))++k::((eB b G T (cn b W k)).2.drop (rm (eB b G T (cn b W k)).2 (bT b (az W k))+1)).map (pY b W (cn b W k)):=IR h hk;have hn:=j9 (b:=b) h z2;change (lst b G T W (cn b W k)).Nodup at hn;have hle:=p.le_sm h z2;change sm (lst b G T W (cn b W k)) (vl P)<=amt b G T (cn b W k) at hle;have hth:=lj (P:=P) h z2;have hy:uV b G T W P k=(decide (iL b W P ((cn b W k:Nat):Int) < amt b G T (cn b W k))||(((eB b G T (cn b W k)).2.drop (rm (eB b G T (cn b W k)).2 (bT b (az W k))+1)).map (pY b W (cn b W k))).any λq=>decide (0 < vl P q)):=by
  unfold uV;rw[wH];unfold cn amt;rw[z3];rfl
 change iL b W P ((cn b W k:Nat):Int)=sm (lst b G T W (cn b W k)) (vl P) at hth;unfold Fl;rw[hy,hth];revert hc;generalize ((eB b G T (cn b W k)).2.take (rm (eB b G T (cn b W k)).2 (bT b (az W k)))).map (pY b W (cn b W k))=xs;generalize ((eB b G T (cn b W k)).2.drop (rm (eB b G T (cn b W k)).2 (bT b (az W k))+1)).map (pY b W (cn b W k))=ys;intro hc;have hx:k∉xs:=λz=>by
  rw[hc,wK] at hn;exact hn.2.2 k z k zE rfl
 rw[hc,uc hx];rw[hc] at hle;have e:sm (xs++k::ys) (vl P)=sm (xs++[k]) (vl P)+sm ys (vl P):=by
  rw[<- GJ];simp
 have hnn:=Kt (l:=ys) λq _=>p.nn q;have hpos:=Bs (P:=P) ys λq _=>p.nn q;change (0 < sm ys (vl P)↔(ys.any λq=>decide (0 < vl P q))=true) at hpos;rw[e] at hle ⊢;rw[Bool.or_eq_false_iff,xB];constructor
 ·rintro⟨h1,h2⟩;have:¬ 0 < sm ys (vl P):=λz=>by rw[hpos.mp z] at h2;cases h2
  lia
 ·intro h1;refine⟨by lia,?_⟩;cases hh:(ys.any λq=>decide (0 < vl P q)) with
  | false=>rfl
  | true=>have:=hpos.mpr hh;lia
def wk(h:Wd G T W)(p:Pn G T W P):o4 G T W P=[]↔Rs G T W P:=by
 unfold o4;rw[List.filter_eq_nil_iff];constructor
 ·intro hh k hk;have:=hh k (by simpa using hk);rw[zJ] at this;unfold gU at this;by_cases e1:P.getD k 0=(az W k).2.2
  ·exact .inl e1
  ·rw[yN e1] at this;by_cases e2:uV false G T W P k=false
   ·exact .inr (.inl ((vf h p false hk).mp e2))
   ·rw[yN e2] at this;by_cases e3:uV true G T W P k=false
    ·exact .inr (.inr ((vf h p true hk).mp e3))
    ·rw[yN e3] at this;exact absurd rfl this
 ·intro hh k hk;rw[zJ];unfold gU;rcases hh k (by simpa using hk) with e|e|e
  ·rw[yL e];lia
  ·rw[yL ((vf h p false (by simpa using hk)).mpr e)];split<;>lia
  ·rw[yL ((vf h p true (by simpa using hk)).mpr e)];split
   ·lia
   ·split<;>lia
end
section
variable {P X c off:List Int}
end
section
variable {P X c off:List Int}
end
section
variable {P X c off:List Int}
end
def dW(h:f ρ=some ds):bc f ρ=some (.list ds):=by
 simp?[bc,h,zB]
def tH(h:f ρ=some (.tuple ds)):aB f ρ=some ds:=by
 simp?[aB,h,zA,eN]
def ie(h:f ρ=some (.list ds)):aB f ρ=some ds:=by
 simp?[aB,h,zA,eN]
def zy(h:fs ρ=some ds)(hl:ds.length<=1000):dR fs ρ=some ds:=by
 simp?[dR,h,zA,bu (show ds.length<=4000 by lia)]
def nil_of(ρ:Dl.Env):bc (dR ae) ρ=some (.list []):=dW (zy (ds:=[]) rfl (by simp))
structure Wk(G T G' T':List Pl):Prop where
 len:∀b,(bp b G' T').length=(bp b G T).length
 lik:∀b i,(eB b G' T' i).2=(eB b G T i).2
 gv:∀i,amt false G' T' i<=amt false G T i
 tk:∀i,amt true G T i<=amt true G' T' i
section
variable {P X off:List Int}
def Ck(x y:Int):cO (.int x) (.int y)=some (.bool (!decide (x=y))):=by
 have hs:∀x:Int,SeqAt.shaped (.int x)=true:=λx=>(lV (b:=1) (k:=0) x).shaped (by decide);have e:PyData.eqv (.int x) (.int y)=decide (x=y):=by
  have:=F8 [x] [y];rw[ag,ag,PyData.eqv] at this;simpa [PyData.eqvAll] using this
 simp?[cO,NL,hs,jO,xH,e,zB]
end
def uT(l:Int)(fs:List (List Int)):List (List Int):=(fs.map λr=>(List.range (l+1).toNat).map λm=>r++[((m:Nat):Int)]).flatten
def Ca:List Wy->List (List Int)->List (List Int)
 | [],fs=>fs
 | w::W,fs=>Ca W (uT w.2.2 fs)
def uq:r∈uT l fs↔∃r'∈fs,∃v:Int,0<=v/\v<=l/\r=r'++[v]:=by
 unfold uT;rw[List.mem_flatten];constructor
 ·rintro⟨L,hL,hr⟩;let⟨r',h',rfl⟩:=List.mem_map.mp hL;let⟨m,hm,rfl⟩:=List.mem_map.mp hr;rw[zS] at hm;exact⟨r',h',_,by lia,by lia,rfl⟩
 ·rintro⟨r',h',v,h0,h1,rfl⟩;exact⟨_,List.mem_map.mpr ⟨r',h',rfl⟩,List.mem_map.mpr ⟨v.toNat,by rw[zS];lia,by rw[show ((v.toNat:Nat):Int)=v by lia]⟩⟩
def Cj:∀ {W:List Wy}{fs:List (List Int)}{r:List Int},r∈Ca W fs↔∃r'∈fs,∃q:List Int,q.length=W.length/\(∀k,k < W.length->0<=q.getD k 0/\q.getD k 0<=(az W k).2.2)/\r=r'++q
 | [],fs,r=>by
  unfold Ca;constructor
  ·intro h;exact⟨r,h,[],rfl,λk hk=>by simp at hk,by simp⟩
  ·rintro⟨r',h',q,hq,_,rfl⟩;have:q=[]:=List.length_eq_zero_iff.mp hq;subst this;simpa using h'
 | w::W,fs,r=>by
  rw[Ca,Cj];constructor
  ·rintro⟨r',h',q,hq,hb,rfl⟩;let⟨r2,h2,v,h0,h1,rfl⟩:=uq.mp h';refine⟨r2,h2,v::q,by simp[hq],λk hk=>?_,by simp⟩;cases k with
   | zero=>exact⟨h0,h1⟩
   | succ k=>exact hb k (by simpa using hk)
  ·rintro⟨r',h',q,hq,hb,rfl⟩;cases q with
   | nil=>simp at hq
   | cons v q =>
    refine⟨r'++[v],uq.mpr ⟨r',h',v,(hb 0 (by simp)).1,(hb 0 (by simp)).2,rfl⟩,q,by simpa using hq,λk hk=>hb (k+1) (by simpa using hk),by simp⟩
def BM(l:Int)(fs:List (List Int)):(uT l fs).length=fs.length * (l+1).toNat:=by
 unfold uT
 induction fs with
 | nil=>simp
 | cons r fs ih=>rw[zI,qM,zN,ih,zL,Nat.add_mul];simp;lia
def wB:ao->Option Out:=(tw 3 [2,4] (aj 1 [4] (bQ (aa (f2 Dl.aA (f2 aw (ab 2) (fC (.int 2))) (fC (.int 1))) ae)) (fG 0) (λ_=>some true) (f2 Dl.aA (ab 1) (aJ (aa (ab 0) ae)))))
def ext(l:Int)(r:List Int):List (List Int):=(List.range (l+1).toNat).map λm=>r++[((m:Nat):Int)]
def LA{acc:List (List Int)}(hl:0<=w.2.2/\w.2.2<=9)(hr:r.length<=100)(ha:acc.length<=7000):wB [.val d,x1,.val (ak w),.own (acc.map ag),.val (ag r)]=some (.nx [.val d,x1,.val (ak w),.own ((acc++ext w.2.2 r).map ag),.val (ag r)]):=by
 have c:aj 1 [4] (bQ (aa (f2 Dl.aA (f2 aw (ab 2) (fC (.int 2))) (fC (.int 1))) ae)) (fG 0) (λ_=>some true) (f2 Dl.aA (ab 1) (aJ (aa (ab 0) ae))) (ba [.val d,x1,.val (ak w),.own (acc.map ag),.val (ag r)])=some ((List.range (w.2.2+1).toNat).map λm=>ag (r++[((m:Nat):Int)])):=by
  refine kf (zw (n:=(w.2.2+1).toNat) (cons_of ?_ rfl) (by lia)) (by rw[zR];lia) λm _=>av (ox (a:=r) (b:=[((m:Nat):Int)]) (by simp;lia)) rfl (GW rfl);rw[show nD (w.2.2+1).toNat=.int (w.2.2+1) by show PyData.int _=_;congr 1;lia];exact av (cQ w.2.2 1) (av (oM w) rfl rfl) rfl
 have hh:hand [2,4] 0 [Slot.val d,x1,.val (ak w),.own (acc.map ag),.val (ag r)]=[Slot.val d,x1,.val (ak w),.own (acc.map ag),.val (ag r)]:=rfl;have hz:(acc.map ag).length+((List.range (w.2.2+1).toNat).map λm=>ag (r++[((m:Nat):Int)])).length<=sizeLine:=by
  rw[zD,zD,zR];exact yD (show acc.length+(w.2.2+1).toNat<=8000 by lia) (by decide)
 have e:(acc++ext w.2.2 r).map ag=acc.map ag++(List.range (w.2.2+1).toNat).map λm=>ag (r++[((m:Nat):Int)]):=by
  rw[jA,ext,zM];rfl
 unfold wB tw;rw[hh,c,zA,e];simp?[mv,yY,xQ,hz,xH,zB,zA];rfl
def wO:ao->Option Out:=(ar (aQ 3 [] (dR ae)) (ar (cP [1] (aB (ab 1)) (kn 4) wB) (Dl.aD 1 [3] (ab 3))))
def GK(l:Int)(r:List Int)(fs:List (List Int)):uT l (r::fs)=ext l r++uT l fs:=by simp[uT,ext]
def EY(hl:0<=w.2.2/\w.2.2<=2):∀ (fs acc:List (List Int)) (x4:Slot),(∀r∈fs,r.length<=16)->acc.length+3 * fs.length<=7000->∃y4,cf (kn 4) wB (fs.map ag) [.val d,x1,.val (ak w),.own (acc.map ag),x4]=some (.nx [.val d,x1,.val (ak w),.own ((acc++uT w.2.2 fs).map ag),y4])
 | [],acc,x4,_,_=>⟨x4,by simp[uT,cf]⟩
 | r::fs,acc,x4,hr,hb=>by
  have he:(ext w.2.2 r).length<=3:=by unfold ext;rw[zD,zR];lia
  rw[zL] at hb;let⟨y4,e⟩:=EY (d:=d) (x1:=x1) hl fs (acc++ext w.2.2 r) (.val (ag r)) (λq hq=>hr q (zC _ hq)) (by rw[zN];lia);have h1:=LA (d:=d) (x1:=x1) (w:=w) (acc:=acc) (r:=r) ⟨hl.1,by lia⟩ (by have:=hr r zE;lia) (by lia);have ht:kn 4 [.val d,x1,.val (ak w),.own (acc.map ag),x4] (ag r)=some [.val d,x1,.val (ak w),.own (acc.map ag),.val (ag r)]:=rfl;refine⟨y4,?_⟩;rw[zI,cf,ht,zA,h1];show cf (kn 4) wB (fs.map ag) _=_;rw[e,GK,List.append_assoc]
def Lc(hl:0<=w.2.2/\w.2.2<=2)(hr:∀r∈fs,r.length<=16)(hf:fs.length<=2187)(h1:s1=.own (fs.map ag)\/s1=.val (.list (fs.map ag))):∃y3 y4,wO [.val d,s1,.val (ak w),x3,x4]=some (.nx [.val d,.val (.list ((uT w.2.2 fs).map ag)),.val (ak w),y3,y4]):=by
 let⟨y4,e⟩:=EY (d:=d) (x1:=.val (.list (fs.map ag))) hl fs [] x4 hr (by simp;lia);rw[xO] at e;have t1:aQ 3 [] (dR ae) [.val d,s1,.val (ak w),x3,x4]=some (.nx [.val d,s1,.val (ak w),.own [],x4]):=dM (zy (ds:=[]) rfl (by simp)) rfl;have hh:hand [1] 0 [.val d,s1,.val (ak w),.own [],x4]=[Slot.val d,.val (.list (fs.map ag)),.val (ak w),.own [],x4]:=by
  rcases h1 with rfl|rfl<;>rfl
 unfold wO;rw[ai t1];refine⟨.val (.list ((uT w.2.2 fs).map ag)),y4,?_⟩;refine (ai (bU e rfl hh)).trans ?_;exact pG (ρ':=[.val d,.val (.list (fs.map ag)),.val (ak w),.val (.list ((uT w.2.2 fs).map ag)),y4]) rfl (d:=.list ((uT w.2.2 fs).map ag)) rfl rfl rfl (.inl rfl)
def JB(h:∀r∈fs,r.length<=n):∀r∈uT l fs,r.length<=n+1:=λr hr=>by
 let⟨r',h',v,_,_,rfl⟩:=uq.mp hr;have:=h r' h';simp;lia
def Fj:∀ (W:List Wy) (fs:List (List Int)) (s1 x2 x3 x4:Slot),(∀w∈W,0<=w.2.2/\w.2.2<=2)->fs.length * 3 ^ W.length<=2187->(∀r∈fs,r.length<=16 - W.length)->W.length<=16->(s1=.own (fs.map ag)\/s1=.val (.list (fs.map ag))) ->
  ∃s1' y2 y3 y4,cf (kn 2) wO (W.map ak) [.val d,s1,x2,x3,x4]=some (.nx [.val d,s1',y2,y3,y4])/\(s1'=.own ((Ca W fs).map ag)\/s1'=.val (.list ((Ca W fs).map ag)))
 | [],fs,s1,x2,x3,x4,_,_,_,_,h1=>⟨s1,x2,x3,x4,rfl,h1⟩
 | w::W,fs,s1,x2,x3,x4,hl,hf,hr,hw,h1=>by
  rw[zL] at hf hr hw;have hp:1<=3 ^ W.length:=Nat.one_le_pow _ _ (by lia);have hf1:fs.length<=2187:=by
   refine yD ?_ hf;exact Nat.le_mul_of_pos_right _ (Nat.pow_pos (by lia))
  have hlw:=hl w zE;let⟨y3,y4,e⟩:=Lc (d:=d) (x3:=x3) (x4:=x4) hlw (λr hr'=>by have:=hr r hr';lia) hf1 h1;have hll:(uT w.2.2 fs).length<=fs.length * 3:=by rw[BM];exact Nat.mul_le_mul_left _ (by lia)
  let⟨s1',z2,z3,z4,e2,h2⟩:=Fj (d:=d) W (uT w.2.2 fs) (.val (.list ((uT w.2.2 fs).map ag))) (.val (ak w)) y3 y4 (λq hq=>hl q (zC _ hq)) (by
   refine yD (Nat.mul_le_mul_right _ hll) ?_;rw[Nat.mul_assoc,<- Nat.pow_succ'];exact hf) (λr hr'=>by
   have:=JB (n:=16 - (W.length+1)) hr r hr';lia) (by lia) (.inr rfl)
  have ht:kn 2 [.val d,s1,x2,x3,x4] (ak w)=some [.val d,s1,.val (ak w),x3,x4]:=rfl;refine⟨s1',z2,z3,z4,?_,h2⟩;rw[zI,cf,ht,zA,e];exact e2
def Hf(hl:∀w∈W,0<=w.2.2/\w.2.2<=2)(hw:W.length<=7):eK [.tuple (W.map ak)]=some (.list ((Ca W [[]]).map ag)):=by
 let⟨s1',z2,z3,z4,e2,h2⟩:=Fj (d:=.tuple (W.map ak)) W [[]] (.own ([[]].map ag)) .non .non .non hl (by
  rw[xC,Nat.one_mul];exact yD (Nat.pow_le_pow_right (by lia) hw) (by decide)) (λr hr=>by simp at hr;subst hr;simp) (by lia) (.inl rfl)
 refine aI ?_;show eI [.val (.tuple (W.map ak)),.non,.non,.non,.non]=_;unfold eI;refine (ai (dM (ds:=[[]].map ag) (zy (cons_of (tup_is (ds:=[]) rfl (by simp)) rfl) (by simp)) rfl)).trans ?_;refine (ai (bU e2 rfl rfl)).trans ?_;refine aL ?_;rcases h2 with rfl|rfl<;>rfl
def pI:∀ (l:List α),(∀x∈l,tt (some (g x)::r)=some (q x)/\(q x=true->te (some (g x)::r)=some (f x)))->aZ (fG 0) tt te (none::r) (l.map g)=some ((l.filter q).map f)
 | [],_=>rfl
 | x::l,h=>by
  have ih:=pI (tt:=tt) (te:=te) (r:=r) (g:=g) (f:=f) (q:=q) l λy hy=>h y (zC _ hy);let⟨h1,h2⟩:=h x zE;have hg:fG 0 (none::r) (g x)=some (some (g x)::r):=rfl;rw[zI,aZ,hg,zA,h1,zA,jW];cases e:q x with
  | true =>
   rw[yL rfl,yL rfl,h2 e,zA,ih];rfl
  | false =>
   rw[yN (by simp),yN (by simp),ih]
def mI{α:Type}{cs:List Nat}{fi:Dl.Env->Option (List D)}{tt:Dl.Env->Option Bool}{te:Dl.Env->Option D}{ρ:Dl.Env}{l:List α}{g f:α->D}{q:α->Bool}(hfi:fi ρ=some (l.map g))(hl:l.length<=3000)(hh:∀x∈l,tt (some (g x)::cs.map λj=>(ρ[j]?).getD none)=some (q x)/\(q x=true->te (some (g x)::cs.map λj=>(ρ[j]?).getD none)=some (f x))):aj 1 cs fi (fG 0) tt te ρ=some ((l.filter q).map f):=by
 have:=pI l hh;simp?[aj,hfi,zA,dm,List.replicate,xF,xO,this];refine bu ?_;rw[zD];refine yD (xP _ _) ?_;lia
def r6{α:Type}{cs:List Nat}{fi:Dl.Env->Option (List D)}{tt:Dl.Env->Option Bool}{te:Dl.Env->Option D}{ρ:Dl.Env}{l:List α}{g f:α->D}{q:α->Bool}(hfi:fi ρ=some (l.map g))(hl:l.length<=1000)(hh:∀x∈l,tt (some (g x)::cs.map λj=>(ρ[j]?).getD none)=some (q x)/\(q x=true->te (some (g x)::cs.map λj=>(ρ[j]?).getD none)=some (f x))):aj 1 cs fi (fG 0) tt te ρ=some ((l.filter q).map f):=mI hfi (by lia) hh
def mB:ao->Option Out:=(Dl.aD 1 [1,2] (f2 Dl.dv (ab 1) (f2 Dl.aA (f2 aw (ab 2) (fC (.int 2))) (fC (.int 1)))))
def GC:∀ (W:List Wy) (p:Nat) (x2:Slot),(∀w∈W,0<=w.2.2/\w.2.2<=2)->p * 3 ^ W.length<=2187->∃p' y2,cf (kn 2) mB (W.map ak) [.val d,.val (nD p),x2]=some (.nx [.val d,.val (nD p'),y2])/\p'<=2187
 | [],p,x2,_,hp=>⟨p,x2,rfl,by simpa using hp⟩
 | w::W,p,x2,hl,hp=>by
  have hlw:=hl w zE;rw[zL] at hp;have hp1:p<=2187:=yD (Nat.le_mul_of_pos_right _ (Nat.pow_pos (by lia))) hp;let⟨p',y2,e,h2⟩:=GC (d:=d) W (p * (w.2.2+1).toNat) (.val (ak w)) (λq hq=>hl q (zC _ hq)) (by
   refine yD (Nat.mul_le_mul_right _ (Nat.mul_le_mul_left p (show (w.2.2+1).toNat<=3 by lia))) ?_;rw[Nat.mul_assoc,<- Nat.pow_succ'];exact hp)
  have ht:kn 2 [.val d,.val (nD p),x2] (ak w)=some [.val d,.val (nD p),.val (ak w)]:=rfl;have hm:mB [.val d,.val (nD p),.val (ak w)]=some (.nx [.val d,.val (nD (p * (w.2.2+1).toNat)),.val (ak w)]):=by
   have hv:nD (p * (w.2.2+1).toNat)=.int (((p:Nat):Int) * (w.2.2+1)):=by
    show PyData.int _=_;rw[Int.natCast_mul,show (((w.2.2+1).toNat:Nat):Int)=w.2.2+1 by lia]
   rw[hv];unfold mB;exact bq (av (dz (.inl ⟨by lia,by lia⟩)) rfl (av (cQ _ _) (av (oM w) rfl rfl) rfl)) rfl
  refine⟨p',y2,?_,h2⟩;rw[zI,cf,ht,zA,hm];exact e
def uw(hl:∀w∈W,0<=w.2.2/\w.2.2<=2)(hw:W.length<=7):ij [aC G T W]=some .none:=by
 let⟨p',y2,e,h2⟩:=GC (d:=aC G T W) W 1 .non hl (by rw[Nat.one_mul];exact yD (Nat.pow_le_pow_right (by lia) hw) (by decide));have:eV [.val (aC G T W),.non,.non]=some (.nx [.val (aC G T W),.val (nD p'),y2]):=by
  unfold eV;refine (ai (bq (d:=.int 1) rfl rfl)).trans ?_;refine (ai (bU e rfl rfl)).trans ?_;exact bD (aY (av ((dB _ _).trans (by rw[zZ (by lia)])) rfl rfl))
 show (eV [.val (aC G T W),.non,.non]).map _=_;rw[this];rfl
def F0(G T:List Pl)(W:List Wy):List (List Int):=(Ca W [[]]).filter (MI G T W)
def allR(G T:List Pl)(W:List Wy):List (List Int):=(F0 G T W).filter λP=>decide (o4 G T W P=[])
def BD:r∈Ca W [[]]↔r.length=W.length/\∀k,k < W.length->0<=r.getD k 0/\r.getD k 0<=(az W k).2.2:=by
 rw[Cj];constructor
 ·rintro⟨r',h',q,hq,hb,rfl⟩;simp at h';subst h';exact⟨hq,hb⟩
 ·rintro⟨h1,h2⟩;exact⟨[],by simp,r,h1,h2,rfl⟩
def wW:X∈F0 G T W↔Pn G T W X:=by
 unfold F0;rw[List.mem_filter,BD];constructor
 ·rintro⟨⟨h1,h2⟩,h3⟩;exact (tI h1).mp h3
 ·intro p;exact⟨⟨p.len,p.bd⟩,(tI p.len).mpr p⟩
def Ez(h:Wd G T W):X∈allR G T W↔Pn G T W X/\Rs G T W X:=by
 unfold allR;rw[List.mem_filter,wW,zJ];constructor
 ·rintro⟨p,r⟩;exact⟨p,(wk h p).mp r⟩
 ·rintro⟨p,r⟩;exact⟨p,(wk h p).mpr r⟩
def Bc:∀ (W:List Wy) (fs:List (List Int)),(∀w∈W,0<=w.2.2/\w.2.2<=2)->(Ca W fs).length<=fs.length * 3 ^ W.length
 | [],fs,_=>by simp[Ca]
 | w::W,fs,hl=>by
  rw[Ca];refine yD (Bc W _ λq hq=>hl q (zC _ hq)) ?_;have:=hl w zE;rw[BM,zL,Nat.pow_succ',<- Nat.mul_assoc];exact Nat.mul_le_mul_right _ (Nat.mul_le_mul_left _ (by lia))
def xf(h:Wd G T W)(hl:∀w∈W,0<=w.2.2/\w.2.2<=2)(hw:W.length<=7):jf [aC G T W]=some (.list ((F0 G T W).map ag))/\(Ca W [[]]).length<=2187:=by
 have hlen:(Ca W [[]]).length<=2187:=by
  have:=Bc W [[]] hl;rw[xC,Nat.one_mul] at this;exact yD this (yD (Nat.pow_le_pow_right (by lia) hw) (by decide))
 refine⟨?_,hlen⟩;refine aI ?_;show jg [.val (aC G T W)]=_;unfold jg;refine (ai (gG (call_of (cx h) rfl rfl))).trans ?_;refine (ai (gG (call_of (uw hl hw) rfl rfl))).trans ?_;refine aL (dW (mI (g:=ag) (f:=ag) (q:=MI G T W) (ma (Hf hl hw) (cons_of (av (hJ G T W) rfl rfl) rfl) rfl) (by lia) λx hx=>⟨?_,λ_=>rfl⟩));let⟨h1,h2⟩:=BD.mp hx;exact aY (call_of (sQ h h1 λk=>by
  by_cases hk:k < W.length
  ·have a:=h2 k hk;have b:=(h.wr _ (fP hk)).2.2.2;lia
  ·rw[xk (by lia)];lia) rfl rfl)
def tE(h:Wd G T W)(hl:∀w∈W,0<=w.2.2/\w.2.2<=2)(hw:W.length<=7):iZ [aC G T W]=some (.list ((allR G T W).map ag))/\(allR G T W).length<=2187:=by
 let⟨e,hlen⟩:=xf h hl hw;have hp:(F0 G T W).length<=2187:=yD (xP _ _) hlen;refine⟨?_,yD (xP _ _) hp⟩;refine aI ?_;show i4 [.val (aC G T W)]=_;unfold i4;refine aL (dW (mI (g:=ag) (f:=ag) (q:=λP=>decide (o4 G T W P=[])) (ma e rfl rfl) (by lia) λx hx=>⟨?_,λ_=>rfl⟩));have p:=wW.mp hx;exact aY (call_of (yv h p.len (p.smP h)) rfl rfl)
def sh(k q:Nat):Nat:=if q < k then q else q+1
def nk(k:Nat):Nat->Bool:=λq=>!decide (q=k)
section
variable {G T:List Pl}{W:List Wy}{P X:List Int}{b:Bool}{i k q:Nat}
end
def gM{a c:List Int}(h:lexLt a c=false)(h2:lexLt c a=false):a=c:=pV (by unfold lexLe;rw[h2];rfl) (by unfold lexLe;rw[h];rfl)
section
open Ex
section
variable {m:List D->Option D}{x:List D->Option Str}{ds:List D}{c:Str}{n:Nat}{fs:Dl.Env->Option (List D)}{ρ:ao}
end
section
variable {G T:List Pl}{W:List Wy}{P X:List Int}{b:Bool}{i:Nat}
end
end
section
variable {G T:List Pl}{W:List Wy}{P X:List Int}{b k n:Nat}{d:D}{c:Str}
end
section
variable {G T:List Pl}{W:List Wy}{P X:List Int}{b:Bool}{i j k:Nat}{w d:D}{c:Str}
def rX{tgt:ao->D->Option ao}{gb:ao->Option Out}{ρ ρ1 ρ2:ao}{d:D}{ds:List D}(h1:tgt ρ d=some ρ1)(h2:gb ρ1=some (.nx ρ2)):cf tgt gb (d::ds) ρ=cf tgt gb ds ρ2:=by
 rw[cf,h1,zA,h2];rfl
end
section
variable {G T:List Pl}{W:List Wy}{P X c:List Int}
end
def Hr(b:Bool)(G T:List Pl)(W:List Wy)(P:List Int)(i:Nat):Option Nat:=((lst b G T W i).filter λq=>decide (0 < vl P q)).getLast?
def DM(b:Bool)(G T:List Pl)(W:List Wy)(P:List Int)(i:Nat):Option Nat:=if iL b W P i < amt b G T i then none else Hr b G T W P i
def dec(o:Option Nat)(P:List Int):List Int:=match o with
 | none=>P
 | some g=>P.set g (P.getD g 0 - 1)
def lP(G T:List Pl)(W:List Wy)(P:List Int)(k:Nat):List Int:=dec (DM true G T W P (cn true W k)) (dec (DM false G T W P (cn false W k)) (P.set k (P.getD k 0+1)))
section
variable {G T:List Pl}{W:List Wy}{P:List Int}{b:Bool}{i k q g:Nat}{o:Option Nat}
def Oc:∀l:List Nat,sm l (λ_=>0)=0
 | []=>rfl
 | q::l=>by rw[bI,Oc l];rfl
def oA:(dec o P).length=P.length:=by cases o<;>simp[dec]
def E1:(dec o P).getD q 0=P.getD q 0 - (if o=some q/\q < P.length then 1 else 0):=by
 cases o with
 | none=>simp[dec]
 | some g =>
  show (P.set g _).getD q 0=_;rw[wg];by_cases e:g=q
  ·subst e;by_cases hl:g < P.length
   ·rw[yL ⟨rfl,hl⟩,yL ⟨rfl,hl⟩]
   ·rw[yN (λz=>hl z.2),yN (λz=>hl z.2)];lia
  ·rw[yN (λz=>e z.1),yN (λz=>e (xD z.1))];lia
def Mn:(P.set k (P.getD k 0+1)).getD q 0=P.getD q 0+(if k=q/\q < P.length then 1 else 0):=by
 rw[wg];by_cases e:k=q/\q < P.length
 ·rw[yL e,yL e,e.1]
 ·rw[yN e,yN e];lia
def v7(h:Hr b G T W P i=some g):g∈lst b G T W i/\0 < vl P g:=by
 have:=List.mem_of_getLast? h;rw[List.mem_filter,zJ] at this;exact this
def GB(h:Hr b G T W P i=none):∀q∈lst b G T W i,vl P q<=0:=λq hq=>by
 unfold Hr at h;rw[List.getLast?_eq_none_iff,List.filter_eq_nil_iff] at h;have:=h q hq;rw[zJ] at this;lia
def FM(h:Wd G T W)(hi:i < (bp b G T).length)(e:Hr b G T W P i=some g)(hq:q∈lst b G T W i)(hp:0 < vl P q):q∈up (lst b G T W i) g:=by
 have hn:=j9 (b:=b) h hi;unfold Hr at e;let⟨ys,hys⟩:=List.getLast?_eq_some_iff.mp e;refine Classical.byContradiction λz=>?_;have hg:=(v7 (b:=b) (G:=G) (T:=T) (W:=W) (P:=P) (i:=i) e).1;let⟨zs,e1,e2⟩:=BP hn hg;have hqz:q∈zs:=by
  rw[e1] at hq;rcases List.mem_append.mp hq with w|w
  ·exact absurd w z
  ·exact w
 have hsub:(up (lst b G T W i) g).filter (λq=>decide (0 < vl P q))++zs.filter (λq=>decide (0 < vl P q))=ys++[g]:=by
  rw[<- List.filter_append,<- e1];exact hys
 have hne:zs.filter (λq=>decide (0 < vl P q))≠[]:=λw=>by
  have:q∈zs.filter (λq=>decide (0 < vl P q)):=List.mem_filter.mpr ⟨hqz,yA hp⟩;rw[w] at this;cases this
 let⟨us,u,hu⟩:=List.eq_nil_or_concat (zs.filter λq=>decide (0 < vl P q)) |>.resolve_left hne |> λ⟨a,c,e⟩=>(⟨a,c,by simpa using e⟩:∃us u,zs.filter (λq=>decide (0 < vl P q))=us++[u])
 rw[hu,<- List.append_assoc] at hsub;have hug:u=g:=by
  have:=jC List.getLast? hsub;simpa using this
 subst hug;have:u∈zs:=(List.mem_filter.mp (show u∈zs.filter (λq=>decide (0 < vl P q)) by rw[hu];simp)).1;exact e2 u this (Cn hg)
def yq(h:Wd G T W)(p:Pn G T W P)(hk:k < W.length)(e:uV b G T W P k=true) :
  (iL b W P (cn b W k) < amt b G T (cn b W k)/\DM b G T W P (cn b W k)=none)\/(iL b W P (cn b W k)=amt b G T (cn b W k)/\∃g,DM b G T W P (cn b W k)=some g/\g∈lst b G T W (cn b W k)/\0 < vl P g/\g≠k):=by
 have hi:=uC h b hk;have hle:=p.am b _ hi;by_cases c:iL b W P (cn b W k) < amt b G T (cn b W k)
 ·exact .inl ⟨c,by unfold DM;rw[yL c]⟩
 ·refine .inr ⟨?_,?_⟩
  ·have:iL b W P (cn b W k)<=amt b G T (cn b W k):=hle;lia
  ·have nf:¬ Fl b G T W P k:=λz=>by rw[(vf h p b hk).mpr z] at e;cases e
   have heq:sm (lst b G T W (cn b W k)) (vl P)=amt b G T (cn b W k):=by
    rw[<- lj h hi];have:iL b W P (cn b W k)<=amt b G T (cn b W k):=hle;lia
   have hn:=j9 (b:=b) h hi;let⟨ys,e1,e2⟩:=BP hn (u5 h b hk);have hs:sm (lst b G T W (cn b W k)) (vl P)=sm (up (lst b G T W (cn b W k)) k) (vl P)+sm ys (vl P):=by
    rw[<- GJ,<- e1]
   have hy:0 < sm ys (vl P):=by
    have h1:=Kt (l:=ys) λq _=>p.nn q;refine Classical.byContradiction λz=>nf ?_;unfold Fl;lia
   obtain⟨q,hq,hp⟩:∃q∈ys,0 < vl P q:=Classical.byContradiction λz=>by
    have:=Bi (l:=ys) (f:=vl P) (g:=λ_=>0) λq hq=>Classical.byContradiction λw=>z ⟨q,hq,by lia⟩;have e0:=Oc ys;lia
   have hql:q∈lst b G T W (cn b W k):=by rw[e1];exact yE _ hq
   cases hg:Hr b G T W P (cn b W k) with
   | none=>have:=GB hg q hql;lia
   | some g =>
    let⟨g1,g2⟩:=v7 hg;refine⟨g,by unfold DM;rw[yN c,hg],g1,g2,λz=>?_⟩;subst z;exact e2 q hq (FM h hi hg hql hp)
def ph(h:Wd G T W)(p:Pn G T W P)(hk:k < W.length)(e:gU G T W P k=3):P.getD k 0 < (az W k).2.2/\∀b,uV b G T W P k=true:=by
 have hb:=(p.bd k hk).2;unfold gU at e;by_cases e1:P.getD k 0=(az W k).2.2
 ·rw[yL e1] at e;cases e
 ·rw[yN e1] at e;by_cases e2:uV false G T W P k=false
  ·rw[yL e2] at e;cases e
  ·rw[yN e2] at e;by_cases e3:uV true G T W P k=false
   ·rw[yL e3] at e;cases e
   ·exact⟨by lia,λb=>by
    cases b
    ·exact Bool.not_eq_false _ |>.mp e2
    ·exact Bool.not_eq_false _ |>.mp e3⟩
def oR(o:Option Nat)(q:Nat):Int:=if o=some q then 1 else 0
def F4(hn:l.Nodup):sm l (oR o)=match o with|some g=>if g∈l then 1 else 0|none=>0:=by
 induction l with
 | nil=>cases o<;>rfl
 | cons x l ih =>
  rw[List.nodup_cons] at hn;rw[bI,ih hn.2];cases o with
  | none=>rfl
  | some g =>
   show (if some g=some x then (1:Int) else 0)+(if g∈l then 1 else 0)=if g∈x::l then 1 else 0
   by_cases e:g=x
   ·subst e;rw[yL rfl,yN hn.1,yL zE];rfl
   ·rw[yN (λz=>e (xD z))];by_cases e2:g∈l
    ·rw[yL e2,yL (zC _ e2)];rfl
    ·rw[yN e2,yN (by rw[zQ,not_or];exact⟨e,e2⟩)];rfl
def MT(l:List Nat)(f g:Nat->Int):sm l (λq=>f q+g q)=sm l f+sm l g:=by
 induction l with
 | nil=>rfl
 | cons x l ih=>rw[bI,bI,bI,ih];lia
def MJ(l:List Nat)(f g:Nat->Int):sm l (λq=>f q - g q)=sm l f - sm l g:=by
 induction l with
 | nil=>rfl
 | cons x l ih=>rw[bI,bI,bI,ih];lia
abbrev g0(b:Bool)(G T:List Pl)(W:List Wy)(P:List Int)(k:Nat):Option Nat:=DM b G T W P (cn b W k)
def Ie:(lP G T W P k).length=P.length:=by unfold lP;rw[oA,oA,yC]
def MZ(hq:q < P.length):(lP G T W P k).getD q 0=P.getD q 0+oR (some k) q - oR (g0 false G T W P k) q - oR (g0 true G T W P k) q:=by
 unfold lP oR;rw[E1,E1,Mn,oA,yC];simp?[hq,and_true,yK]
def pS:0<=oR o q:=by unfold oR;split<;>lia
def Lx:oR o q<=1:=by unfold oR;split<;>lia
def mE(h:Wd G T W)(p:Pn G T W P)(hk:k < W.length)(e:gU G T W P k=3)(b:Bool){g:Nat}(hg:g0 b G T W P k=some g):g < W.length/\cn b W g=cn b W k/\0 < vl P g/\g≠k:=by
 rcases yq h p hk ((ph h p hk e).2 b) with ⟨_,z⟩|⟨_,g',z,h1,h2,h3⟩
 ·rw[show DM b G T W P (cn b W k)=some g from hg] at z;cases z
 ·rw[show DM b G T W P (cn b W k)=some g from hg] at z;cases z;let⟨a1,a2⟩:=(ke h (uC h b hk)).mp h1;exact⟨a1,a2,h2,h3⟩
def JU(h:Wd G T W)(hk:k < W.length)(hg:g < W.length)(b:Bool)(e1:cn b W g=cn b W k)(e2:cn (!b) W g=cn (!b) W k):g=k:=by
 have z:∀c,bE c (az W g)=bE c (az W k)↔cn c W g=cn c W k:=λc=>by
  have h1:=(h.end_pl c hg).2.2;have h2:=(h.end_pl c hk).2.2;unfold cn;lia
 refine xr (b:=b) h.wp hg hk ((z b).mpr e1) ?_;have:=(z (!b)).mpr e2;cases b<;>exact this
def Pi(h:Wd G T W)(p:Pn G T W P)(hk:k < W.length)(e:gU G T W P k=3)(hg:g0 b G T W P k=some g):cn (!b) W g≠cn (!b) W k:=λz=>by
 let⟨a1,a2,_,a4⟩:=mE h p hk e b hg;exact a4 (JU h hk a1 b a2 z)
def Gi(h:Wd G T W)(p:Pn G T W P)(hk:k < W.length)(e:gU G T W P k=3):Pn G T W (lP G T W P k):=by
 let⟨f1,f2⟩:=ph h p hk e;have at':∀q,q < W.length->(lP G T W P k).getD q 0=P.getD q 0+oR (some k) q - oR (g0 false G T W P k) q - oR (g0 true G T W P k) q:=λq hq=>MZ (by rw[p.len];exact hq);refine⟨by rw[Ie,p.len],λq hq=>?_,λb i hi=>?_⟩
 ·rw[at' q hq];have hb:=p.bd q hq;have n0:=pS (o:=g0 false G T W P k) (q:=q);have n1:=pS (o:=g0 true G T W P k) (q:=q);have n2:=pS (o:=some k) (q:=q);constructor
  ·have one:∀b,g0 b G T W P k=some q->g0 (!b) G T W P k≠some q:=λb z1 z2=>by
    have:=Pi h p hk e z1;exact this (mE h p hk e (!b) z2).2.1
   unfold oR at n0 n1 ⊢;by_cases c0:g0 false G T W P k=some q
   ·have:=(mE h p hk e false c0).2.2.1;rw[yL c0,yN (show ¬ g0 true G T W P k=some q from one false c0)];have:0 < P.getD q 0:=this;split<;>lia
   ·rw[yN c0];by_cases c1:g0 true G T W P k=some q
    ·have:=(mE h p hk e true c1).2.2.1;have:0 < P.getD q 0:=this;rw[yL c1];split<;>lia
    ·rw[yN c1];split<;>lia
  ·by_cases c:k=q
   ·subst c;have:=Lx (o:=some k) (q:=k);lia
   ·have:oR (some k) q=0:=by unfold oR;rw[yN (λz=>c (xD z))]
    lia
 ·have hn:=j9 (b:=b) h hi;rw[lj h hi];have hle:sm (lst b G T W i) (vl (lP G T W P k))<=sm (lst b G T W i) (λq=>vl P q+oR (some k) q - oR (g0 b G T W P k) q):=Bi λq hq=>by
   have hqW:=((ke h hi).mp hq).1;show (lP G T W P k).getD q 0<=_;rw[at' q hqW];have n0:=pS (o:=g0 false G T W P k) (q:=q);have n1:=pS (o:=g0 true G T W P k) (q:=q);show _<=P.getD q 0+oR (some k) q - oR (g0 b G T W P k) q;cases b<;>lia
  have e1:sm (lst b G T W i) (λq=>vl P q+oR (some k) q - oR (g0 b G T W P k) q)=sm (lst b G T W i) (vl P)+sm (lst b G T W i) (oR (some k)) - sm (lst b G T W i) (oR (g0 b G T W P k)):=by
   rw[MJ,MT]
  rw[e1,F4 hn,F4 hn] at hle;have ha:=p.am b i hi;rw[lj h hi] at ha;have hA:(eB b G T i).1=amt b G T i:=rfl;by_cases c:cn b W k=i
  ·subst c;have hkl:=u5 h b hk;rcases yq h p hk (f2 b) with ⟨z1,z2⟩|⟨z1,g,z2,z3,_,_⟩
   ·rw[show g0 b G T W P k=none from z2] at hle;rw[lj h hi] at z1;simp?[hkl,xH] at hle;lia
   ·rw[show g0 b G T W P k=some g from z2] at hle;rw[lj h hi] at z1;simp?[hkl,z3,xH] at hle;lia
  ·have hkl:¬ k∈lst b G T W i:=λz=>c ((ke h hi).mp z).2;simp?[hkl,qP] at hle;have:0<=(match g0 b G T W P k with|some g=>if g∈lst b G T W i then (1:Int) else 0|none=>0):=by
    split
    ·split<;>lia
    ·lia
   lia
end
section
variable {G T:List Pl}{W:List Wy}{P c:List Int}{b:Bool}{i k g:Nat}
def QZ{l:List D}{x:D}(h:l.getLast?=some x):aw (.list l) (.int (-1))=some x:=by
 have hn:0 < l.length:=by
  cases l with
  | nil=>cases h
  | cons _ _=>simp
 show oe l (-1)=_;unfold oe DQ;rw[yN (by lia),yL (by lia),zA,show ((-1:Int)+(l.length:Int)).toNat=l.length - 1 by lia,<- List.getLast?_eq_getElem?];exact h
def Hv(h:Wd G T W)(hi:i < (bp b G T).length):(lst b G T W i).length<=16:=by
 have hw:=h.wl;rw[(l6 h hi).length_eq];refine yD (xP _ _) ?_;rw[zR];exact hw
def J6(h:Wd G T W)(hp:P.length=W.length)(hi:i < (bp b G T).length)(hg:Hr b G T W P i=some g):ck [aC G T W,ag P,.int (sI b),nD i]=some (nD g):=by
 have hll:=Hv h hi;refine aI ?_;show cW [.val (aC G T W),.val (ag P),.val (.int (sI b)),.val (nD i)]=_;unfold cW;have c:aj 1 [1] (aB (ah 3 fj (aa (ab 0) (aa (ab 2) (aa (ab 3) ae))))) (fG 0) (fB (f2 Dl.si (f2 aw (ab 1) (ab 0)) (fC (.int 0)))) (ab 0) [some (aC G T W),some (ag P),some (.int (sI b)),some (nD i)]=some (((lst b G T W i).filter λq=>decide (0 < vl P q)).map nD) :=
  zu (ie (call_of (rZ h (sV hi)) rfl rfl)) (by show (lst b G T W i).length<=1000;lia) λq hq=>⟨aY (av (dB _ _) (av (mO (by rw[hp];exact ((ke h hi).mp hq).1)) rfl rfl) rfl),λ_=>rfl⟩
 refine aL (av (a:=.list (((lst b G T W i).filter λq=>decide (0 < vl P q)).map nD)) (b:=.int (-1)) (QZ ?_) ?_ rfl)
 ·rw[List.getLast?_map];unfold Hr at hg;rw[hg];rfl
 ·show bc _ [some (aC G T W),some (ag P),some (.int (sI b)),some (nD i)]=_;simp?[bc,c,zB]
def Iw(h:Wd G T W)(hk:k < W.length)(b:Bool):aw (ak (az W k)) (.int (sI b))=some (nD (cn b W k)):=by
 rw[l8,<- (h.end_pl b hk).2.2];rfl
def Me(h:Wd G T W)(hi:i < (bp b G T).length){fw fb fi:Dl.Env->Option D}{ρ:Dl.Env}(hw:fw ρ=some (aC G T W))(hb:fb ρ=some (.int (sI b)))(hf:fi ρ=some (nD i)):f2 aw (f2 aw (f2 aw fw fb) fi) (fC (.int 0)) ρ=some (.int (amt b G T i)) :=
 av (a:=bx (eB b G T i)) (b:=.int 0) rfl (av (lr (f:=bx) (l:=bp b G T) (sV hi)) (av (tK b G T W) hw hb) hf) rfl
def QG:ao->Option Out:=(ar (Dl.aD 5 [0,2,4] (f2 aw (f2 aw (f2 aw (ab 0) (fC (.int 2))) (ab 2)) (ab 4))) (d5 (fB (f2 bo (ah 4 cy (aa (ab 0) (aa (ab 1) (aa (ab 4) (aa (ab 5) ae))))) (f2 aw (f2 aw (f2 aw (ab 0) (ab 4)) (ab 5)) (fC (.int 0))))) (ar (Dl.aD 6 [0,1,4,5] (ah 4 ck (aa (ab 0) (aa (ab 1) (aa (ab 4) (aa (ab 5) ae)))))) (Dl.aD 3 [3,6] (ah 3 cH (aa (ab 3) (aa (ab 6) (aa (f2 Dl.iz (f2 aw (ab 3) (ab 6)) (fC (.int 1))) ae)))))) dC))
abbrev Nn(G T:List Pl)(W:List Wy)(P:List Int)(k:Nat)(c:List Int)(x4 x5 x6:Slot):ao:=[.val (aC G T W),.val (ag P),.val (nD k),.val (ag c),x4,x5,x6]
def Br(h:Wd G T W)(p:Pn G T W P)(hk:k < W.length)(e:gU G T W P k=3)(b:Bool)(hc:c.length=W.length):∃y5 y6,QG (Nn G T W P k c (.val (.int (sI b))) x5 x6)=some (.nx (Nn G T W P k (dec (g0 b G T W P k) c) (.val (.int (sI b))) y5 y6)):=by
 have hw:=h.wl;have hi:=uC h b hk;have hs:=p.smP h;unfold QG;have s1:∀ρ:Dl.Env,ab 0 ρ=some (aC G T W)->ab 2 ρ=some (nD k)->ab 4 ρ=some (.int (sI b))->f2 aw (f2 aw (f2 aw (ab 0) (fC (.int 2))) (ab 2)) (ab 4) ρ=some (nD (cn b W k)):=λρ a0 a2 a4 =>
  av (Iw h hk b) (av (lr (f:=ak) (l:=W) (by simp[az,hk])) (av (hJ G T W) a0 rfl) a2) a4
 have t:∀ρ:Dl.Env,ab 0 ρ=some (aC G T W)->ab 1 ρ=some (ag P)->ab 4 ρ=some (.int (sI b))->ab 5 ρ=some (nD (cn b W k))->fB (f2 bo (ah 4 cy (aa (ab 0) (aa (ab 1) (aa (ab 4) (aa (ab 5) ae))))) (f2 aw (f2 aw (f2 aw (ab 0) (ab 4)) (ab 5)) (fC (.int 0)))) ρ=some (decide (iL b W P (cn b W k)=amt b G T (cn b W k))):=λρ a0 a1 a4 a5 =>
  aY (av (cI _ _) (call_of (ni h p.len hs b _) (cons_of a0 (cons_of a1 (cons_of a4 (cons_of a5 rfl)))) rfl) (Me h hi a0 a4 a5))
 rcases yq h p hk ((ph h p hk e).2 b) with ⟨z1,z2⟩|⟨z1,g,z2,z3,_,_⟩
 ·refine⟨.val (nD (cn b W k)),x6,(ai (bj (s1 _ rfl rfl rfl) (s1 _ rfl rfl rfl) rfl)).trans ?_⟩;refine (bD ((t _ rfl rfl rfl rfl).trans (by rw[zZ (by lia)]))).trans ?_;show _=some (Out.nx (Nn G T W P k (dec (DM b G T W P (cn b W k)) c) _ _ x6));rw[z2];rfl
 ·refine⟨.val (nD (cn b W k)),.val (nD g),(ai (bj (s1 _ rfl rfl rfl) (s1 _ rfl rfl rfl) rfl)).trans ?_⟩;refine (f9 ((t _ rfl rfl rfl rfl).trans (by rw[yA z1]))).trans ?_;have hg:Hr b G T W P (cn b W k)=some g:=by
   unfold DM at z2;rw[yN (by lia)] at z2;exact z2
  have hgW:=((ke h hi).mp z3).1;have e6:=J6 h p.len hi hg;refine (ai (bj (call_of e6 rfl rfl) (call_of e6 rfl rfl) rfl)).trans ?_;have e3:∀ρ:Dl.Env,ab 3 ρ=some (ag c)->ab 6 ρ=some (nD g)->ah 3 cH (aa (ab 3) (aa (ab 6) (aa (f2 Dl.iz (f2 aw (ab 3) (ab 6)) (fC (.int 1))) ae))) ρ=some (ag (c.set g (c.getD g 0 - 1))):=λρ a3 a6 =>
   call_of (o6 (by lia) (by lia)) (cons_of a3 (cons_of a6 (cons_of (av (sub_int _ _) (av (mO (by lia)) a3 a6) rfl) rfl))) rfl
  refine (bj (e3 _ rfl rfl) (e3 _ rfl rfl) rfl).trans ?_;show _=some (Out.nx (Nn G T W P k (dec (DM b G T W P (cn b W k)) c) _ _ (.val (nD g))));rw[z2];rfl
def wU(h:Wd G T W)(p:Pn G T W P)(hk:k < W.length)(e:gU G T W P k=3):c8 [aC G T W,ag P,nD k]=some (ag (lP G T W P k)):=by
 have hw:=h.wl;have hp:=p.len;refine aI ?_;show (ar (Dl.aD 3 [1,2] (ah 3 cH (aa (ab 1) (aa (ab 2) (aa (f2 Dl.aA (f2 aw (ab 1) (ab 2)) (fC (.int 1))) ae))))) (ar (cP [] (aB (aJ (aa (fC (.int 0)) (aa (fC (.int 1)) ae)))) (kn 4) QG) (aE (ab 3)))) (Nn G T W P k P .non .non .non |>.set 3 .non)=_;have e0:∀ρ:Dl.Env,ab 1 ρ=some (ag P)->ab 2 ρ=some (nD k)->ah 3 cH (aa (ab 1) (aa (ab 2) (aa (f2 Dl.aA (f2 aw (ab 1) (ab 2)) (fC (.int 1))) ae))) ρ=some (ag (P.set k (P.getD k 0+1))):=λρ a1 a2 =>
  call_of (o6 (by lia) (by lia)) (cons_of a1 (cons_of a2 (cons_of (av (a:=.int (P.getD k 0)) (b:=.int 1) rfl (av (mO (by lia)) a1 a2) rfl) rfl))) rfl
 refine (ai (bj (e0 _ rfl rfl) (e0 _ rfl rfl) rfl)).trans ?_;let⟨y5,y6,q1⟩:=Br (c:=P.set k (P.getD k 0+1)) (x5:=.non) (x6:=.non) h p hk e false (by rw[yC];exact hp);let⟨z5,z6,q2⟩:=Br (c:=dec (g0 false G T W P k) (P.set k (P.getD k 0+1))) (x5:=y5) (x6:=y6) h p hk e true (by rw[oA,yC];exact hp);refine (ai (bU (ds:=[.int 0,.int 1]) ((rX (ρ1:=Nn G T W P k (P.set k (P.getD k 0+1)) (.val (.int (sI false))) .non .non) rfl q1).trans ((rX (ρ1:=Nn G T W P k (dec (g0 false G T W P k) (P.set k (P.getD k 0+1))) (.val (.int (sI true))) y5 y6) rfl q2).trans rfl)) rfl rfl)).trans ?_;exact aL rfl
end
section
variable {G T:List Pl}{W:List Wy}{P c:List Int}{b:Bool}{i k g:Nat}
def IV(G T:List Pl)(W:List Wy)(s:List (List Int)):Option (List (List Int)):=match s.getLast? with
 | none=>none
 | some P=>match (o4 G T W P).head? with
  | none=>none
  | some k=>if lP G T W P k∈s then none else some (s++[lP G T W P k])
def IY(G T:List Pl)(W:List Wy):Nat->List (List Int)->List (List Int)
 | 0,s=>s
 | n+1,s=>match IV G T W s with
  | none=>s
  | some s'=>IY G T W n s'
abbrev Ee(G T:List Pl)(W:List Wy)(P:List Int):List (List Int):=IY G T W Rf.turns [P]
def o9{S:Type}{t:Dl.Env->Option Bool}{gb:ao->Option Out}{f:Dl.Env->Option D}(Rel:S->ao->Prop)(nx:S->Option S)(wl:Nat->S->S)(fin:S->D)(μ:S->Nat)(w0:∀s n,nx s=none->wl (n+1) s=s)(w1:∀s n s',nx s=some s'->wl (n+1) s=wl n s')
  (hA:∀s ρ,Rel s ρ->nx s=none->(t (aR ρ)=some false/\f (aR ρ)=some (fin s))\/(t (aR ρ)=some true/\gb ρ=some (.rt (fin s))))
  (hB:∀s ρ s',Rel s ρ->nx s=some s'->t (aR ρ)=some true/\(∃ρ',gb ρ=some (.nx ρ')/\Rel s' ρ')/\μ s' < μ s) :
  ∀ (n:Nat) (s:S) (ρ:ao),Rel s ρ->μ s < n->ar (DU t gb n) (aE f) ρ=some (.rt (fin (wl n s)))
 | 0,_,_,_,h=>absurd h (vN _)
 | n+1,s,ρ,hr,hm=>by
  cases e:nx s with
  | none =>
   rw[w0 s n e];rcases hA s ρ hr e with ⟨h1,h2⟩|⟨h1,h2⟩
   ·unfold ar;rw[DU,h1,zA,yN (by simp),zA];exact aL h2
   ·unfold ar;rw[DU,h1,zA,yL rfl,h2];rfl
  | some s' =>
   let⟨h1,⟨ρ',h2,h3⟩,h4⟩:=hB s ρ s' hr e;rw[w1 s n s' e,<- o9 Rel nx wl fin μ w0 w1 hA hB n s' ρ' h3 (by lia)];unfold ar;rw[DU,h1,zA,yL rfl,h2];rfl
def KY{s:List (List Int)}{n:Nat}(h:IV G T W s=none):IY G T W (n+1) s=s:=by rw[IY,h]
def Ku{s s':List (List Int)}{n:Nat}(h:IV G T W s=some s'):IY G T W (n+1) s=IY G T W n s':=by rw[IY,h]
def xg:∀ {L l:List (List Int)},l.Nodup->(∀x∈l,x∈L)->l.length<=L.length
 | _,[],_,_=>xV _
 | L,x::l,hn,h=>by
  rw[List.nodup_cons] at hn;have hx:=h x zE;have:=xg (L:=L.erase x) (l:=l) hn.2 λy hy=>(List.mem_erase_of_ne (show y≠x fromλz=>hn.1 (z ▸ hy))).mpr (h y (zC _ hy));rw[List.length_erase_of_mem hx] at this;have:0 < L.length:=List.length_pos_of_mem hx;rw[zL];lia
def NT:Nat->List (List Int)
 | 0=>[[]]
 | n+1=>(NT n).flatMap λr=>[0::r,1::r,2::r]
def Ba:∀n,(NT n).length=3 ^ n
 | 0=>rfl
 | n+1=>by
  rw[NT,List.length_flatMap];simp?[zL,xK];rw[List.map_const',List.sum_replicate_nat,Ba n,Nat.pow_succ]
def BW:∀ {r:List Int},(∀x∈r,0<=x/\x<=2)->r∈NT r.length
 | [],_=>List.mem_singleton.mpr rfl
 | x::r,h=>by
  have ih:=BW (r:=r) λy hy=>h y (zC _ hy);have hx:=h x zE;rw[zL,NT,List.mem_flatMap];refine⟨r,ih,?_⟩;simp?[zQ,kP,and_true,yF,xU];lia
structure Ht(G T:List Pl)(W:List Wy)(s:List (List Int)):Prop where
 ne:s≠[]
 pn:∀P∈s,Pn G T W P
 nd:s.Nodup
def Ht.few(f:Ht G T W s)(h2:∀w∈W,w.2.2<=2)(hw:W.length<=9):s.length<=19683:=by
 have:=xg (L:=NT W.length) f.nd λP hP=>by
  have p:=f.pn P hP;rw[<- p.len];refine BW λx hx=>?_;let⟨q,hq,rfl⟩:=qQ hx;have hqW:q < W.length:=by rw[<- p.len];exact hq
  have hb:=p.bd q hqW;have hl:=h2 _ (fP hqW);rw[zG,zK hq,qG] at hb;lia
 rw[Ba] at this;refine yD this ?_;exact Nat.pow_le_pow_right (by lia) hw
def tG(e:(o4 G T W P).head?=some k):k < W.length/\gU G T W P k=3:=by
 have:=List.mem_of_mem_head? e;unfold o4 at this;rw[List.mem_filter,zS,zJ] at this;exact this
def AX(h:Wd G T W)(f:Ht G T W s)(e:IV G T W s=some s'):∃P k,s.getLast?=some P/\Pn G T W P/\(o4 G T W P).head?=some k/\¬ lP G T W P k∈s/\s'=s++[lP G T W P k]/\Ht G T W s':=by
 unfold IV at e;cases e1:s.getLast? with
 | none=>rw[e1] at e;cases e
 | some P =>
  rw[e1] at e;have p:=f.pn P (List.mem_of_getLast? e1);simp only at e;cases e2:(o4 G T W P).head? with
  | none=>rw[e2] at e;cases e
  | some k =>
   rw[e2] at e;simp only at e;by_cases c:lP G T W P k∈s
   ·rw[yL c] at e;cases e
   ·rw[yN c] at e;cases e;let⟨hk,hy⟩:=tG e2;refine⟨P,k,rfl,p,e2,c,rfl,by simp,λX hX=>?_,?_⟩
    ·rcases List.mem_append.mp hX with z|z
     ·exact f.pn X z
     ·rw[List.mem_singleton.mp z];exact Gi h p hk hy
    ·rw[wK];exact⟨f.nd,by simp,λa ha b hb z=>c (by rw[List.mem_singleton.mp hb] at z;exact z ▸ ha)⟩
def HL(f:Ht G T W s)(e:IV G T W s=none):∃P,s.getLast?=some P/\Pn G T W P/\((o4 G T W P).head?=none\/∃k,(o4 G T W P).head?=some k/\lP G T W P k∈s):=by
 unfold IV at e;cases e1:s.getLast? with
 | none=>exact absurd (List.getLast?_eq_none_iff.mp e1) f.ne
 | some P =>
  rw[e1] at e;have p:=f.pn P (List.mem_of_getLast? e1);refine⟨P,rfl,p,?_⟩;simp only at e;cases e2:(o4 G T W P).head? with
  | none=>exact .inl rfl
  | some k =>
   rw[e2] at e;simp only at e;by_cases c:lP G T W P k∈s
   ·exact .inr ⟨k,rfl,c⟩
   ·rw[yN c] at e;cases e
def El(h:Wd G T W):∀ (n:Nat) {s:List (List Int)},Ht G T W s->Ht G T W (IY G T W n s)
 | 0,s,f=>f
 | n+1,s,f=>by
  cases e:IV G T W s with
  | none=>rw[KY e];exact f
  | some s' =>
   let⟨_,_,_,_,_,_,_,f'⟩:=AX h f e;rw[Ku e];exact El h n f'
def Mc(o:Option Nat):D:=match o with
 | some k=>nD k
 | none=>.none
def Ja(h:Wd G T W)(p:Pn G T W P):aW [aC G T W,ag P]=some (Mc (o4 G T W P).head?):=by
 rw[iF h p.len (p.smP h)];unfold o4;rw[List.head?_filter];rfl
def B9(o:Option Nat):lH (Mc o) .none=some (.bool o.isSome):=by cases o<;>rfl
def Gy{l:List (List Int)}{P:List Int}(h:l.getLast?=some P):aw (.list (l.map ag)) (.int (-1))=some (ag P):=QZ (by rw[List.getLast?_map,h];rfl)
def Eo{i:Nat}{fz:List Nat}{f:Dl.Env->Option D}{ρ:ao}{l:List Int}(hA:f (aR ρ)=some (ag l))(hF:f (ba (hand fz 0 ρ))=some (ag l)):Dl.aD i fz f ρ=some (.nx (ρ.set i (.val (ag l)))):=by
 have hn:fW (ag l)=true:=by
  show iS (l.map PyData.int)=true;clear hA hF
  induction l with
  | nil=>rfl
  | cons x l ih=>exact ih
 simp?[Dl.aD,hA,zA,show Dl.je (ag l)=false from rfl,yO,qP,hF,zB,hn,xH]
end
section
variable {G T:List Pl}{W:List Wy}{P c:List Int}{b:Bool}{i k g:Nat}{s:List (List Int)}
def Io{i:Nat}{fz:List Nat}{f:Dl.Env->Option D}{ρ:ao}{d:D}{ds:List D}(hA:f (aR ρ)=some d)(hF:f (ba (hand fz 0 ρ))=some d)(hh:hand fz 0 ρ=ρ)(ho:ρ[i]?=some (.own ds))(hl:ds.length < sizeLine):lK i fz f ρ=some (.nx (ρ.set i (.own (ds++[d])))):=by
 rw[hh] at hF;unfold lK lW;rw[hA,zA];split
 ·simp?[zA,mv,ho,yL hl,zB]
 ·simp?[hh,hF,zB,zA,mv,ho,yL hl]
def Ce{i j:Nat}{g1 g2:ao->Option Out}{ρ:ao}{r:List Int}{ks:List (List Int)}(h1:ρ[i]?=some (.val (ag r)))(h2:ρ[j]?=some (.tab ks)):rN i j g1 g2 ρ=if ks.contains r=true then g1 ρ else g2 ρ:=by
 unfold rN;rw[h1,h2,show zf (some (.val (ag r)))=some r from bC r,show tabS (some (.tab ks))=some ks from rfl];rfl
def Js{j i:Nat}{f:Dl.Env->Option D}{ρ:ao}{r:List Int}{ks:List (List Int)}{d:D}(h1:ρ[i]?=some (.val (ag r)))(h2:ρ[j]?=some (.tab ks))(hf:f (aR ρ)=some d)(hs:Dl.je d=true)(hl:ks.length < sizeLine)(hn:ks.contains r=false):rD j i f ρ=some (.nx (ρ.set j (.tab (ks++[r])))):=by
 unfold rD;rw[h1,h2,show zf (some (.val (ag r)))=some r from bC r,show tabS (some (.tab ks))=some ks from rfl,zA,zA,hf,zA,hs,yA hl,hn];rfl
def Bt(o:Option Nat):Dl.je (Mc o)=true:=by cases o<;>rfl
def gV{l:List (List Int)}{r:List Int}(h:¬ r∈l):l.contains r=false:=by
 rw[Bool.eq_false_iff];exactλz=>h (List.contains_iff_mem.mp z)
def Hm(G T:List Pl)(W:List Wy)(s:List (List Int)):Option Nat:=s.getLast?.bind λP=>(o4 G T W P).head?
def Qo:ao->Option Out:=(ar (Dl.aD 5 [0,2,4] (ah 3 c8 (aa (ab 0) (aa (f2 aw (ab 2) (f1 lI (fC (.int 1)))) (aa (ab 4) ae))))) (ar (rN 5 3 (aE (ab 2)) dC) (ar (lK 2 [5] (ab 5)) (ar (rD 3 5 (fC (.bool true))) (Dl.aD 4 [0,5] (ah 2 aW (aa (ab 0) (aa (ab 5) ae))))))))
abbrev O4(G T:List Pl)(W:List Wy)(P:List Int)(s:List (List Int))(x4 x5:Slot):ao:=[.val (aC G T W),.val (ag P),.own (s.map ag),.tab s,x4,x5]
def EN:19683 < sizeLine:=by rw[qU];decide
def A4(h:Wd G T W){X:List Int}(p:Pn G T W X)(e1:s.getLast?=some X)(e2:(o4 G T W X).head?=some k):Dl.aD 5 [0,2,4] (ah 3 c8 (aa (ab 0) (aa (f2 aw (ab 2) (f1 lI (fC (.int 1)))) (aa (ab 4) ae)))) (O4 G T W P s (.val (nD k)) x5)=some (.nx (O4 G T W P s (.val (nD k)) (.val (ag (lP G T W X k))))):=by
 let⟨hk,hy⟩:=tG e2;have hc:∀ρ:Dl.Env,ab 0 ρ=some (aC G T W)->ab 2 ρ=some (.list (s.map ag))->ab 4 ρ=some (nD k)->ah 3 c8 (aa (ab 0) (aa (f2 aw (ab 2) (f1 lI (fC (.int 1)))) (aa (ab 4) ae))) ρ=some (ag (lP G T W X k)):=λρ a0 a2 a4 =>
  call_of (wU h p hk hy) (cons_of a0 (cons_of (av (b:=.int (-1)) (Gy e1) a2 rfl) (cons_of a4 rfl))) rfl
 exact Eo (hc _ rfl rfl rfl) (hc _ rfl rfl rfl)
def LZ(h:Wd G T W)(p:Pn G T W P)(h2:∀w∈W,w.2.2<=2)(hw:W.length<=9):sZ [aC G T W,ag P]=some (.list ((Ee G T W P).map ag)):=by
 refine aI ?_;show (ar (k8 (ah 2 cK (aa (ab 0) (aa (ab 1) ae)))) (ar (aQ 2 [1] (dR (aa (ab 1) ae))) (ar (sE 3 1 (fC (.bool true))) (ar (Dl.aD 4 [0,1] (ah 2 aW (aa (ab 0) (aa (ab 1) ae)))) (ar (DU (fB (f2 lH (ab 4) (fC .none))) Qo Rf.turns) (aE (ab 2))))))) [.val (aC G T W),.val (ag P),.non,.non,.non,.non]=_;refine (ai (gG (call_of (hU h p) rfl rfl))).trans ?_;refine (ai (dM (ds:=[ag P]) rfl rfl)).trans ?_;have e3:sE 3 1 (fC (.bool true)) [.val (aC G T W),.val (ag P),.own [ag P],.non,.non,.non]=some (.nx [.val (aC G T W),.val (ag P),.own [ag P],.tab [P],.non,.non]):=by
  unfold sE;rw[show zf ([Slot.val (aC G T W),Slot.val (ag P),Slot.own [ag P],Slot.non,Slot.non,Slot.non][1]?)=some P from bC P];rfl
 refine (ai e3).trans ?_;have e4:∀X,Pn G T W X->∀ρ:Dl.Env,∀f:Dl.Env->Option D,ab 0 ρ=some (aC G T W)->f ρ=some (ag X)->ah 2 aW (aa (ab 0) (aa f ae)) ρ=some (Mc (o4 G T W X).head?):=λX hX ρ f a0 a1=>call_of (Ja h hX) (cons_of a0 (cons_of a1 rfl)) rfl;refine (ai (bq (e4 P p _ _ rfl rfl) (Bt _))).trans ?_;have f0:Ht G T W [P]:=⟨by simp,λX hX=>by rw[List.mem_singleton.mp hX];exact p,by simp⟩
 refine o9 (S:=List (List Int)) (λs ρ=>Ht G T W s/\∃x5,ρ=O4 G T W P s (.val (Mc (Hm G T W s))) x5) (IV G T W) (IY G T W) (λs=>.list (s.map ag)) (λs=>19684 - s.length) (λs n=>KY) (λs n s'=>Ku) ?_ ?_ Rf.turns [P] _ ⟨f0,.non,rfl⟩ (by show 19684 - 1 < 1000000;lia)
 ·rintro s ρ ⟨f,x5,rfl⟩ e;let⟨X,e1,hX,e2⟩:=HL f e;have hd:Hm G T W s=(o4 G T W X).head?:=by unfold Hm;rw[e1];rfl
  have t:∀x5,(fB (f2 lH (ab 4) (fC .none))) (aR (O4 G T W P s (.val (Mc (Hm G T W s))) x5))=some (Hm G T W s).isSome:=λx5=>aY (av (B9 _) rfl rfl);rcases e2 with e2|⟨k,e2,hm⟩
  ·exact .inl ⟨(t x5).trans (by rw[hd,e2];rfl),rfl⟩
  ·refine .inr ⟨(t x5).trans (by rw[hd,e2];rfl),?_⟩;rw[hd,e2];unfold Qo;refine (ai (A4 h hX e1 e2)).trans (IX ?_);rw[Ce (r:=lP G T W X k) (ks:=s) rfl rfl,yL (List.contains_iff_mem.mpr hm)];exact aL rfl
 ·rintro s ρ s' ⟨f,x5,rfl⟩ e;let⟨X,k,e1,hX,e2,hm,rfl,f'⟩:=AX h f e;have hd:Hm G T W s=some k:=by unfold Hm;rw[e1];exact e2
  have hl:=f'.few h2 hw;rw[zN,xC] at hl;have hb:=EN;let⟨hk,hy⟩:=tG e2;refine⟨(aY (av (B9 _) rfl rfl)).trans (by rw[hd];rfl),⟨O4 G T W P (s++[lP G T W X k]) (.val (Mc (Hm G T W (s++[lP G T W X k])))) (.val (ag (lP G T W X k))),?_,f',_,rfl⟩,by rw[zN,xC];lia⟩;rw[hd];unfold Qo;refine (ai (A4 h hX e1 e2)).trans ?_;refine (ai ((Ce (r:=lP G T W X k) (ks:=s) rfl rfl).trans (by rw[yN (by rw[gV hm];simp)];rfl))).trans ?_;refine (ai (Io (ds:=s.map ag) (d:=ag (lP G T W X k)) rfl rfl rfl rfl (by rw[zD];lia))).trans ?_;refine (ai (Js (r:=lP G T W X k) (ks:=s) (d:=.bool true) rfl rfl rfl rfl (by lia) (gV hm))).trans ?_;refine (bq (e4 _ (Gi h hX hk hy) _ _ rfl rfl) (Bt _)).trans ?_;have e5:Hm G T W (s++[lP G T W X k])=(o4 G T W (lP G T W X k)).head?:=by unfold Hm;rw[List.getLast?_concat];rfl
  rw[e5];show some (Out.nx [_,_,Slot.own (s.map ag++[ag (lP G T W X k)]),_,_,_])=some (Out.nx [_,_,Slot.own ((s++[lP G T W X k]).map ag),_,_,_]);rw[jA];rfl
end
abbrev tl(x:Str):List Nat:=x.cps.toList
def tS(l:List Nat):Str:=⟨l.toArray⟩
def bJ(l:List Nat):tl (tS l)=l:=by simp[tl,tS]
def A5(x:Str):tS (tl x)=x:=by cases x;simp[tl,tS]
def pk{x y:Str}(h:tl x=tl y):x=y:=by rw[<- A5 x,<- A5 y,h]
def gq(x:Str):(tl x).length=x.length:=by simp[tl,Str.length]
def oW(x y:Str):tl (x++y)=tl x++tl y:=by
 show (Str.append x y).cps.toList=_;simp[Str.append,tl]
def mU(c:Nat):List Nat->List (List Nat)
 | []=>[[]]
 | x::r=>if x=c then []::mU c r else match mU c r with
  | p::ps=>(x::p)::ps
  | []=>[[x]]
def jn(c:List Nat):List (List Nat)->List Nat
 | []=>[]
 | [p]=>p
 | p::q::r=>p++(c++jn c (q::r))
def wz:∀ {l:List Nat},c∉l->mU c l=[l]
 | [],_=>rfl
 | x::r,h=>by
  have h1:x≠c:=λz=>h (by rw[z];exact zE);rw[mU,yN h1,wz λz=>h (zC _ z)]
def oq:∀ {p r:List Nat},c∉p->mU c (p++c::r)=p::mU c r
 | [],r,_=>by rw[xO,mU,yL rfl]
 | x::p,r,h=>by
  have h1:x≠c:=λz=>h (by rw[z];exact zE);rw[xF,mU,yN h1,oq λz=>h (zC _ z)]
def Al:∀ {ps:List (List Nat)},ps≠[]->(∀p∈ps,c∉p)->mU c (jn [c] ps)=ps
 | [],h,_=>absurd rfl h
 | [p],_,h=>by rw[jn];exact wz (h p zE)
 | p::q::r,_,h=>by
  rw[jn];show mU c (p++c::jn [c] (q::r))=_;rw[oq (h p zE),Al (by simp) λz hz=>h z (zC _ hz)]
def uo(sep:Str):∀ps:List Str,tl (sep.join ps)=jn (tl sep) (ps.map tl)
 | []=>rfl
 | [p]=>rfl
 | p::q::r=>by
  have e:sep.join (p::q::r)=p++sep++sep.join (q::r):=rfl;rw[e,oW,oW,uo sep (q::r),List.append_assoc];rfl
def EA(sep:Str)(ps:List Str):tl (Txt.join sep ps)=jn (tl sep) (ps.map tl):=by
 unfold Txt.join;rw[StrLaws.glued_eq_join,uo]
def Ec(x y:Str):Txt.split x y≠[]:=by
 unfold Txt.split;split
 ·simp
 ·split
  ·simp
  ·rw[StrLaws.partsBetween_eq];let⟨p,r,e⟩:=StrLaws.partsFrom_ne x y.length 0 (Builtin.Str.occurrences x y 0 x.length (x.length+1));rw[e];simp
def GP(x:Str)(c:Nat):(Txt.split x ⟨#[c]⟩).map tl=mU c (tl x):=by
 have h:=uo ⟨#[c]⟩ (Txt.split x ⟨#[c]⟩);rw[StrLaws.join_split] at h;rw[h];refine (Al ?_ λp hp=>?_).symm
 ·intro z;exact Ec x ⟨#[c]⟩ (List.map_eq_nil_iff.mp z)
 ·let⟨q,hq,rfl⟩:=List.mem_map.mp hp;exact StrLaws.split_free x c q hq
def jc(x:Str)(c:Nat):Txt.split x ⟨#[c]⟩=(mU c (tl x)).map tS:=by
 rw[<- GP,zM]
 conv=>lhs;rw[<- List.map_id (Txt.split x ⟨#[c]⟩)]
 exact yI λy _=>(A5 y).symm
def Jk(sep:Str)(ps:List (List Nat)):Txt.join sep (ps.map tS)=tS (jn (tl sep) ps):=by
 refine pk ?_;rw[EA,bJ,zM]
 congr 1
 conv=>rhs;rw[<- List.map_id ps]
 exact yI λy _=>bJ y
def AQ:("\n":Str)=⟨#[10]⟩:=by decide +kernel
def Bl:(" ":Str)=⟨#[32]⟩:=by decide +kernel
def Ow:("0123456789":Str)=⟨#[48,49,50,51,52,53,54,55,56,57]⟩:=by decide +kernel
def KC:(".":Str)=⟨#[46]⟩:=by decide +kernel
def KM:("":Str)=⟨#[]⟩:=by decide +kernel
def J3{n:Nat}(h:n < 10):((toString (n:Int):String):Str)=⟨#[48+n]⟩:=by
 match n,h with
 | 0,_|1,_|2,_|3,_|4,_|5,_|6,_|7,_|8,_|9,_=>decide +kernel
def A1:∀l:List Nat,(mU c l).length<=l.length+1
 | []=>by simp[mU]
 | x::r=>by
  have ih:=A1 (c:=c) r;unfold mU;split
  ·simp;lia
  ·split
   ·rename_i p ps e;rw[e] at ih;simp at ih ⊢;lia
   ·simp
section
variable {G T:List Pl}{W:List Wy}{P:List Int}
def NX:∀ (l:List Int),iS (l.map PyData.int)=true
 | []=>by simp[iS]
 | x::l=>by rw[zI,iS,NX l];simp[fW]
def P9(l:List Int):fW (ag l)=true:=by rw[ag,fW,NX]
def NW{i:Nat}{fz:List Nat}{f:Dl.Env->Option D}{ρ:ao}{l:List Int}(hA:f (aR ρ)=some (ag l))(hF:f (ba (hand fz 0 ρ))=some (ag l)):Dl.aD i fz f ρ=some (.nx (ρ.set i (.val (ag l)))):=by
 have hs:Dl.je (ag l)=false:=rfl;simp?[Dl.aD,hA,hF,zA,hs,yO,qP,zB,P9,xH]
def O2:List Nat->Option Nat
 | [c]=>if 48<=c/\c < 58 then some (c - 48) else none
 | _=>none
def Gz{x:Str}(hz:x.length<=sizeLine):(ki (fB (f2 cO (aS nI (aa (ab 0) ae)) (fC (.int 1)))) (fB (f2 (λx y=>(Fp x y).map PyData.bool) (ab 0) (fC (.str "0123456789"))))) [some (.str x)]=some (O2 (tl x)).isNone:=by
 have e1:(fB (f2 cO (aS nI (aa (ab 0) ae)) (fC (.int 1)))) [some (.str x)]=some (!decide (((x.length:Nat):Int)=1)):=by
  have:aS nI (aa (ab 0) ae) [some (.str x)]=some (.int ((x.length:Nat):Int)):=by
   show nI [.str x]=_;show (if x.length<=sizeLine then some (PyData.int ((x.length:Nat):Int)) else none)=_;rw[yL hz]
  unfold fB f2;rw[this];rfl
 have e2:(fB (f2 (λx y=>(Fp x y).map PyData.bool) (ab 0) (fC (.str "0123456789")))) [some (.str x)]=some (!(!(Builtin.Str.occurrences ("0123456789":Str) x 0 ("0123456789":Str).length 1).isEmpty)):=rfl;unfold ki;rw[e1,zA,e2];by_cases h1:x.length=1
 ·obtain⟨c,rfl⟩:∃c,x=⟨#[c]⟩:=by
   have:(tl x).length=1:=by rw[gq];exact h1
   let⟨c,hc⟩:=List.length_eq_one_iff.mp this;exact⟨c,by rw[<- A5 x,hc];rfl⟩
  rw[StrLaws.found_one];have:tl ⟨#[c]⟩=[c]:=rfl;rw[this];have hd:("0123456789":Str).cps.toList=[48,49,50,51,52,53,54,55,56,57]:=by rw[Ow]
  rw[hd];unfold O2;by_cases hc:48<=c/\c < 58
  ·have:c∈[48,49,50,51,52,53,54,55,56,57]:=by
    let⟨a,b⟩:=hc;simp?[zQ,yF,xU];lia
   simp[hc,this];simp[Str.length]
  ·have:c∉[48,49,50,51,52,53,54,55,56,57]:=by
    simp?[zQ,yF,xU];lia
   simp[hc,this]
   try simp[Str.length]
 ·have:O2 (tl x)=none:=by
   unfold O2;split
   ·rename_i c hc;exact absurd (by rw[<- gq,hc];rfl) h1
   ·rfl
  rw[this];have h2:¬ (((x.length:Nat):Int)=1):=by lia
  simp[h2]
def IQ{n:Nat}(h:n < 10):Builtin.Str.occurrences ("0123456789":Str) (tS [48+n]) 0 ("0123456789":Str).length 1=[n]:=by
 match n,h with
 | 0,_|1,_|2,_|3,_|4,_|5,_|6,_|7,_|8,_|9,_=>decide +kernel
def hV{a:Str}(h:PyData.strOk a=true):SeqAt.shaped (.str a)=true:=by simp[SeqAt.shaped,PyData.canLay0,PyData.depth,h]
def BJ(a b:Str):PyData.eqv (.str a) (.str b)=(a == b):=by simp[PyData.eqv]
def eq_str{a b:Str}(ha:PyData.strOk a=true)(hb:PyData.strOk b=true):bo (.str a) (.str b)=some (.bool (a == b)):=by
 unfold bo KH;rw[yL ⟨hV ha,hV hb⟩,BJ];rfl
def ne_str{a b:Str}(ha:PyData.strOk a=true)(hb:PyData.strOk b=true):cO (.str a) (.str b)=some (.bool (!(a == b))):=by
 unfold cO NL;rw[yL ⟨hV ha,hV hb⟩,BJ];rfl
def my{x:Str}{c:Nat}(hz:x.length+1<=sizeLine):bz (.str x) (.str ⟨#[c]⟩)=some ((Txt.split x ⟨#[c]⟩).map PyData.str):=by
 show (if ((⟨#[c]⟩:Str).length == 0)=false/\x.length<=sizeLine/\(Txt.split x ⟨#[c]⟩).length<=sizeLine then some ((Txt.split x ⟨#[c]⟩).map PyData.str) else none)=_;refine yL ⟨rfl,by lia,?_⟩;rw[jc,zD];have:=A1 (c:=c) (tl x);rw[gq] at this;lia
def wN{α:Type}(xs:List α):cut xs none (some (-1))=xs.dropLast:=by
 unfold cut;have e1:HT.bw xs.length 0 none=0:=rfl;have e2:HT.bw xs.length xs.length (some (-1))=xs.length - 1:=by
  show (if (-1:Int) < 0 then ((-1:Int)+(xs.length:Int)).toNat else min (-1:Int).toNat xs.length)=_;rw[yL (by decide)];lia
 rw[e1,e2,List.drop_zero,Nat.sub_zero,List.dropLast_eq_take]
def JC{α:Type}{xs:List α}{a:α}:oe (xs++[a]) (-1)=some a:=by
 unfold oe DQ;rw[yN (by decide),yL (by rw[zN];simp;lia)];show (xs++[a])[_]?=_;rw[show ((-1:Int)+((xs++[a]).length:Int)).toNat=xs.length by rw[zN];simp;lia];simp
abbrev sD(l:List Nat):D:=.str (tS l)
abbrev lv(x:Str)(ps:List D):ao:=[Slot.val (.str x),Slot.val (.list ps)]
def Df{x:Str}(hz:x.length+1<=sizeLine):aD 1 [0] (bc (og bz (ab 0) (fC (.str "\n")))) [Slot.val (.str x),.non]=some (.nx (lv x ((mU 10 (tl x)).map sD))):=by
 have e:∀r,bc (og bz (ab 0) (fC (.str "\n"))) (some (.str x)::r)=some (.list ((mU 10 (tl x)).map sD)):=λr=>by
  have:og bz (ab 0) (fC (.str "\n")) (some (.str x)::r)=some ((mU 10 (tl x)).map sD):=by
   show bz (.str x) (.str "\n")=_;rw[AQ,my hz,jc,zM];rfl
  unfold bc;rw[this];rfl
 unfold aD;rw[show aR [Slot.val (.str x),.non]=[some (.str x),none] from rfl,e,zA,yN (by simp[Dl.je])];rw[show ba (hand [0] 0 [Slot.val (.str x),.non])=[some (.str x),none] from rfl,e];rfl
def pJ{te:Dl.Env->Option D}{r:Dl.Env}{f:D->D}:∀ {ds:List D},(∀d∈ds,te (some d::r)=some (f d))->aZ (fG 0) (λ_=>some true) te (none::r) ds=some (ds.map f)
 | [],_=>rfl
 | d::ds,h=>by
  unfold aZ;rw[show fG 0 (none::r) d=some (some d::r) from rfl,zA,zA,yL rfl,h d zE,zA,pJ λe he=>h e (zC _ he)];rfl
def Bw{sep:Str}{ps:List (List Nat)}(h:ps.length * 100+ps.length * sep.length<=16777216)(hp:∀p∈ps,p.length<=100):lO (.str sep) (.list (ps.map sD))=some (sD (jn (tl sep) ps)):=by
 have e:strsOf (ps.map sD)=some (ps.map tS):=by
  have:=qk (ps.map tS);rw[zM] at this;exact this
 show ((strsOf (ps.map sD)).bind λxs=>if JoinOk sep xs=true then some (PyData.str (Txt.join sep xs)) else none)=_;rw[e,zA,yL ?_,Jk];unfold JoinOk;rw[StrLaws.joinFits (B:=100) (λy hy=>?_) (by rw[zD];exact h)]
 ·rfl
 ·let⟨p,hp',rfl⟩:=List.mem_map.mp hy;rw[<- gq,bJ];exact hp p hp'
def Cu(ls:List (List Nat)):List Nat:=jn [] (ls.map λl=>l++[10])
def oC:∀ {ls:List (List Nat)},(∀l∈ls,10∉l)->mU 10 (Cu ls)=ls++[[]]
 | [],_=>rfl
 | [l],h=>by
  show mU 10 (l++10::[])=_;rw[oq (h l zE)];rfl
 | l::q::r,h=>by
  have e:Cu (l::q::r)=l++10::Cu (q::r):=by
   show (l++[10])++([]++jn [] ((q::r).map λl=>l++[10]))=_;rw[xO,List.append_assoc];rfl
  rw[e,oq (h l zE),oC λz hz=>h z (zC _ hz)];rfl
structure Gd(l:List Nat):Prop where
 s:∀c∈l,c < 1114112
 n:l.length<=10000000
def Gd.sk{l:List Nat}(g:Gd l):PyData.strOk (tS l)=true:=by
 show Array.all (List.toArray l) _=true;rw[List.all_toArray,xG];intro c hc;exact yA (g.s c hc)
def Kq:16000000<=sizeLine:=by decide
def Gd.z{l:List Nat}(g:Gd l):l.length+1<=sizeLine:=by
 have:=g.n;have:=Kq;lia
def Gd.zt{l:List Nat}(g:Gd l):(tS l).length+1<=sizeLine:=by
 rw[<- gq,bJ];exact g.z
def FZ:∀ls:List (List Nat),jn [] ls=ls.flatten
 | []=>rfl
 | [l]=>by simp[jn]
 | l::q::r=>by
  show l++([]++jn [] (q::r))=_;rw[xO,FZ (q::r)];rfl
def jm(ls:List (List Nat)):Cu ls=(ls.map λl=>l++[10]).flatten:=FZ _
def AK{ls:List (List Nat)}(h:∀l∈ls,l.length<=99):(Cu ls).length<=100 * ls.length:=by
 rw[jm]
 induction ls with
 | nil=>exact yM _
 | cons l r ih =>
  rw[zI,qM,zN,zN,xC,zL];have:=h l zE;have:=ih λq hq=>h q (zC _ hq);lia
def B3{ls:List (List Nat)}{c:Nat}(h:c∈Cu ls):c=10\/∃l∈ls,c∈l:=by
 rw[jm,List.mem_flatten] at h;let⟨q,hq,hc⟩:=h;let⟨l,hl,rfl⟩:=List.mem_map.mp hq;rcases List.mem_append.mp hc with hc|hc
 ·exact .inr ⟨l,hl,hc⟩
 ·exact .inl (List.mem_singleton.mp hc)
def Ei{c:Nat}{sep:List Nat}:∀ {ps:List (List Nat)},c∈jn sep ps->c∈sep\/∃p∈ps,c∈p
 | [],h=>by cases h
 | [p],h=>.inr ⟨p,zE,h⟩
 | p::q::r,h=>by
  have h:c∈p++(sep++jn sep (q::r)):=h;rcases List.mem_append.mp h with h|h
  ·exact .inr ⟨p,zE,h⟩
  ·rcases List.mem_append.mp h with h|h
   ·exact .inl h
   ·rcases Ei h with h|⟨z,hz,h⟩
    ·exact .inl h
    ·exact .inr ⟨z,zC _ hz,h⟩
def MO{a b:List Nat}(h:a.length+b.length<=16000000):fY (sD a) (sD b)=some (sD (a++b)):=by
 show (if (tS a).length+(tS b).length<=sizeLine then some (PyData.str (tS a++tS b)) else none)=_;rw[yL (by rw[<- gq,<- gq,bJ,bJ];exact yD h Kq)];have:tS a++tS b=tS (a++b):=pk (by rw[oW,bJ,bJ,bJ]);rw[this]
abbrev KD(ns:List Nat):D:=.tuple (ns.map λn=>.int ((n:Nat):Int))
def Jb(ns:List Nat):KD ns=ag (ns.map λn=>((n:Nat):Int)):=by
 show PyData.tuple _=PyData.tuple _;rw[zM];rfl
def P8{n:Nat}(hn:n < 10):O2 [48+n]=some n:=by
 show (if 48<=48+n/\48+n < 58 then some (48+n - 48) else none)=some n;rw[yL ⟨by lia,by lia⟩]
 congr 1
 lia
def O7{n:Nat}(h:n < 10):ej [sD [48+n]]=some (.int ((n:Nat):Int)):=by
 have t:=Gz (x:=tS [48+n]) (by rw[<- gq,bJ];exact (by decide:1<=sizeLine));rw[bJ,P8 h] at t;unfold ej nA;refine aI ?_;refine (ai (bD (ρ:=[Slot.val (sD [48+n])]) t)).trans (aL ?_);show pC (.str "0123456789") (.str (tS [48+n]))=_;unfold pC;dsimp only;rw[IQ h]
def M9{ns:List Nat}(h:∀n∈ns,n < 10)(hl:ns.length<=1000):eZ [.list (ns.map λn=>sD [48+n])]=some (KD ns):=by
 have c:=r6 (cs:=[]) (tt:=λ_=>some true) (te:=ah 1 ej (aa (ab 0) ae)) (g:=λn=>sD [48+n]) (f:=λn=>.int ((n:Nat):Int)) (q:=λ_=>true) (l:=ns) (fi:=aB (ab 0)) (ρ:=[some (.list (ns.map λn=>sD [48+n]))]) (ie rfl) hl λn hn=>⟨rfl,λ_=>call_of (O7 (h n hn)) rfl rfl⟩
 rw[show ns.filter (λ_=>true)=ns by simp] at c;unfold eZ mi;exact aI (aL ((iA (dW c)).trans (ue _)))
def AM{x:Str}{ls:List (List Nat)}(hz:x.length+1<=sizeLine)(h:mU 10 (tl x)=ls++[[]]):cX [.str x]=some (.list (ls.map sD)):=by
 have s:=Df hz;rw[h,jA] at s;have t:fB (f2 cO (f2 aw (ab 1) (f1 lI (fC (.int 1)))) (fC (.str ""))) [some (.str x),some (.list (ls.map sD++[[]].map sD))]=some false:=by
  refine aY (av (a:=sD []) (b:=.str "") ?_ ?_ rfl)
  ·rw[ne_str (by decide +kernel) (by decide +kernel)];rfl
  ·show oe (ls.map sD++[sD []]) (-1)=_;exact JC
 unfold cX pU;refine aI ?_;refine (ai s).trans ?_;refine (ai (bD (ρ:=lv x (ls.map sD++[[]].map sD)) t)).trans (aL ?_);show some (PyData.list (cut (ls.map sD++[[]].map sD) none (some (-1))))=_;rw[wN];simp
def G6{n:Nat}(h:n < 10):Cv [.int ((n:Nat):Int)]=some (sD [48+n]):=by
 show (if ((n:Nat):Int).natAbs.log2 < 1920 then some (PyData.str (toString ((n:Nat):Int))) else none)=_;rw[yL (by
  have:((n:Nat):Int).natAbs=n:=by simp
  rw[this]
  match n,h with
  | 0,_|1,_|2,_|3,_|4,_|5,_|6,_|7,_|8,_|9,_=>decide),J3 h]
 rfl
def NB{l:List Nat}(h:l.length<=99):fY (sD l) (.str "\n")=some (sD (l++[10])):=by
 show (if (tS l).length+("\n":Str).length<=sizeLine then some (PyData.str (tS l++("\n":Str))) else none)=_;rw[yL (by
  rw[<- gq,bJ,AQ];show l.length+1<=sizeLine;exact yD (Nat.succ_le_succ h) (by decide))]
 have:tS l++("\n":Str)=tS (l++[10]):=pk (by rw[oW,bJ,bJ,AQ]);rw[this]
def Fi{ls:List (List Nat)}(h:∀l∈ls,l.length<=99)(hl:ls.length<=30000):cm [.list (ls.map sD)]=some (sD (Cu ls)):=by
 have c:aj 1 [] (aB (ab 0)) (fG 0) (λ_=>some true) (f2 fY (ab 0) (fC (.str "\n"))) [some (.list (ls.map sD))]=some ((ls.map λl=>l++[10]).map sD):=by
  show (aZ (fG 0) (λ_=>some true) (f2 fY (ab 0) (fC (.str "\n"))) [none] (ls.map sD)).bind small=_;rw[pJ (f:=λd=>match d with|.str a=>sD (tl a++[10])|d=>d) λd hd=>by
   let⟨l,hl,rfl⟩:=List.mem_map.mp hd;show fY (sD l) (.str "\n")=some (sD (tl (tS l)++[10]));rw[NB (h l hl),bJ]]
  rw[zA];unfold small;rw[yL (by simp?[zD];exact yD hl (by decide)),zM,zM];rfl
 have j:f2 lO (fC (.str "")) (bc (aj 1 [] (aB (ab 0)) (fG 0) (λ_=>some true) (f2 fY (ab 0) (fC (.str "\n"))))) [some (.list (ls.map sD))]=some (sD (Cu ls)):=by
  show (((aj 1 [] (aB (ab 0)) (fG 0) (λ_=>some true) (f2 fY (ab 0) (fC (.str "\n"))) [some (.list (ls.map sD))]).map PyData.list).bind λy=>lO (.str "") y)=_;rw[c];show lO (.str "") (.list ((ls.map λl=>l++[10]).map sD))=_;rw[Bw,KM]
  ·rfl
  ·rw[zD,KM];show ls.length * 100+ls.length * 0<=_;lia
  ·intro p hp;let⟨l,hl,rfl⟩:=List.mem_map.mp hp;rw[zN];exact Nat.succ_le_succ (h l hl)
 unfold cm aV iJ aE;show ((f2 lO (fC (.str "")) (bc (aj 1 [] (aB (ab 0)) (fG 0) (λ_=>some true) (f2 fY (ab 0) (fC (.str "\n"))))) [some (.list (ls.map sD))]).map _).map _=_;rw[j];rfl
def gO{α:Type}(p:α->Bool)(ds:List α):gx [.list (ds.map λd=>.bool (p d))]=some (.bool (ds.all p)):=by
 have:∀ds:List α,boolsOf (ds.map λd=>PyData.bool (p d))=some (ds.map p):=λds=>by
  induction ds with
  | nil=>rfl
  | cons d ds ih=>rw[zI,boolsOf,ih];rfl
 simp?[gx,oneOf,zA,this,zB,List.all_map];rfl
def Lg{w:D}{ds:List D}{p:D->Bool}(hz:ds.length<=sizeLine)(h:∀d∈ds,bb [w,d]=some (.bool (p d))):dg [w,.list ds]=some (.bool (ds.all p)):=by
 have c:aj 1 [0] (aB (ab 1)) (fG 0) (λ_=>some true) (ah 2 bb (aa (ab 1) (aa (ab 0) ae))) [some w,some (.list ds)]=some (ds.map λd=>.bool (p d)):=by
  show (aZ (fG 0) (λ_=>some true) (ah 2 bb (aa (ab 1) (aa (ab 0) ae))) [none,some w] ds).bind small=_;rw[pJ (f:=λd=>.bool (p d)) λd hd=>h d hd,zA];unfold small;rw[yL (by simpa using hz)]
 have e:aS gx (aa (bc (aj 1 [0] (aB (ab 1)) (fG 0) (λ_=>some true) (ah 2 bb (aa (ab 1) (aa (ab 0) ae))))) ae) [some w,some (.list ds)]=some (.bool (ds.all p)):=by
  show ((aa (bc (aj 1 [0] (aB (ab 1)) (fG 0) (λ_=>some true) (ah 2 bb (aa (ab 1) (aa (ab 0) ae))))) ae [some w,some (.list ds)]).bind gx)=_;have e2:bc (aj 1 [0] (aB (ab 1)) (fG 0) (λ_=>some true) (ah 2 bb (aa (ab 1) (aa (ab 0) ae)))) [some w,some (.list ds)]=some (.list (ds.map λd=>.bool (p d))):=by
   show (aj 1 [0] (aB (ab 1)) (fG 0) (λ_=>some true) (ah 2 bb (aa (ab 1) (aa (ab 0) ae))) [some w,some (.list ds)]).map PyData.list=_;rw[c];rfl
  show ((bc (aj 1 [0] (aB (ab 1)) (fG 0) (λ_=>some true) (ah 2 bb (aa (ab 1) (aa (ab 0) ae)))) [some w,some (.list ds)]).bind λx=>(ae [some w,some (.list ds)]).map (x::·)).bind gx=_;rw[e2];exact gO p ds
 unfold dg aV nB aE;show ((aS gx _ [some w,some (.list ds)]).map _).map _=_;rw[e];rfl
def toN{x:Int}(h:0<=x):((x.toNat:Nat):Int)=x:=Int.toNat_of_nonneg h
def Pr(a x b:Nat):List Nat:=[48+a,32,45,48+x,62,32,48+b]
def lN{f:Dl.Env->Option D}{fs:List (Dl.Env->Option D)}{acc l:List Nat}{ρ:Dl.Env}(h:f ρ=some (sD l))(hl:acc.length+l.length<=16000000):IF (f::fs) (tS acc) ρ=IF fs (tS (acc++l)) ρ:=by
 have e:tS acc++tS l=tS (acc++l):=pk (by rw[oW,bJ,bJ,bJ]);show ((f ρ).bind λd=>(Mf d).bind λy=>if (tS acc++y).length<=sizeLine then IF fs (tS acc++y) ρ else none)=_;rw[h];show (if (tS acc++tS l).length<=sizeLine then IF fs (tS acc++tS l) ρ else none)=_;rw[e,yL (by rw[<- gq,bJ,zN];exact yD hl Kq)]
def EL{f:Dl.Env->Option D}{ρ:Dl.Env}{n:Nat}(h:f ρ=some (nD n))(hn:n < 10):f1 Dm f ρ=some (sD [48+n]):=by
 unfold f1;rw[h];exact G6 hn
def MQ{a b x:Nat}{l:Int}(ha:a < 10)(hb:b < 10)(hx:x < 10):bN [ak (((a:Nat):Int),((b:Nat):Int),l),nD x]=some (sD (Pr a x b)):=by
 unfold bN;refine aI ?_;show i8 [.val (ak (((a:Nat):Int),((b:Nat):Int),l)),.val (nD x),.non,.non]=_;unfold i8;refine (ai (bq (d:=nD a) (av (FO _) rfl rfl) rfl)).trans ?_;refine (ai (bq (d:=nD b) (av (Ed _) rfl rfl) rfl)).trans (aL ?_);have m1:(PyData.str " -":D)=sD [32,45]:=by rw[show (" -":Str)=tS [32,45] by decide +kernel]
 have m2:(PyData.str "> ":D)=sD [62,32]:=by rw[show ("> ":Str)=tS [62,32] by decide +kernel]
 rw[show Str.empty=tS [] from rfl,lN (EL (n:=a) rfl ha) (by simp),lN (l:=[32,45]) (by rw[m1];rfl) (by simp),lN (EL (n:=x) rfl hx) (by simp),lN (l:=[62,32]) (by rw[m2];rfl) (by simp),lN (EL (n:=b) rfl hb) (by simp)];rfl
def B1(W:List Wy)(i x:Nat):List Nat:=Pr (az W i).1.toNat x (az W i).2.1.toNat
def DZ(h:Wd G T W){i:Nat}(hi:i < W.length):ak (az W i)=ak ((((az W i).1.toNat:Nat):Int),(((az W i).2.1.toNat:Nat):Int),(az W i).2.2)/\(az W i).1.toNat < 10/\(az W i).2.1.toNat < 10/\1<=(az W i).2.2/\(az W i).2.2<=9:=by
 have a:=h.wr _ (fP hi);have:=h.g4;have:=h.t4;refine⟨?_,by lia,by lia,a.2.2⟩;rw[toN a.1.1,toN a.2.1.1]
def AS(h:Wd G T W){i x:Nat}(hi:i < W.length)(hx:x < 10):bN [ak (az W i),nD x]=some (sD (B1 W i x)):=by
 let⟨e,a,b,_⟩:=DZ h hi;rw[e];exact MQ a b hx
def Lm(h:Wd G T W){i j x y:Nat}(hi:i < W.length)(hj:j < W.length)(e:B1 W i x=B1 W j y):i=j/\x=y:=by
 unfold B1 Pr at e;injection e with e1 e
 injection e with _ e
 injection e with _ e
 injection e with e2 e
 injection e with _ e
 injection e with _ e
 injection e with e3 _
 have a:=h.wr _ (fP hi);have b:=h.wr _ (fP hj);refine⟨?_,by lia⟩;have hp:=h.wp;rcases Nat.lt_trichotomy i j with z|z|z
 ·have:=List.pairwise_iff_getElem.mp hp i j hi hj z;rw[eE hi,eE hj] at this;lia
 ·exact z
 ·have:=List.pairwise_iff_getElem.mp hp j i hj hi z;rw[eE hi,eE hj] at this;lia
def Ng{ks:List (Str×List Int)}{z z':Str}{ns:List Int}(h:(ks.any λp=>decide (p.1=z))=false):oo (ks++[(z,ns)]) z'=if z=z' then some ns else oo ks z':=by
 unfold oo;rw[List.find?_append];by_cases e:z=z'
 ·subst e;rw[yL rfl,List.find?_eq_none.mpr (λp hp=>by
   rw[List.any_eq_false] at h;exact h p hp)]
  simp
 ·rw[yN e];cases ks.find? λp=>decide (p.1=z') with
  | none=>simp[e]
  | some q=>rfl
def Aw{z z':Str}{ns:List Int}:∀ {ks:List (Str×List Int)},(ks.any λp=>decide (p.1=z))=true->oo (ks.map λp=>if p.1=z then (p.1,ns) else p) z'=if z=z' then some ns else oo ks z'
 | [],h=>by cases h
 | p::r,h=>by
  unfold oo;rw[zI,List.find?_cons,List.find?_cons];by_cases e:p.1=z
  ·subst e;rw[yL rfl];by_cases e':p.1=z'
   ·subst e';simp
   ·rw[yN e'];rw[show (decide ((p.1,ns).1=z'))=false from zZ e'];dsimp only;cases hr:r.any λq=>decide (q.1=p.1) with
    | true =>
     have:=Aw (z':=z') (ns:=ns) hr;unfold oo at this;rw[this,yN e']
    | false =>
     have:(r.map λq=>if q.1=p.1 then (q.1,ns) else q)=r:=by
      conv=>rhs;rw[<- List.map_id r]
      refine yI λq hq=>?_;rw[List.any_eq_false] at hr;have:=hr q hq;simp?[zJ] at this;rw[yN this];rfl
     rw[this]
  ·rw[yN e];have hr:(r.any λq=>decide (q.1=z))=true:=by
    rw[vB,zZ e,Bool.false_or] at h;exact h
   have ih:=Aw (z':=z') (ns:=ns) hr;unfold oo at ih;by_cases e':p.1=z'
   ·rw[yA e',yN (λw=>e (e'.trans w.symm))]
   ·rw[zZ e'];exact ih
def MB(ks:List (Str×List Int))(z z':Str)(ns:List Int):oo (oV ks z ns) z'=if z=z' then some ns else oo ks z':=by
 unfold oV;split
 ·rename_i h;exact Aw h
 ·rename_i h;exact Ng (by rw[Bool.not_eq_true] at h;exact h)
def JE(ks:List (Str×List Int))(z:Str)(ns:List Int):(oV ks z ns).length<=ks.length+1:=by
 unfold oV;split
 ·rw[zD];lia
 ·rw[zN];exact yM _
structure Kn(W:List Wy)(i k:Nat)(ks:List (Str×List Int)):Prop where
 all:∀j x:Nat,j < W.length->1<=x->(x:Int)<=(az W j).2.2->(j < i\/(j=i/\x<=k))->oo ks (tS (B1 W j x))=some [((j:Nat):Int),((x:Nat):Int)]
 len:ks.length<=9 * i+k
def Kn.next(h:Wd G T W){i k:Nat}{ks:List (Str×List Int)}(hi:i < W.length)(K:Kn W i k ks):Kn W i (k+1) (oV ks (tS (B1 W i (k+1))) [((i:Nat):Int),((k+1:Nat):Int)]):=by
 refine⟨λj x hj h1 h2 hc=>?_,?_⟩
 ·rw[MB];by_cases e:B1 W i (k+1)=B1 W j x
  ·let⟨rfl,rfl⟩:=Lm h hi hj e;rw[yL rfl]
  ·rw[yN λz=>e (by have:=jC tl z;rwa [bJ,bJ] at this)];refine K.all j x hj h1 h2 ?_;rcases hc with hc|⟨rfl,hc⟩
   ·exact .inl hc
   ·refine .inr ⟨rfl,?_⟩;by_cases z:x=k+1
    ·subst z;exact absurd rfl e
    ·lia
 ·have:=JE ks (tS (B1 W i (k+1))) [((i:Nat):Int),((k+1:Nat):Int)];have:=K.len;lia
abbrev DN(G T:List Pl)(W:List Wy)(x1 x2 x3 x4:Slot):ao:=[.val (aC G T W),x1,x2,x3,x4]
def JM:ao->Option Out:=w6 1 (ah 2 bN (aa (ab 3) (aa (ab 4) ae))) (aJ (aa (ab 2) (aa (ab 4) ae)))
def Q8:ao->Option Out:=cP [3] (j1 (aa (fC (.int 1)) (aa (f2 aA (f2 aw (ab 3) (fC (.int 2))) (fC (.int 1))) ae))) (kn 4) JM
def tupI(l:List Int):gc (ag l)=some l:=by
 have:∀l:List Int,intsOf (l.map PyData.int)=some l:=λl=>by
  induction l with
  | nil=>rfl
  | cons x r ih=>rw[zI,intsOf,ih];rfl
 exact this l
def Jc(h:Wd G T W){i k:Nat}{ks:List (Str×List Int)}(hi:i < W.length)(hk:k < 9)(K:Kn W i k ks):JM (DN G T W (.dic ks) (.val (nD i)) (.val (ak (az W i))) (.val (nD (k+1))))=some (.nx (DN G T W (.dic (oV ks (tS (B1 W i (k+1))) [((i:Nat):Int),((k+1:Nat):Int)])) (.val (nD i)) (.val (ak (az W i))) (.val (nD (k+1))))):=by
 have e1:(aJ (aa (ab 2) (aa (ab 4) ae))) (ba (DN G T W (.dic ks) (.val (nD i)) (.val (ak (az W i))) (.val (nD (k+1)))))=some (ag [((i:Nat):Int),((k+1:Nat):Int)]):=tup_is (ds:=[nD i,nD (k+1)]) rfl (by simp);have e2:(ah 2 bN (aa (ab 3) (aa (ab 4) ae))) (ba (DN G T W (.dic ks) (.val (nD i)) (.val (ak (az W i))) (.val (nD (k+1)))))=some (sD (B1 W i (k+1))):=call_of (AS h hi (by lia)) rfl rfl;have hl:ks.length < sizeLine:=by
  have:=K.len;have:=h.wl;have:=Kq;lia
 unfold JM w6;rw[e1,zA,tupI,zA,e2,zA];show (if ks.length < sizeLine then _ else none)=_;rw[yL hl];rfl
def HK(h:Wd G T W):∃ks,d0 [aC G T W]=some (dD ks)/\∀j x:Nat,j < W.length->1<=x->(x:Int)<=(az W j).2.2->oo ks (tS (B1 W j x))=some [((j:Nat):Int),((x:Nat):Int)]:=by
 let⟨ρ',f,ks,x2,x3,x4,rfl,K⟩:=ou (tgt:=fS 2 3) (gb:=Q8) (λi=>.tuple [nD i,ak (az W i)]) (λi ρ=>∃ks x2 x3 x4,ρ=DN G T W (.dic ks) x2 x3 x4/\Kn W i 0 ks) W.length 0 (DN G T W (.dic []) .non .non .non)
  (λi ρ _ hi hρ=>by
   let⟨ks,x2,x3,x4,rfl,K⟩:=hρ;have hi:i < W.length:=by lia
   let⟨_,_,_,l1,l9⟩:=DZ h hi;let⟨m,hm⟩:=vG (show 0<=(az W i).2.2 by lia);let⟨ρ',f,ks',y4,rfl,K'⟩:=ou (tgt:=kn 4) (gb:=JM) (λk=>nD (k+1)) (λk ρ=>∃ks x4,ρ=DN G T W (.dic ks) (.val (nD i)) (.val (ak (az W i))) x4/\Kn W i k ks) m 0 (DN G T W (.dic ks) (.val (nD i)) (.val (ak (az W i))) x4)
    (λk ρ _ hk hρ=>by
     let⟨ks,x4,rfl,K⟩:=hρ;exact⟨_,_,rfl,Jc h hi (by lia) K,_,_,rfl,K.next h hi⟩) ⟨ks,_,rfl,K⟩
   rw[jD] at K';rw[<- yH] at f;have hr:j1 (aa (fC (.int 1)) (aa (f2 aA (f2 aw (ab 3) (fC (.int 2))) (fC (.int 1))) ae)) (ba (DN G T W (.dic ks) (.val (nD i)) (.val (ak (az W i))) x4))=some ((List.range m).map λk=>nD (k+1)):=by
    have e:aa (fC (.int 1)) (aa (f2 aA (f2 aw (ab 3) (fC (.int 2))) (fC (.int 1))) ae) (ba (DN G T W (.dic ks) (.val (nD i)) (.val (ak (az W i))) x4))=some [.int 1,.int (((m:Nat):Int)+1)]:=cons_of rfl (cons_of (av (cQ _ _) (av ((oM (az W i)).trans (by rw[hm])) rfl rfl) rfl) rfl);have ok1:uy (((m:Nat):Int)+1)=true:=oH (m:=m+1) (by lia);unfold j1;rw[e,zA];show (if (uy 1&&uy (((m:Nat):Int)+1))=true then some ((List.range (((m:Nat):Int)+1 - 1).toNat).map λk=>PyData.int (1+((k:Nat):Int))) else none)=_;rw[ok1,yL (by decide),show (((m:Nat):Int)+1 - 1).toNat=m by lia];refine jC some (yI λk _=>?_);show PyData.int (1+((k:Nat):Int))=PyData.int ((k+1:Nat):Int);rw[show (1:Int)+((k:Nat):Int)=((k+1:Nat):Int) by lia]
   refine⟨_,_,rfl,bU f hr rfl,ks',_,_,_,rfl,⟨λj x hj h1 h2 hc=>K'.all j x hj h1 h2 ?_,?_⟩⟩
   ·rcases hc with hc|⟨_,hc⟩
    ·by_cases z:j=i
     ·subst z;exact .inr ⟨rfl,by lia⟩
     ·exact .inl (by lia)
    ·lia
   ·have:=K'.len;lia) ⟨[],_,_,_,rfl,⟨λj x _ h1 _ hc=>by rcases hc with hc|⟨_,hc⟩<;>lia,xV _⟩⟩
 rw[jD] at K;refine⟨ks,?_,λj x hj h1 h2=>K.all j x hj h1 h2 (.inl hj)⟩;unfold d0;refine aI ?_;show gy [.val (aC G T W),.non,.non,.non,.non]=_;unfold gy;refine (ai (show wR 1 [.val (aC G T W),.non,.non,.non,.non]=some (.nx (DN G T W (.dic []) .non .non .non)) from rfl)).trans ?_;refine (ai (bU f ?_ rfl)).trans (aL rfl);have e:f2 aw (ab 0) (fC (.int 2)) (ba (DN G T W (.dic []) .non .non .non))=some (.tuple (W.map ak)):=av (hJ G T W) rfl rfl;rw[<- sH];unfold bf;rw[cons_of e rfl];rfl
def yg(W:List Wy)(P:List Int):List Nat:=(List.range W.length).filter λi=>decide (0 < P.getD i 0)
def yf(W:List Wy)(P:List Int)(i:Nat):List Nat:=B1 W i (P.getD i 0).toNat
abbrev ye(W:List Wy)(P:List Int):List Nat:=Cu ((yg W P).map (yf W P))
def kb{i:Nat}:i∈yg W P↔i < W.length/\0 < P.getD i 0:=by
 unfold yg;rw[List.mem_filter,zS,zJ]
def B5:(yg W P).length<=W.length:=by
 unfold yg;exact yD (xP _ _) (by rw[zR];exact yM _)
def Pn.at9(h:Wd G T W)(p:Pn G T W P){i:Nat}(hi:i < W.length):0<=P.getD i 0/\P.getD i 0<=(az W i).2.2/\P.getD i 0<=9:=by
 have:=p.bd i hi;have:=(h.wr _ (fP hi)).2.2.2;lia
def ua(h:Wd G T W)(p:Pn G T W P){i:Nat}(hi:i < W.length):(yf W P i).length<=99/\10∉yf W P i/\∀c∈yf W P i,c < 200:=by
 let⟨_,a,b,_⟩:=DZ h hi;have c:=p.at9 h hi;unfold yf;have hy:(P.getD i 0).toNat < 10:=by lia
 generalize (P.getD i 0).toNat=y at hy;unfold B1 Pr;refine⟨by simp,λz=>?_,λx hx=>?_⟩
 ·simp at z;lia
 ·simp at hx;lia
def MK(h:Wd G T W)(p:Pn G T W P):Gd (ye W P):=by
 refine⟨λc hc=>?_,?_⟩
 ·rcases B3 hc with rfl|⟨l,hl,hc⟩
  ·decide
  ·let⟨i,hi,rfl⟩:=List.mem_map.mp hl;have:=(ua h p (kb.mp hi).1).2.2 c hc;lia
 ·have:=AK (ls:=(yg W P).map (yf W P)) λl hl=>by
   let⟨i,hi,rfl⟩:=List.mem_map.mp hl;exact (ua h p (kb.mp hi).1).1
  rw[zD] at this;have:=B5 (W:=W) (P:=P);have:=h.wl;show (Cu ((yg W P).map (yf W P))).length<=10000000;lia
def BO(h:Wd G T W)(p:Pn G T W P):cD [aC G T W,ag P]=some (sD (ye W P)):=by
 have hw:=h.wl;have hz:∀ρ:Dl.Env,ab 0 ρ=some (aC G T W)->ab 1 ρ=some (ag P)->eS (aa (f2 aw (ab 0) (fC (.int 2))) (aa (ab 1) ae)) ρ=some ((List.range W.length).map λi=>.tuple [ak (az W i),.int (P.getD i 0)]):=λρ h0 h1=>by
  rw[<- mX p.len];unfold eS;rw[cons_of (av (hJ G T W) h0 rfl) (cons_of h1 rfl)];rfl
 have c:=jd (cs:=[]) (tt:=fB (f2 si (ab 1) (fC (.int 0)))) (te:=ah 2 bN (aa (ab 0) (aa (ab 1) ae))) (p:=λi=>decide (0 < P.getD i 0)) (h:=λi=>sD (yf W P i)) (hz (aR [.val (aC G T W),.val (ag P)]) rfl rfl) (by lia) λi hi=>⟨aY (av (dB _ _) rfl rfl),λ_=>by
  have a:=p.at9 h hi;have e:(PyData.int (P.getD i 0):D)=nD (P.getD i 0).toNat:=jC PyData.int (toN a.1).symm;refine call_of (AS h hi (x:=(P.getD i 0).toNat) (by lia)) ?_ rfl;rw[<- e];rfl⟩
 unfold cD;refine aI ?_;show fI [.val (aC G T W),.val (ag P)]=_;unfold fI;have t:=Fi (ls:=(yg W P).map (yf W P)) (λl hl=>by
  let⟨i,hi,rfl⟩:=List.mem_map.mp hl;exact (ua h p (kb.mp hi).1).1) (by rw[zD];have:=B5 (W:=W) (P:=P);lia)
 rw[zM] at t;exact aL (call_of t (cons_of (dW c) rfl) rfl)
def Pq:ao->Option Out:=(ar (d5 (fB (f2 Fz (ab 4) (ab 2))) DL dC) (ar (aD 5 [2,4] (f2 rV (ab 2) (ab 4))) (Dh 3 [5] (f2 aw (ab 5) (fC (.int 0))) (f2 aw (ab 5) (fC (.int 1))))))
abbrev s7(G T:List Pl)(W:List Wy)(t:List Nat)(ks:List (Str×List Int))(x3 x4 x5:Slot):ao:=[.val (aC G T W),.val (sD t),.val (dD ks),x3,x4,x5,.non]
def HA{t l:List Nat}{ks:List (Str×List Int)}{N:List Int}{i:Nat}{y:Int}(hl:oo ks (tS l)=some [((i:Nat):Int),y])(hi:i < N.length):Pq (s7 G T W t ks (.own (N.map PyData.int)) (.val (sD l)) x5)=some (.nx (s7 G T W t ks (.own ((N.set i y).map PyData.int)) (.val (sD l)) (.val (ag [((i:Nat):Int),y])))):=by
 have e:Ho (dE ks) (tS l)=some (ag [((i:Nat):Int),y]):=by rw[AR,hl];rfl
 unfold Pq;refine (ai (bD (aY (show f2 Fz (ab 4) (ab 2) (aR (s7 G T W t ks (.own (N.map PyData.int)) (.val (sD l)) x5))=some (.bool false) by
  show some (PyData.bool (!(Ho (dE ks) (tS l)).isSome))=_;rw[e];rfl)))).trans ?_
 have e5:∀ρ:Dl.Env,ab 2 ρ=some (dD ks)->ab 4 ρ=some (sD l)->f2 rV (ab 2) (ab 4) ρ=some (ag [((i:Nat):Int),y]):=λρ h2 h4=>av (a:=dD ks) (b:=sD l) e h2 h4;refine (ai (bj (e5 _ rfl rfl) (e5 _ rfl rfl) rfl)).trans ?_;refine (C7 (d:=.int y) (k:=i) (ds:=N.map PyData.int) rfl rfl rfl rfl (by rw[zD];exact hi)).trans ?_;rw[List.map_set];rfl
def fills(P:List Int):List Nat->List Int->List Int
 | [],N=>N
 | i::r,N=>fills P r (N.set i (P.getD i 0))
def rC:∀ (is:List Nat) (N:List Int),(fills P is N).length=N.length
 | [],N=>rfl
 | i::r,N=>by rw[fills,rC r,yC]
def xw:∀ (is:List Nat) (N:List Int) (j:Nat),j < N.length->(fills P is N).getD j 0=if j∈is then P.getD j 0 else N.getD j 0
 | [],N,j,_=>by simp[fills]
 | i::r,N,j,h=>by
  rw[fills,xw r _ j (by rw[yC];exact h)];by_cases hr:j∈r
  ·rw[yL hr,yL (zC _ hr)]
  ·rw[yN hr];by_cases e:j=i
   ·subst e;rw[yL zE];simp[h]
   ·rw[yN (λz=>by rcases List.mem_cons.mp z with z|z;exact e z;exact hr z)];simp?[zG,kO (jM e)]
def J5(h:Wd G T W)(p:Pn G T W P):fills P (yg W P) (List.replicate W.length 0)=P:=by
 refine jH (by rw[rC,xM,p.len]) λj h1 h2=>?_;have hj:j < W.length:=by rw[<- p.len];exact h2
 have a:=xw (P:=P) (yg W P) (List.replicate W.length 0) j (by rw[xM];exact hj);have e1:(fills P (yg W P) (List.replicate W.length 0)).getD j 0=(fills P (yg W P) (List.replicate W.length 0))[j]:=by simp[h1]
 have e2:P.getD j 0=P[j]:=by simp[h2]
 rw[<- e1,a,<- e2];split
 ·rfl
 ·rename_i hn;have:¬ 0 < P.getD j 0:=λz=>hn (kb.mpr ⟨hj,z⟩);have:=(p.at9 h hj).1;have z:P.getD j 0=0:=by lia
  rw[z];simp[hj]
def wY(h:Wd G T W)(p:Pn G T W P):dh [aC G T W,sD (ye W P)]=some (ag P):=by
 have hw:=h.wl;have g:=MK h p;let⟨ks,ek,hk⟩:=HK h;have e0:=AM (x:=tS (ye W P)) (ls:=(yg W P).map (yf W P)) g.zt (by
  rw[bJ];refine oC λl hl=>?_;let⟨i,hi,rfl⟩:=List.mem_map.mp hl;exact (ua h p (kb.mp hi).1).2.1)
 rw[zM] at e0;unfold dh;refine aI ?_;show iP [.val (aC G T W),.val (sD (ye W P)),.non,.non,.non,.non,.non]=_;unfold iP;refine (ai (gG (call_of (cx h) rfl rfl))).trans ?_;refine (ai (bj (call_of ek rfl rfl) (call_of ek rfl rfl) rfl)).trans ?_;have ez:aj 1 [] (aB (f2 aw (ab 0) (fC (.int 2)))) (fG 0) (λ_=>some true) (fC (.int 0)) (ba (s7 G T W (ye W P) ks .non .non .non))=some ((List.replicate W.length (0:Int)).map PyData.int):=by
  have:=zeros (fi:=aB (f2 aw (ab 0) (fC (.int 2)))) (ρ:=ba (s7 G T W (ye W P) ks .non .non .non)) (ds:=W.map ak) (tH (av (hJ G T W) rfl rfl)) (by rw[zD];lia);rw[zD] at this;exact this
 refine (ai (dM ez rfl)).trans ?_;obtain⟨ρ',f,x4,x5,rfl⟩:∃ρ',cf (kn 4) Pq ((yg W P).map λi=>sD (yf W P i)) (s7 G T W (ye W P) ks (.own ((List.replicate W.length (0:Int)).map PyData.int)) .non .non)=some (.nx ρ')/\∃x4 x5,ρ'=s7 G T W (ye W P) ks (.own ((fills P (yg W P) (List.replicate W.length 0)).map PyData.int)) x4 x5:=by
  have key:∀ (is:List Nat) (N:List Int) (x4 x5:Slot),(∀i∈is,i∈yg W P)->N.length=W.length->∃ρ',cf (kn 4) Pq (is.map λi=>sD (yf W P i)) (s7 G T W (ye W P) ks (.own (N.map PyData.int)) x4 x5)=some (.nx ρ')/\∃x4 x5,ρ'=s7 G T W (ye W P) ks (.own ((fills P is N).map PyData.int)) x4 x5:=λis=>by
   induction is with
   | nil=>intro N x4 x5 _ _;exact⟨_,rfl,_,_,rfl⟩
   | cons i r ih =>
    intro N x4 x5 hm hn;let⟨hi,hpos⟩:=kb.mp (hm i zE);have a:=p.at9 h hi;have hl:=hk i (P.getD i 0).toNat hi (by lia) (by lia);rw[toN a.1] at hl;have hl:oo ks (tS (yf W P i))=some [((i:Nat):Int),P.getD i 0]:=hl;let⟨ρ',e1,e2⟩:=ih (N.set i (P.getD i 0)) (.val (sD (yf W P i))) (.val (ag [((i:Nat):Int),P.getD i 0])) (λj hj=>hm j (zC _ hj)) (by rw[yC];exact hn);refine⟨ρ',?_,e2⟩;rw[zI,cf,show kn 4 (s7 G T W (ye W P) ks (.own (N.map PyData.int)) x4 x5) (sD (yf W P i))=some (s7 G T W (ye W P) ks (.own (N.map PyData.int)) (.val (sD (yf W P i))) x5) from rfl,zA,HA hl (by lia)];exact e1
  exact key _ _ _ _ (λi hi=>hi) (by rw[xM])
 refine (ai (bU f (ie (call_of e0 rfl rfl)) rfl)).trans ?_;rw[J5 h p];have et:∀ρ:Dl.Env,ab 3 ρ=some (.list (P.map PyData.int))->aS bS (aa (ab 3) ae) ρ=some (ag P):=λρ h3=>(iA h3).trans (ue _);refine (ai (NW (et _ rfl) (et _ rfl))).trans ?_;refine (ai (bD (An (du (b:=true) (aY (call_of (gw h p) rfl rfl))) (aY (av (a:=sD (ye W P)) (b:=sD (ye W P)) ?_ (call_of (BO h p) rfl rfl) rfl))))).trans (aL rfl);rw[ne_str g.sk g.sk];simp
def xc(h:Wd G T W)(p:Pn G T W P):c6 [aC G T W,ag P]=some (sD (ye W P)):=by
 unfold c6 nQ;refine aI ?_;exact (ai (ρ:=[.val (aC G T W),.val (ag P)]) (gG (call_of (hU h p) rfl rfl))).trans (aL (call_of (BO h p) rfl rfl))
def fU(ns:List Nat):List Nat:=if ns=[] then [46] else jn [32] (ns.map λn=>[48+n])
def PL(x:Str):(x == (".":Str))=decide (tl x=[46]):=by
 rw[KC];by_cases h:tl x=[46]
 ·have:x=⟨#[46]⟩:=pk h;rw[this];rfl
 ·rw[zZ h];cases e:x == (⟨#[46]⟩:Str) with
  | false=>rfl
  | true=>exact absurd (by rw[eq_of_beq e]) h
def uR{ns:List Nat}(hl:ns.length<=40):(fU ns).length<=99:=by
 have key:∀ns:List Nat,(jn [32] (ns.map λn=>[48+n])).length<=2 * ns.length:=λns=>by
  induction ns with
  | nil=>exact yM _
  | cons n r ih =>
   cases r with
   | nil=>show 1<=2;decide
   | cons m r =>
    show ([48+n]++([32]++jn [32] ((m::r).map λn=>[48+n]))).length<=_;rw[zN,zN];simp?[zL,xK] at ih ⊢;lia
 unfold fU;split
 ·decide
 ·have:=key ns;lia
def xb{ns:List Nat}(h:∀n∈ns,n < 10):10∉fU ns:=by
 have key:∀ns:List Nat,(∀n∈ns,n < 10)->10∉jn [32] (ns.map λn=>[48+n]):=λns=>by
  induction ns with
  | nil=>intro _ z;cases z
  | cons n r ih =>
   intro h;cases r with
   | nil=>intro z;have z:10∈[48+n]:=z;simp at z;lia
   | cons m r =>
    intro z;have z:10∈[48+n]++([32]++jn [32] ((m::r).map λn=>[48+n])):=z;rw[List.mem_append,List.mem_append] at z;rcases z with z|z|z
    ·simp at z;lia
    ·simp at z
    ·exact ih (λk hk=>h k (zC _ hk)) z
 unfold fU;split
 ·decide
 ·exact key ns h
abbrev nP(P:List Int):List Nat:=P.map Int.toNat
def Pn.get(p:Pn G T W P){x:Int}(hx:x∈P):∃k,k < W.length/\x=P.getD k 0:=by
 let⟨k,hk,rfl⟩:=List.mem_iff_getElem.mp hx;exact⟨k,by rw[<- p.len];exact hk,by simp[hk]⟩
def Pn.dig(h:Wd G T W)(p:Pn G T W P){x:Int}(hx:x∈P):0<=x/\x<=9:=by
 let⟨k,hk,rfl⟩:=p.get hx;have:=p.bd k hk;have:=(h.wr _ (fP hk)).2.2.2;lia
abbrev iN(ns:List Nat):List Int:=ns.map λn=>((n:Nat):Int)
def JW(h:Wd G T W)(p:Pn G T W P):iN (nP P)=P:=by
 unfold iN nP;rw[zM]
 conv=>rhs;rw[<- List.map_id P]
 refine yI λx hx=>?_;have:=p.dig h hx;show ((x.toNat:Nat):Int)=x;lia
def FX(h:Wd G T W)(p:Pn G T W P):KD (nP P)=ag P:=by rw[Jb];exact jC ag (JW h p)
def lh(h:Wd G T W)(p:Pn G T W P):∀n∈nP P,n < 10:=λn hn=>by
 let⟨x,hx,rfl⟩:=List.mem_map.mp hn;have:=p.dig h hx;lia
def m6(h:Wd G T W)(p:Pn G T W P):(nP P).length<=40:=by
 rw[zD,p.len];have:=h.wl;lia
end
section
variable {G T:List Pl}{W:List Wy}{P:List Int}{ns:List Nat}
def Mj(h:∀n∈ns,n < 10)(hl:ns.length<=50):kh [KD ns]=some (sD (jn [32] (ns.map λn=>[48+n]))):=by
 have c:=r6 (cs:=[]) (tt:=λ_=>some true) (te:=aS Cv (aa (ab 0) ae)) (g:=nD) (f:=λn=>sD [48+n]) (q:=λ_=>true) (l:=ns) (fi:=aB (ab 0)) (ρ:=[some (KD ns)]) (tH rfl) (by lia) λn hm=>⟨rfl,λ_=>(iA rfl).trans (G6 (h n hm))⟩
 rw[show ns.filter (λ_=>true)=ns by simp] at c;unfold kh rW;refine aI (aL (av (a:=.str " ") (b:=.list ((ns.map λn=>[48+n]).map sD)) ?_ rfl ((dW c).trans (by rw[zM];rfl))));rw[Bw,Bl]
 ·rw[zD,Bl];show ns.length * 100+ns.length * 1<=_;lia
 ·intro p hp;let⟨n,_,rfl⟩:=List.mem_map.mp hp;exact (by decide:1<=100)
def wu(h:∀n∈ns,n < 10)(hl:ns.length<=50):b8 [KD ns]=some (sD (fU ns)):=by
 have t:fB (f2 bo (aS aX (aa (ab 0) ae)) (fC (.int 0))) (aR [Slot.val (KD ns)])=some (decide (ns=[])):=by
  refine aY (av ((cI ((ns.length:Nat):Int) 0).trans ?_) (mP (l:=ns) (k:=λn=>PyData.int ((n:Nat):Int)) rfl) rfl)
  congr 2
  rw[kR,decide_eq_true_iff,decide_eq_true_iff];constructor
  ·intro z;exact List.length_eq_zero_iff.mp (by lia)
  ·intro z;rw[z];rfl
 unfold b8 nV;refine aI (aL ?_);unfold fU;by_cases hn:ns=[]
 ·rw[yA hn] at t;rw[yL hn];refine oF t ?_;show some (PyData.str ".")=_;rw[KC];rfl
 ·rw[zZ hn] at t;rw[yN hn];exact uM t (call_of (Mj h hl) rfl rfl)
def AG(h:∀n∈ns,n < 10)(hl:ns.length<=40):Gd (fU ns)/\∀c∈fU ns,c < 58:=by
 have key:∀c∈fU ns,c < 58:=λc hc=>by
  unfold fU at hc;split at hc
  ·rw[List.mem_singleton.mp hc];decide
  ·rcases Ei hc with hc|⟨p,hp,hc⟩
   ·rw[List.mem_singleton.mp hc];decide
   ·let⟨n,hn,rfl⟩:=List.mem_map.mp hp;rw[List.mem_singleton.mp hc];have:=h n hn;lia
 exact⟨⟨λc hc=>by have:=key c hc;lia,by have:=uR hl;lia⟩,key⟩
def uE(h:∀n∈ns,n < 10)(hn:ns≠[]):mU 32 (fU ns)=ns.map λn=>[48+n]:=by
 unfold fU;rw[yN hn];refine Al (by simpa using hn) λp hp=>?_;let⟨n,_,rfl⟩:=List.mem_map.mp hp;simp;lia
def Lj(h:∀n∈ns,n < 10):fU ns=[46]↔ns=[]:=by
 constructor
 ·intro z;by_cases hn:ns=[]
  ·exact hn
  ·have:=uE h hn;rw[z] at this;cases ns with
   | nil=>rfl
   | cons n r =>
    have e:mU 32 [46]=[[46]]:=rfl;rw[e] at this;simp at this;lia
 ·intro z;rw[z];rfl
def Di(h:∀n∈ns,n < 10)(hl:ns.length<=40):bh [sD (fU ns)]=some (KD ns):=by
 have g:=(AG h hl).1;have t:fB (f2 bo (ab 0) (fC (.str "."))) (aR [Slot.val (sD (fU ns))])=some (decide (ns=[])):=by
  refine aY (av (a:=sD (fU ns)) (b:=.str ".") ((eq_str g.sk (by decide +kernel)).trans ?_) rfl rfl);rw[PL,bJ]
  congr 2
  rw[kR,decide_eq_true_iff,decide_eq_true_iff];exact Lj h
 unfold bh i3;refine aI (aL ?_);by_cases hn:ns=[]
 ·rw[yA hn] at t;subst hn;exact oF t rfl
 ·rw[zZ hn] at t;refine uM t (call_of (M9 h (by lia)) (cons_of (dW ?_) rfl) rfl);show bz (sD (fU ns)) (.str " ")=_;rw[Bl,my g.zt,jc,bJ,uE h hn,zM,zM];rfl
abbrev mz(Ps:List (List Int)):List Nat:=Cu (Ps.map λP=>fU (nP P))
def uI{Ps:List (List Int)}(h:Wd G T W)(hp:∀P∈Ps,Pn G T W P)(hl:Ps.length<=30000):Gd (mz Ps):=by
 refine⟨λc hc=>?_,?_⟩
 ·rcases B3 hc with rfl|⟨l,hm,hc⟩
  ·decide
  ·let⟨P,hP,rfl⟩:=List.mem_map.mp hm;have:=(AG (lh h (hp P hP)) (m6 h (hp P hP))).2 c hc;lia
 ·have:=AK (ls:=Ps.map λP=>fU (nP P)) λl hm=>by
   let⟨P,hP,rfl⟩:=List.mem_map.mp hm;exact uR (m6 h (hp P hP))
  rw[zD] at this;show (Cu (Ps.map λP=>fU (nP P))).length<=10000000;lia
def AU{Ps:List (List Int)}(h:Wd G T W)(hp:∀P∈Ps,Pn G T W P)(hl:Ps.length<=30000):dg [aC G T W,.list (Ps.map ag)]=some (.bool true):=by
 rw[Lg (w:=aC G T W) (ds:=Ps.map ag) (p:=λ_=>true) (by rw[zD];exact yD hl (yD (by decide) Kq)) (λd hd=>by
  let⟨P,hP,rfl⟩:=List.mem_map.mp hd;exact gw h (hp P hP))]
 simp
def da{Ps:List (List Int)}(h:Wd G T W)(hp:∀P∈Ps,Pn G T W P)(hl:Ps.length<=30000):aM [aC G T W,.list (Ps.map ag)]=some (sD (mz Ps)):=by
 have c:aj 1 [] (aB (ab 1)) (fG 0) (λ_=>some true) (ah 1 b8 (aa (ab 0) ae)) (aR [Slot.val (aC G T W),Slot.val (.list (Ps.map ag))])=some (Ps.map λP=>sD (fU (nP P))):=by
  have e:aZ (fG 0) (λ_=>some true) (ah 1 b8 (aa (ab 0) ae)) [none] (Ps.map ag)=some (Ps.map λP=>sD (fU (nP P))):=by
   clear hl
   induction Ps with
   | nil=>rfl
   | cons P r ih =>
    have hP:=hp P zE;rw[zI];unfold aZ;have e1:ah 1 b8 (aa (ab 0) ae) [some (ag P)]=some (sD (fU (nP P))):=by
     rw[<- FX h hP];exact call_of (wu (lh h hP) (by have:=m6 h hP;lia)) rfl rfl
    rw[show fG 0 [none] (ag P)=some [some (ag P)] from rfl,zA,zA,yL rfl,e1,zA,ih λQ hQ=>hp Q (zC _ hQ)];rfl
  show (aZ (fG 0) (λ_=>some true) (ah 1 b8 (aa (ab 0) ae)) [none] (Ps.map ag)).bind small=_;rw[e,zA];unfold small;rw[yL (by rw[zD];exact yD hl (yD (by decide) Kq))]
 have t:=Fi (ls:=Ps.map λP=>fU (nP P)) (λl hm=>by
  let⟨P,hP,rfl⟩:=List.mem_map.mp hm;exact uR (m6 h (hp P hP))) (by rw[zD];exact hl)
 rw[zM] at t;unfold aM;refine aI ?_;show jo [.val (aC G T W),.val (.list (Ps.map ag))]=_;unfold jo;refine (ai (gG (call_of (cx h) rfl rfl))).trans ?_;refine (ai (bD (An (du (b:=true) (aY rfl)) (du (b:=true) (aY (call_of (AU h hp hl) rfl rfl)))))).trans ?_;exact aL (call_of t (cons_of (dW c) rfl) rfl)
def fX{Ps:List (List Int)}(h:Wd G T W)(hp:∀P∈Ps,Pn G T W P)(hl:Ps.length<=30000):bZ [aC G T W,sD (mz Ps)]=some (.list (Ps.map ag)):=by
 have g:=uI h hp hl;have e0:=AM (x:=tS (mz Ps)) (ls:=Ps.map λP=>fU (nP P)) g.zt (by
  rw[bJ];refine oC λl hm=>?_;let⟨P,hP,rfl⟩:=List.mem_map.mp hm;exact xb (lh h (hp P hP)))
 have c:aj 1 [] (aB (ah 1 cX (aa (ab 1) ae))) (fG 0) (λ_=>some true) (ah 1 bh (aa (ab 0) ae)) (ba [Slot.val (aC G T W),Slot.val (sD (mz Ps)),.non])=some (Ps.map ag):=by
  have e:aZ (fG 0) (λ_=>some true) (ah 1 bh (aa (ab 0) ae)) [none] ((Ps.map λP=>fU (nP P)).map sD)=some (Ps.map ag):=by
   clear hl g e0
   induction Ps with
   | nil=>rfl
   | cons P r ih =>
    have hP:=hp P zE;rw[zI,zI];unfold aZ;have e1:ah 1 bh (aa (ab 0) ae) [some (sD (fU (nP P)))]=some (ag P):=by
     rw[<- FX h hP];exact call_of (Di (lh h hP) (m6 h hP)) rfl rfl
    rw[show fG 0 [none] (sD (fU (nP P)))=some [some (sD (fU (nP P)))] from rfl,zA,zA,yL rfl,e1,zA,ih λQ hQ=>hp Q (zC _ hQ)];rfl
  have es:aB (ah 1 cX (aa (ab 1) ae)) (ba [Slot.val (aC G T W),Slot.val (sD (mz Ps)),.non])=some ((Ps.map λP=>fU (nP P)).map sD):=ie (call_of e0 rfl rfl);unfold aj;rw[es,zA];show (aZ (fG 0) (λ_=>some true) (ah 1 bh (aa (ab 0) ae)) [none] ((Ps.map λP=>fU (nP P)).map sD)).bind small=_;rw[e,zA];unfold small;rw[yL (by rw[zD];exact yD hl (yD (by decide) Kq))]
 unfold bZ;refine aI ?_;show iQ [.val (aC G T W),.val (sD (mz Ps)),.non]=_;unfold iQ;refine (ai (gG (call_of (cx h) rfl rfl))).trans ?_;refine (ai (dM c rfl)).trans ?_;exact (ai (bD (du (b:=true) (aY (call_of (AU h hp hl) rfl rfl))))).trans (aL rfl)
def Jv{Ps Qs:List (List Int)}(h:Wd G T W)(hp:∀P∈Ps,Pn G T W P)(hq:∀P∈Qs,Pn G T W P)(h1:Ps.length<=30000)(h2:Qs.length<=30000)(e:mz Ps=mz Qs):Ps=Qs:=by
 have a:=fX h hp h1;have b:=fX h hq h2;rw[e,b] at a;injection a with a
 injection a with a
 have inj:∀ {a b:List (List Int)},a.map ag=b.map ag->a=b:=λ{a b} z=>by
  have hr:∀x y:List Int,ag x=ag y->x=y:=λx y q=>by
   injection q with q
   have:=jC (List.map gY) q;rw[zM,zM] at this;simpa [wL,gY] using this
  induction a generalizing b with
  | nil=>cases b with
   | nil=>rfl
   | cons _ _=>cases z
  | cons x r ih=>cases b with
   | nil=>cases z
   | cons y s =>
    rw[zI,zI] at z;injection z with z1 z2
    rw[hr _ _ z1,ih z2]
 exact (inj a).symm
def I0(Ps Qs:List (List Int)):mz (Ps++Qs)=mz Ps++mz Qs:=by
 show Cu _=_;rw[jm,jA,jA,List.flatten_append,<- jm,<- jm]
end
namespace K84M
def KG:ao->Option Out:=(ar (aD 5 [1,4] (ah 2 aM (aa (ab 1) (aa (ab 4) ae)))) (ar (d5 (ki (fB (f2 cO (ah 2 bZ (aa (ab 1) (aa (ab 5) ae))) (ab 4))) (fB (f2 cO (aS aX (aa (bc (og bz (ab 5) (fC (.str "\n")))) ae)) (f2 aA (aS aX (aa (ab 4) ae)) (fC (.int 1)))))) (aE (fC (.bool false))) dC) (ar (aD 6 [0,4] (ah 3 aq (aa (ab 0) (aa (fC (.int 80)) (aa (f2 aA (aS aX (aa (ab 4) ae)) (fC (.int 1))) ae))))) (ar (d5 (fB (f2 cO (f2 fY (ah 2 aM (aa (ab 1) (aa (dw b0 (ab 4) eu (nK (ab 6))) ae))) (ah 2 aM (aa (ab 1) (aa (dw b0 (ab 4) (nK (ab 6)) eu) ae)))) (ab 5))) (aE (fC (.bool false))) dC) (ar (d5 (fB (f2 cO (bc (aj 1 [1] (aB (dw b0 (bc (og bz (ab 5) (fC (.str "\n")))) eu (nK (f1 lI (fC (.int 1)))))) (fG 0) (fB (f2 cO (aS aX (aa (bc (og bz (ab 0) (fC (.str " ")))) ae)) (aS xa (aa (fC (.int 1)) (aa (aS aX (aa (f2 aw (ab 1) (fC (.int 2))) ae)) ae))))) (ab 0))) (bc (dR ae)))) (aE (fC (.bool false))) dC) (ar (aQ 7 [1,4] (aj 1 [1] (aB (ab 4)) (fG 0) (λ_=>some true) (ah 2 cS (aa (ab 1) (aa (ab 0) ae))))) (ar (d5 (fB (f2 cO (ah 2 bZ (aa (ah 1 eh (aa (ab 1) ae)) (aa (ah 2 aM (aa (ah 1 eh (aa (ab 1) ae)) (aa (ab 7) ae))) ae))) (ab 7))) (aE (fC (.bool false))) dC) (d5 (fB (f2 cO (bc (aj 1 [1] (aB (ab 4)) (fG 0) (λ_=>some true) (ah 2 dh (aa (ab 1) (aa (ah 2 c6 (aa (ab 1) (aa (ab 0) ae))) ae))))) (ab 4))) (aE (fC (.bool false))) dC))))))))
section
variable {G T:List Pl}{W:List Wy}{Ps:List (List Int)}{ns:List Int}
def Oo{f g:Dl.Env->Option D}{ρ:Dl.Env}{ds:List D}{k:Nat}(h:f ρ=some (.list ds))(h2:g ρ=some (nD k)):dw b0 f eu (nK g) ρ=some (.list (ds.take k)):=by
 simp?[dw,h,eu,nK,h2,zA,gI,zB,b0,uX]
def pM{te:Dl.Env->Option D}{r:Dl.Env}{f:List Int->List Int}:∀ {Ps:List (List Int)},(∀P∈Ps,te (some (ag P)::r)=some (ag (f P)))->aZ (fG 0) (λ_=>some true) te (none::r) (Ps.map ag)=some ((Ps.map f).map ag)
 | [],_=>rfl
 | P::Ps,h=>by
  rw[zI];unfold aZ;rw[show fG 0 (none::r) (ag P)=some (some (ag P)::r) from rfl,zA,zA,yL rfl,h P zE,zA,pM λQ hQ=>h Q (zC _ hQ)];rfl
def A8{tt:Dl.Env->Option Bool}{te:Dl.Env->Option D}{r:Dl.Env}:∀ {ds:List D},(∀d∈ds,tt (some d::r)=some false)->aZ (fG 0) tt te (none::r) ds=some []
 | [],_=>rfl
 | d::ds,h=>by
  unfold aZ;rw[show fG 0 (none::r) d=some (some d::r) from rfl,zA,h d zE,zA,yN (by simp),A8 λe he=>h e (zC _ he)]
def ny{ds:List D}(h:ds.length<=30000):small ds=some ds:=by
 unfold small;rw[yL (yD h (yD (by decide) Kq))]
def words(h:Wd G T W){P:List Int}(p:Pn G T W P):(mU 32 (fU (nP P))).length=max 1 W.length:=by
 by_cases hn:nP P=[]
 ·rw[hn];have:W.length=0:=by
   have:=jC List.length hn;rw[zD,p.len] at this;exact this
  rw[this];rfl
 ·rw[uE (lh h p) hn,zD,zD,p.len];have:1<=W.length:=by
   rw[<- p.len,<- zD (f:=Int.toNat)];exact Nat.pos_of_ne_zero λz=>hn (List.length_eq_zero_iff.mp z)
  lia
abbrev s9(s:D)(G T:List Pl)(W:List Wy)(R Q:List (List Int))(x4 x5 x6 x7:Slot):ao:=[.val s,.val (aC G T W),.val (.list (R.map ag)),.val (.list (Q.map ag)),x4,x5,x6,x7,.non]
def M5(hl:ns.length<=63)(h:Wd G T W)(hp:∀P∈Ps,Pn G T W P)(hn:Ps.length<=30000){R Q:List (List Int)}{x5 x6 x7:Slot}:∃y5 y6 y7,KG (s9 (bY ns) G T W R Q (.val (.list (Ps.map ag))) x5 x6 x7)=some (.nx (s9 (bY ns) G T W R Q (.val (.list (Ps.map ag))) y5 y6 y7)):=by
 have g:=uI h hp hn;have hnl:∀ds:List D,ds.length<=30000->aX [.list ds]=some (nD ds.length):=λds _=>rfl;let⟨d,p0,q0⟩:=eJ (ns:=ns) 80 ((Ps.length:Int)+1) hl (by lia);obtain⟨c,hc⟩:∃c:Nat,dr ns 80 ((Ps.length:Int)+1)=((c:Nat):Int):=⟨_,(Int.toNat_of_nonneg p0).symm⟩
 rw[hc] at d;have o:=tP h.wp;have h':=o.wd h;have hp':∀X∈Ps.map (λP=>Ae P (cN W)),Pn T G (qm W (cN W)) X:=λX hX=>by
  let⟨P,hP,rfl⟩:=List.mem_map.mp hX;exact (hp P hP).tu h o
 have hn':(Ps.map λP=>Ae P (cN W)).length<=30000:=by rw[zD];exact hn
 have nst:∀l:List Nat,Gd l->cO (sD l) (sD l)=some (.bool false):=λl g=>by
  rw[ne_str g.sk g.sk];simp
 have nr:∀Ps:List (List Int),cO (.list (Ps.map ag)) (.list (Ps.map ag))=some (.bool false):=λPs=>by
  rw[DB,yA rfl];rfl
 have es:mU 10 (mz Ps)=(Ps.map λP=>fU (nP P))++[[]]:=oC λl hm=>by
  let⟨P,hP,rfl⟩:=List.mem_map.mp hm;exact xb (lh h (hp P hP))
 have esp:∀ρ:Dl.Env,ab 5 ρ=some (sD (mz Ps))->bc (og bz (ab 5) (fC (.str "\n"))) ρ=some (.list ((Ps.map λP=>fU (nP P)).map sD++[[]].map sD)):=λρ h5=>dW (by
  unfold og;rw[h5];show bz (sD (mz Ps)) (.str "\n")=_;rw[AQ,my g.zt,jc,bJ,es,zM,jA];rfl)
 refine⟨.val (sD (mz Ps)),.val (nD c),.own ((Ps.map λP=>Ae P (cN W)).map ag),?_⟩;unfold KG;refine (ai (bq (d:=sD (mz Ps)) (call_of (da h hp hn) rfl rfl) rfl)).trans ?_;refine (ai (bD (An (aY (av (nr Ps) (call_of (fX h hp hn) rfl rfl) rfl)) (aY (av (a:=nD (Ps.length+1)) (b:=.int (((Ps.length:Nat):Int)+1)) ((Ck _ _).trans ?_) ((iA (esp _ rfl)).trans ?_) (av (cQ _ _) ((iA rfl).trans ?_) rfl)))))).trans ?_
 ·simp
 ·show some (PyData.int (((((Ps.map λP=>fU (nP P)).map sD++[[]].map sD).length:Nat)):Int))=_;simp
 ·show some (PyData.int (((Ps.map ag).length:Nat):Int))=_;rw[zD]
 refine (ai (bq (d:=nD c) (call_of d (cons_of rfl (cons_of rfl (cons_of (av (cQ _ _) ((iA rfl).trans (show some (PyData.int (((Ps.map ag).length:Nat):Int))=some (.int ((Ps.length:Nat):Int)) by rw[zD])) rfl) rfl))) rfl) rfl)).trans ?_;have ea:∀ρ:Dl.Env,ab 1 ρ=some (aC G T W)->ab 4 ρ=some (.list (Ps.map ag))->ab 6 ρ=some (nD c)->(f2 fY (ah 2 aM (aa (ab 1) (aa (dw b0 (ab 4) eu (nK (ab 6))) ae))) (ah 2 aM (aa (ab 1) (aa (dw b0 (ab 4) (nK (ab 6)) eu) ae)))) ρ=some (sD (mz Ps)):=λρ h1 h4 h6=>by
  have t1:=da (Ps:=Ps.take c) h (λP hP=>hp P (List.mem_of_mem_take hP)) (by rw[jV];lia);have t2:=da (Ps:=Ps.drop c) h (λP hP=>hp P (List.mem_of_mem_drop hP)) (by rw[qH];lia);have gl:(mz Ps).length<=10000000:=g.n;have ee:mz Ps=mz (Ps.take c)++mz (Ps.drop c):=by rw[<- I0,List.take_append_drop]
  rw[ee] at gl;rw[zN] at gl;rw[ee];refine av (a:=sD (mz (Ps.take c))) (b:=sD (mz (Ps.drop c))) (MO (by lia)) (call_of t1 (cons_of h1 (cons_of ((Oo (k:=c) h4 h6).trans (by rw[List.map_take])) rfl)) rfl) (call_of t2 (cons_of h1 (cons_of ((Bf (k:=c) h4 h6).trans (by rw[List.map_drop])) rfl)) rfl)
 refine (ai (bD (aY (av (nst _ g) (ea _ rfl rfl rfl) rfl)))).trans ?_;have eb:∀ρ:Dl.Env,ab 5 ρ=some (sD (mz Ps))->(ρ[1]?).getD none=some (aC G T W)->aj 1 [1] (aB (dw b0 (bc (og bz (ab 5) (fC (.str "\n")))) eu (nK (f1 lI (fC (.int 1)))))) (fG 0) (fB (f2 cO (aS aX (aa (bc (og bz (ab 0) (fC (.str " ")))) ae)) (aS xa (aa (fC (.int 1)) (aa (aS aX (aa (f2 aw (ab 1) (fC (.int 2))) ae)) ae))))) (ab 0) ρ=some []:=λρ h5 h1=>by
  have ei:aB (dw b0 (bc (og bz (ab 5) (fC (.str "\n")))) eu (nK (f1 lI (fC (.int 1))))) ρ=some ((Ps.map λP=>fU (nP P)).map sD):=ie (by
   unfold dw;rw[esp ρ h5];show some (PyData.list (cut ((Ps.map λP=>fU (nP P)).map sD++[[]].map sD) none (some (-1))))=_;rw[wN];simp)
  have hh:∀d∈(Ps.map λP=>fU (nP P)).map sD,(fB (f2 cO (aS aX (aa (bc (og bz (ab 0) (fC (.str " ")))) ae)) (aS xa (aa (fC (.int 1)) (aa (aS aX (aa (f2 aw (ab 1) (fC (.int 2))) ae)) ae))))) [some d,some (aC G T W)]=some false:=λd hd=>by
   let⟨l,hm,rfl⟩:=List.mem_map.mp hd;let⟨P,hP,rfl⟩:=List.mem_map.mp hm;have p:=hp P hP;have gl:=(AG (lh h p) (m6 h p)).1;have e1:bc (og bz (ab 0) (fC (.str " "))) [some (sD (fU (nP P))),some (aC G T W)]=some (.list ((mU 32 (fU (nP P))).map sD)):=dW (by
    show bz (sD (fU (nP P))) (.str " ")=_;rw[Bl,my gl.zt,jc,bJ,zM];rfl)
   refine aY (av (a:=nD (max 1 W.length)) (b:=.int (max 1 ((W.length:Nat):Int))) ((Ck _ _).trans ?_) ((iA e1).trans ?_) ?_)
   ·rw[yA (by lia)];rfl
   ·show some (PyData.int ((((mU 32 (fU (nP P))).map sD).length:Nat):Int))=_;rw[zD,words h p]
   ·have e2:(aa (fC (.int 1)) (aa (aS aX (aa (f2 aw (ab 1) (fC (.int 2))) ae)) ae)) [some (sD (fU (nP P))),some (aC G T W)]=some [.int 1,nD W.length]:=cons_of rfl (cons_of (mP (l:=W) (k:=ak) (av (hJ G T W) rfl rfl)) rfl);show ((aa (fC (.int 1)) (aa (aS aX (aa (f2 aw (ab 1) (fC (.int 2))) ae)) ae)) [some (sD (fU (nP P))),some (aC G T W)]).bind xa=_;rw[e2];rfl
  unfold aj;rw[ei,zA];have:dm 1 [1] ρ=[none,some (aC G T W)]:=by
   show [none,(ρ[1]?).getD none]=_;rw[h1]
  rw[this,A8 hh];rfl
 refine (ai (bD (aY (av (nr []) (dW (eb _ rfl rfl)) (nil_of _))))).trans ?_;have ec:∀ρ:Dl.Env,ab 4 ρ=some (.list (Ps.map ag))->(ρ[1]?).getD none=some (aC G T W)->aj 1 [1] (aB (ab 4)) (fG 0) (λ_=>some true) (ah 2 cS (aa (ab 1) (aa (ab 0) ae))) ρ=some ((Ps.map λP=>Ae P (cN W)).map ag):=λρ h4 h1=>by
  unfold aj;rw[ie h4,zA];have:dm 1 [1] ρ=[none,some (aC G T W)]:=by
   show [none,(ρ[1]?).getD none]=_;rw[h1]
  rw[this,pM (f:=λP=>Ae P (cN W)) λP hP=>call_of (qu h (hp P hP)) rfl rfl,zA,ny (by rw[zD,zD];exact hn)]
 refine (ai (dM (ec _ rfl rfl) rfl)).trans ?_;have e7:∀ρ:Dl.Env,ab 1 ρ=some (aC G T W)->ab 7 ρ=some (.list ((Ps.map λP=>Ae P (cN W)).map ag))->(ah 2 bZ (aa (ah 1 eh (aa (ab 1) ae)) (aa (ah 2 aM (aa (ah 1 eh (aa (ab 1) ae)) (aa (ab 7) ae))) ae))) ρ=some (.list ((Ps.map λP=>Ae P (cN W)).map ag)):=λρ h1 h7=>by
  have et:=call_of (n:=1) (fs:=aa (ab 1) ae) (ρ:=ρ) (GQ h) (cons_of h1 rfl) rfl;exact call_of (fX h' hp' hn') (cons_of et (cons_of (call_of (da h' hp' hn') (cons_of et (cons_of h7 rfl)) rfl) rfl)) rfl
 refine (ai (bD (aY (av (nr _) (e7 _ rfl rfl) rfl)))).trans ?_;have e8:∀ρ:Dl.Env,ab 4 ρ=some (.list (Ps.map ag))->(ρ[1]?).getD none=some (aC G T W)->aj 1 [1] (aB (ab 4)) (fG 0) (λ_=>some true) (ah 2 dh (aa (ab 1) (aa (ah 2 c6 (aa (ab 1) (aa (ab 0) ae))) ae))) ρ=some (Ps.map ag):=λρ h4 h1=>by
  unfold aj;rw[ie h4,zA];have:dm 1 [1] ρ=[none,some (aC G T W)]:=by
   show [none,(ρ[1]?).getD none]=_;rw[h1]
  rw[this,pM (f:=λP=>P) λP hP=>call_of (wY h (hp P hP)) (cons_of rfl (cons_of (call_of (xc h (hp P hP)) rfl rfl) rfl)) rfl,zA,List.map_id',ny (by rw[zD];exact hn)]
 exact bD (aY (av (nr Ps) (dW (e8 _ rfl rfl)) rfl))
def main(ns:List Int)(hl:ns.length<=63):fq [.list (ns.map PyData.int)]=some (.bool true):=by
 let⟨G,T,W,ew,h,few⟩:=wq (ns:=ns) (a:=0) (mo:=7) hl (by decide);have hw7:W.length<=7:=by have:=few.wm;lia
 have w2:=few.w2;obtain⟨P,eP,p⟩:∃P,eA [bY ns,.int 70,aC G T W]=some (ag P)/\Pn G T W P:=⟨_,yo hl h,Hw hl h⟩
 have eR:=LZ h p w2 (by lia);have fR:Ht G T W (Ee G T W P):=El h _ ⟨by simp,λX hX=>by rw[List.mem_singleton.mp hX];exact p,by simp⟩;have lR:=fR.few w2 (by lia);have pR:=fR.pn;let⟨eQ,lQ⟩:=tE h (λw hw=>⟨by have:=(h.wr w hw).2.2.1;lia,w2 w hw⟩) hw7;have pQ:∀X∈allR G T W,Pn G T W X:=λX hX=>((Ez h).mp hX).1;generalize Ee G T W P=R at eR lR pR;generalize allR G T W=Q at eQ lQ pQ;unfold fq;refine aI ?_;show j7 [.val (bY ns),.non,.non,.non,.non,.non,.non,.non,.non]=_;unfold j7;refine (ai (bj (call_of ew rfl rfl) (call_of ew rfl rfl) rfl)).trans ?_;have e2:∀ρ:Dl.Env,ab 0 ρ=some (bY ns)->ab 1 ρ=some (aC G T W)->ah 2 sZ (aa (ab 1) (aa (ah 3 eA (aa (ab 0) (aa (fC (.int 70)) (aa (ab 1) ae)))) ae)) ρ=some (.list (R.map ag)):=λρ h0 h1=>call_of eR (cons_of h1 (cons_of (call_of eP (cons_of h0 (cons_of rfl (cons_of h1 rfl))) rfl) rfl)) rfl;refine (ai (bj (e2 _ rfl rfl) (e2 _ rfl rfl) rfl)).trans ?_;refine (ai (bj (call_of eQ rfl rfl) (call_of eQ rfl rfl) rfl)).trans ?_;have ei:∀ρ:Dl.Env,ab 2 ρ=some (.list (R.map ag))->ab 3 ρ=some (.list (Q.map ag))->aB (aJ (aa (ab 2) (aa (ab 3) (aa (bc (og n6 (ab 2) (ab 3))) (aa (f1 BS (ab 2)) ae))))) ρ=some ([R,Q,R++Q,R.reverse].map λl=>.list (l.map ag)):=λρ h2 h3=>by
  refine tH (tup_is (cons_of h2 (cons_of h3 (cons_of (dW ?_) (cons_of ?_ rfl)))) (by simp))
  ·unfold og;rw[h2,zA,h3,zA];show small (R.map ag++Q.map ag)=_;rw[ny (by rw[zN,zD,zD];lia),jA]
  ·unfold f1;rw[h2];show some (PyData.list (R.map ag).reverse)=some (PyData.list (R.reverse.map ag));rw[List.map_reverse]
 have all4:∀l∈[R,Q,R++Q,R.reverse],(∀X∈l,Pn G T W X)/\l.length<=30000:=λl hm=>by
  simp?[zQ,yF,xU] at hm;rcases hm with rfl|rfl|rfl|rfl
  ·exact⟨pR,by lia⟩
  ·exact⟨pQ,by lia⟩
  ·exact⟨λX hX=>(List.mem_append.mp hX).elim (pR X) (pQ X),by rw[zN];lia⟩
  ·exact⟨λX hX=>pR X (List.mem_reverse.mp hX),by rw[List.length_reverse];lia⟩
 let⟨ρ',f4,x4,x5,x6,x7,rfl⟩:=wb (tgt:=kn 4) (gb:=KG) (R:=λ(_:Unit) ρ=>∃x4 x5 x6 x7,ρ=s9 (bY ns) G T W R Q x4 x5 x6 x7) (λl:List (List Int)=>.list (l.map ag)) (λs _=>s)
  (l:=[R,Q,R++Q,R.reverse]) (s:=()) (ρ:=s9 (bY ns) G T W R Q .non .non .non .non)
  (λ_ ρ l hm hρ=>by
   let⟨x4,x5,x6,x7,rfl⟩:=hρ;let⟨y5,y6,y7,e⟩:=M5 hl h (all4 l hm).1 (all4 l hm).2 (R:=R) (Q:=Q) (x5:=x5) (x6:=x6) (x7:=x7);exact⟨_,_,rfl,e,_,_,_,_,rfl⟩) ⟨_,_,_,_,rfl⟩
 refine (ai (bU f4 (ei _ rfl rfl) rfl)).trans ?_;have gR:=uI h pR (by lia);have gQ:=uI h pQ (by lia);have es:bo (sD (mz R)) (sD (mz Q))=some (.bool (decide (R=Q))):=by
  rw[eq_str gR.sk gQ.sk]
  congr 2
  by_cases e:R=Q
  ·subst e;simp
  ·rw[zZ e];cases z:tS (mz R) == tS (mz Q) with
   | false=>rfl
   | true =>
    have:=jC tl (eq_of_beq z);rw[bJ,bJ] at this;exact absurd (Jv h pR pQ (by lia) (by lia) this) e
 refine (ai (bq (d:=.bool (decide (R=Q))) (av es (call_of (da h pR (by lia)) rfl rfl) (call_of (da h pQ (by lia)) rfl rfl)) rfl)).trans ?_;refine aL (av (a:=.bool (decide (R=Q))) (b:=.bool (decide (R=Q))) ?_ rfl (av (so R Q) rfl rfl));cases decide (R=Q)<;>simp[bo,KH,SeqAt.shaped,PyData.canLay0,PyData.depth,PyData.eqv]
end
end K84M
end Wm
namespace K84
open PySem L2 Dl PySem.Spec PyProof.Rows Pg Hd PySem.W Rg0
def main(ns:List Int)(h:ns.length<=63):fq [.list (ns.map PyData.int)]=some (.bool true):=Wm.K84M.main ns h
def ins(P:Params){h:Heap}{mg:Str->Option Value}(X:(Kf P).In h)(G:h.Ns mainGlobals mg):MF (Kf P) mg:=⟨λ_ _ _=>by
 have B:∀x∈dy,mg x=none:=λx hx=>mg_none_of X G (Dl.LW (by kernel_rfl) x hx);refine on (top 69) (f3 389 388 yh) ?_;refine on (top 68) (f2 382 381 yh) ?_;refine on (top 67) (f4 375 374 yh) ?_;refine on (top 66) (f3 370 369 yh) ?_;refine on (top 65) (f3 365 364 yh) ?_;refine on (top 64) (f3 358 357 yh) ?_;refine on (top 63) (f2 351 350 yh) ?_;refine on (top 61) (f2 344 343 NN) ?_;refine on (top 60) (f3 337 336 NN) ?_;refine on (top 59) (f4 330 329 NN) ?_;refine on (top 57) (f1 325 324 KJ) ?_;refine on (top 56) (f1 320 319 KJ) ?_;refine on (top 55) (f1 315 314 KJ) ?_;refine on (top 54) (f1 310 309 KJ) ?_;refine on (top 51) (f2 303 302 Hn) ?_;refine on (top 50) (f2 296 295 Hn) ?_;refine on (top 49) (f3 289 288 Hn) ?_;refine on (top 48) (f4 282 281 Hn) ?_;refine ol (top 47) Cy "ways_of.<locals>.<lambda>" (l3 277 276 Hn) ?_;refine on (top 45) (f2 272 271 Hq) ?_;refine on (top 44) (f2 267 266 Hq) ?_;refine on (top 43) (f2 262 261 Hq) ?_;refine on (top 42) (f1 257 256 Hq) ?_;refine on (top 41) (f1 250 249 Hq) ?_;refine on (top 38) (f2 243 242 rL) ?_;refine on (top 37) (f1 238 237 rL) ?_;refine on (top 36) (f2 231 230 rL) ?_;refine on (top 35) (f2 224 223 rL) ?_;refine on (top 34) (f2 219 218 rL) ?_;refine on (top 33) (f1 212 211 rL) ?_;refine on (top 32) (f1 207 206 rL) ?_;refine on (top 31) (f1 200 199 rL) ?_;refine on (top 30) (f1 195 194 rL) ?_;refine on (top 29) (f1 188 187 rL) ?_;refine on (top 26) (f2 183 182 iO) ?_;refine on (top 25) (f1 178 177 iO) ?_;refine ol (top 24) p8 "turned_order.<locals>.<lambda>" (l1 173 172 iO) ?_;refine on (top 23) (f3 166 165 iO) ?_;refine on (top 22) (f2 159 158 iO) ?_;refine on (top 21) (f1 152 151 iO) ?_;refine on (top 20) (f2 145 144 iO) ?_;refine on (top 19) (f3 140 139 iO) ?_;refine on (top 18) (f4 135 134 iO) ?_;refine on (top 17) (f1 130 129 iO) ?_;refine on (top 16) (f1 125 124 iO) ?_;refine on (top 15) (f3 120 119 iO) ?_;refine on (top 14) (f3 115 114 iO) ?_;refine on (top 13) (f2 108 107 iO) ?_;refine on (top 12) (f2 101 100 iO) ?_;refine on (top 11) (f3 96 95 iO) ?_;refine on (top 10) (f2 89 88 iO) ?_;refine on (top 9) (f3 82 81 iO) ?_;exact⟨Rf.PU,(Rf.EE ⟨273,mg_of X G (by kernel_rfl)⟩ (Rf.EE ⟨275,mg_of X G (by kernel_rfl)⟩ (Rf.EE ⟨562,mg_of X G (by kernel_rfl)⟩ (Rf.ER ⟨408,mg_of X G (by kernel_rfl)⟩ (Rf.ER ⟨486,mg_of X G (by kernel_rfl)⟩ Rf.Qj))))),B,⟨_,X,G⟩⟩,iW.mg (f1 394 393 yh) X G⟩
def Rm(w:World):mr (Kf w.params) [168,274]=true:=by kernel_rfl
end K84
open PySem PySem.W PyProof.Rows
theorem PySem.Challenge.cw_stillflow_k84_whole_walk_texts_holds : PySem.Challenge.rw_stillflow_k84_whole_walk_texts.Holds := by
 refine holds_law K84.PR λk1=>?_
 refine holds_open (XP:=XL K84.vw []) (YP:=K84.hk.says) K84.left K84.hk.of K84.hk.keeps (λs e=>xl_of s (Bool.and_eq_true_iff.mp e).1) XL.keeps (by rfl) (by rfl) (by rfl) (λs e=>recFacts_of (Bool.and_eq_true_iff.mp e).2) (by rfl) k1 (by decide +kernel) ⟨rfl,rfl,rfl,rfl,rfl,by decide +kernel⟩ ?hw ?hc
 case hw=>w_witness2
 case hc=>exact K84.walk (l:=PySem.Challenge.rw_stillflow_k84_whole_walk_texts) (K:=K84.Kf) (ts:=[168,274]) rfl rfl rfl (λw h Y=>⟨Y.1,Y.2⟩) K84.Rm (λw=>K84.ins w.params) K84.main
