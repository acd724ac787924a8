import PyProof.Rows.All
import Wide.All
import OpenK.AllK
import Wide.FinOn
import PyProof.EqAt
import PyProof.EqKinds
import PyProof.TupleCall
import Lean
import PyProof.Draws
import PyProof.ListRange
import KE.KIsAll
import PySem.Challenge.RW_stillflow_k30_listing
set_option Elab.async false
set_option linter.all false
set_option maxRecDepth 100000
set_option maxHeartbeats 4000000
abbrev _root_.zA:=@Option.bind_some
abbrev _root_.zB:=@Option.map_some
abbrev _root_.zC:=@List.mem_cons_of_mem
abbrev _root_.zD:=@List.length_map
abbrev _root_.zE:=@List.mem_cons_self
abbrev _root_.zF:=@Bool.and_eq_true
abbrev _root_.zG:=@List.getD_eq_getElem?_getD
abbrev _root_.zH:=@List.size_toArray
abbrev _root_.zI:=@List.map_cons
abbrev _root_.zJ:=@decide_eq_true_eq
abbrev _root_.zK:=@List.getElem?_eq_getElem
abbrev _root_.zL:=@List.length_cons
abbrev _root_.zM:=@List.map_map
abbrev _root_.zN:=@List.length_append
abbrev _root_.zO:=@List.getElem?_map
abbrev _root_.zP:=@Nat.lt_of_lt_of_le
abbrev _root_.zQ:=@List.mem_cons
abbrev _root_.zR:=@List.length_range
abbrev _root_.zS:=@List.mem_range
abbrev _root_.zT:=@List.getElem?_eq_some_iff
abbrev _root_.zU:=@PySem.Heap.get?_push_of_some
abbrev _root_.zV:=@PySem.wpAny_bind
abbrev _root_.zW:=@PySem.wpAny_pure
abbrev _root_.zX:=@PySem.Heap.get?_push_size
abbrev _root_.zY:=@PySem.Heap.lt_size
abbrev _root_.zZ:=@decide_eq_false
abbrev _root_.yA:=@decide_eq_true
abbrev _root_.yB:=@List.lookup_cons
abbrev _root_.yC:=@List.length_set
abbrev _root_.yD:=@Nat.le_trans
abbrev _root_.yE:=@List.mem_append_right
abbrev _root_.yF:=@List.not_mem_nil
abbrev _root_.yG:=@Int.toNat_natCast
abbrev _root_.yH:=@List.range_eq_range'
abbrev _root_.yI:=@List.map_congr_left
abbrev _root_.yJ:=@List.foldl_cons
abbrev _root_.yK:=@List.mem_singleton
abbrev _root_.yL:=@Option.some.injEq
abbrev _root_.yM:=@if_pos
abbrev _root_.yN:=@Nat.le_refl
abbrev _root_.yO:=@if_neg
abbrev _root_.yP:=@Bool.false_eq_true
abbrev _root_.yQ:=@Bool.not_eq_true'
abbrev _root_.yR:=@of_decide_eq_true
abbrev _root_.yS:=@Nat.ne_of_lt
abbrev _root_.yT:=@List.getElem?_append_left
abbrev _root_.yU:=@List.getElem?_append_right
abbrev _root_.yV:=@List.map_nil
abbrev _root_.yW:=@List.set_cons_zero
abbrev _root_.yX:=@List.set_cons_succ
abbrev _root_.yY:=@List.getElem?_replicate
abbrev _root_.yZ:=@List.getElem?_cons_succ
abbrev _root_.xA:=@Bool.false_ne_true
abbrev _root_.xB:=@PySem.wpAny_mono
abbrev _root_.xC:=@decide_eq_false_iff_not
abbrev _root_.xD:=@List.length_singleton
abbrev _root_.xE:=@Option.some.inj
abbrev _root_.xG:=@List.replicate_succ
abbrev _root_.xH:=@List.cons_append
abbrev _root_.xI:=@List.all_eq_true
abbrev _root_.xJ:=@if_true
abbrev _root_.xK:=@List.getElem?_set
abbrev _root_.xM:=@PySem.Heap.size_push
abbrev _root_.xN:=@List.length_nil
abbrev _root_.xO:=@List.length_replicate
abbrev _root_.xP:=@PySem.Heap.get?_update_other
abbrev _root_.xQ:=@List.nil_append
abbrev _root_.xR:=@List.length_filter_le
abbrev _root_.xS:=@List.getElem?_cons_zero
abbrev _root_.xU:=@PySem.wpAny_pyIter_tuple
abbrev _root_.xV:=@List.all_cons
abbrev _root_.xW:=@or_false
abbrev _root_.xX:=@Nat.zero_le
abbrev _root_.xY:=@PySem.wpAny_truthy_bool
abbrev _root_.xZ:=@PySem.wpAny_holding
abbrev _root_.qA:=@Bool.not_true
abbrev _root_.qB:=@Int.le_refl
abbrev _root_.qC:=@List.getElem_mem
abbrev _root_.qD:=@List.mem_of_getElem?
abbrev _root_.qE:=@PySem.wpAny_callSpecial?_slot
abbrev _root_.qF:=@Array.getD_eq_getD_getElem?
abbrev _root_.qG:=@Nat.lt_irrefl
abbrev _root_.qH:=@List.append_nil
abbrev _root_.qJ:=@Option.getD_some
abbrev _root_.qK:=@List.length_drop
abbrev _root_.qL:=@List.mem_append_left
abbrev _root_.qM:=@PySem.wpAny_pyIter_list
abbrev _root_.qN:=@PySem.wpAny_newObj_type
abbrev _root_.qP:=@List.flatten_cons
abbrev _root_.qQ:=@PySem.F.plainAttrs_list
abbrev _root_.qS:=@if_false
abbrev _root_.qT:=@List.getElem_of_mem
abbrev _root_.qU:=@PyProof.Rows.callWith_type1
abbrev _root_.qV:=@PySem.wpAny_field
abbrev _root_.qX:=@PySem.sizeLine_eq
abbrev _root_.qY:=@PySem.wpAny_call_entry
abbrev _root_.qZ:=@PySem.call_meets
abbrev _root_.jA:=@PySem.wpAny_Call_Name_kw
abbrev _root_.jB:=@Nat.lt_of_le_of_lt
abbrev _root_.jC:=@List.map_append
abbrev _root_.jD:=@Bool.or_eq_true
abbrev _root_.jE:=@congrArg
abbrev _root_.jF:=@Nat.zero_add
abbrev _root_.jG:=@List.pairwise_map
abbrev _root_.jH:=@PyProof.Rows.slot_tuple_getitem
abbrev _root_.jI:=@List.filterMap_cons
abbrev _root_.jJ:=@List.ext_getElem
abbrev _root_.jK:=@Nat.ne_of_gt
abbrev _root_.jL:=@PySem.Calls.spliced_cons
abbrev _root_.jM:=@PySem.wpAny_passesOwn
abbrev _root_.jN:=@Bool.true_and
abbrev _root_.jO:=@List.getElem?_eq_none
abbrev _root_.jP:=@Ne.symm
abbrev _root_.jQ:=@Nat.lt_succ_of_lt
abbrev _root_.jR:=@and_self
abbrev _root_.jS:=@decide_true
abbrev _root_.jT:=@PySem.F.slot_tuple_iterator_next
abbrev _root_.jU:=@PySem.codeAny_mono
abbrev _root_.jV:=@Nat.le_of_lt
abbrev _root_.jW:=@Int.le_trans
abbrev _root_.jX:=@Nat.le_add_right
abbrev _root_.jY:=@List.length_take
abbrev _root_.jZ:=@List.filter_cons
abbrev _root_.kA:=@List.mem_of_find?_eq_some
abbrev _root_.kC:=@Array.getElem?_eq_getElem
abbrev _root_.kE:=@PySem.mem_of_lookup
abbrev _root_.kF:=@PyProof.Rows.listUpdate_at
abbrev _root_.kH:=@List.sum_cons
abbrev _root_.kJ:=@PyProof.Rows.get?_update_seq
abbrev _root_.kK:=@PySem.codeAny_builtin
abbrev _root_.kL:=@List.filter_map
abbrev _root_.kM:=@PySem.wpAny_seqItems
abbrev _root_.kN:=@PySem.Calls.spliced_nil
abbrev _root_.kO:=@PySem.SeqAt.canLay_of_shaped
abbrev _root_.kP:=@List.take_of_length_le
abbrev _root_.kU:=@List.find?_cons_of_neg
abbrev _root_.kX:=@List.findIdx_lt_length_of_exists
abbrev _root_.kY:=@Option.getD_none
abbrev _root_.kZ:=@Nat.lt_succ_self
abbrev _root_.vA:=@PySem.wpAny_newList
abbrev _root_.vB:=@PySem.wpAny_attempt
abbrev _root_.vC:=@List.getElem?_set_ne
abbrev _root_.vD:=@List.nodup_cons
abbrev _root_.vE:=@List.cons.injEq
abbrev _root_.vF:=@Bool.eq_iff_iff
abbrev _root_.vG:=@Bool.and_false
abbrev _root_.vH:=@PySem.wpAny_setField_rec
abbrev _root_.vI:=@Int.emod_lt_of_pos
abbrev _root_.vJ:=@List.drop_eq_getElem_cons
abbrev _root_.vK:=@List.foldl_append
abbrev _root_.vL:=@List.findIdx_cons
abbrev _root_.vM:=@PySem.wpAny_standAt
abbrev _root_.vN:=@List.any_cons
abbrev _root_.vO:=@PySem.F.args_tuple_add_2
abbrev _root_.vP:=@PySem.wpAny_execs_cons
abbrev _root_.vQ:=@List.range'_succ
abbrev _root_.vR:=@PySem.F.entry_tuple_add
abbrev _root_.vS:=@List.pairwise_singleton
abbrev _root_.vT:=@Int.eq_ofNat_of_zero_le
abbrev _root_.vU:=@PySem.wpAny_call
abbrev _root_.vV:=@beq_iff_eq
abbrev _root_.vW:=@PyProof.Rows.listItems_at
abbrev _root_.vX:=@PySem.F.slot_tuple_add
abbrev _root_.vY:=@List.range_succ_eq_map
abbrev _root_.vZ:=@List.getElem?_set_self
abbrev _root_.wA:=@List.find?_cons_of_pos
abbrev _root_.wC:=@PySem.wpAny_execs_nil
abbrev _root_.wD:=@Nat.not_lt_zero
abbrev _root_.wF:=@List.range_succ
abbrev _root_.wG:=@List.of_mem_zip
abbrev _root_.wH:=@List.find?_some
abbrev _root_.wI:=@Int.emod_nonneg
abbrev _root_.wJ:=@PySem.F.slot_zip_next
abbrev _root_.wK:=@PySem.F.slot_int_rmul
abbrev _root_.wL:=@List.getElem?_toArray
abbrev _root_.wM:=@Nat.mul_le_mul
abbrev _root_.wN:=@PyProof.Rows.IntsAre.length
abbrev _root_.wQ:=@Bool.false_and
abbrev _root_.wR:=@PySem.wpAny_loadName_local
abbrev _root_.wU:=@PySem.codeAny_call_builtin
abbrev _root_.wV:=@List.mem_of_mem_drop
abbrev _root_.wW:=@List.findIdx_getElem
abbrev _root_.wX:=@List.getD_cons_zero
abbrev _root_.wY:=@List.getD_cons_succ
abbrev _root_.wZ:=@Array.length_toList
abbrev _root_.Za:=@PySem.wpAny_rule
abbrev _root_.Zb:=@PySem.wpAny_Name
abbrev _root_.Zc:=@PySem.typeIs_int
abbrev _root_.Zd:=@of_decide_eq_false
abbrev _root_.Ze:=@Option.isNone_none
abbrev _root_.Zf:=@List.find?_eq_none
abbrev _root_.Zg:=@PySem.F.args_tuple_mul_2
abbrev _root_.Zh:=@PySem.Code.quiet_builtin
abbrev _root_.Zi:=@PySem.Calls.Constant_str
abbrev _root_.Zj:=@PySem.wpAny_typeOf
abbrev _root_.Zk:=@decide_false
abbrev _root_.Zl:=@PySem.concat_meets
abbrev _root_.Zm:=@Nat.lt_trans
abbrev _root_.Zn:=@List.any_map
abbrev _root_.Zo:=@PySem.wpAny_pyIter_enum
abbrev _root_.Zq:=@List.take_add_one
abbrev _root_.Zr:=@List.nodup_append
abbrev _root_.Zs:=@Function.comp_def
abbrev _root_.Zt:=@PySem.F.entry_tuple_mul
local macro_rules|`(tactic|simp?[$t,*] $[$l:location]?)=>`(tactic|simp only[$t,*] $[$l]?)
local macro_rules|`(tactic|let ⟨$a,*⟩:=$e)=>do
 let rec f(n:Nat)(t:Lean.Syntax):Lean.MacroM (Lean.TSyntax `rcasesPat):=match n with
 |0=>Lean.Macro.throwUnsupported
 |n+1=>match t with
  |`(⟨$b,*⟩)=>do
    let c<-b.getElems.mapM fun x=>do `(Lean.Parser.Tactic.rcasesPatLo|$(<-f n x):rcasesPat)
    `(rcasesPat|⟨$c,*⟩)
  |`($x:ident)=>`(rcasesPat|$x:ident)
  |_=>`(rcasesPat|_)
 `(tactic|obtain $(<-f 9 (<-`(⟨$a,*⟩))):rcasesPat:=$e)
local macro_rules|`(tactic|lia)=>`(tactic|omega)
local macro_rules|`(def $i:declId $s:optDeclSig $v:declVal)=>`(noncomputable def $i:declId $s:optDeclSig $v:declVal)
local macro_rules|`(abbrev $i:declId $s:optDeclSig $v:declVal)=>`(noncomputable abbrev $i:declId $s:optDeclSig $v:declVal)
namespace L2
open PySem
def gy(s:Stmt):Arguments:=match s with
 | .FunctionDef _ a _ _ _ _ _ _ _ _=>a
 | _=>{ posonlyargs:=[],args:=[],vararg:=none,kwonlyargs:=[],kw_defaults:=[],kwarg:=none,defaults:=[] }
def bx(s:Stmt):List Stmt:=match s with
 | .FunctionDef _ _ b _ _ _ _ _ _ _=>b
 | _=>[]
def ai(s:Stmt):Scope:=match s with
 | .FunctionDef _ _ _ _ _ _ sc _ _ _=>sc
 | _=>{ kind:=.function,names:=[],isGenerator:=false,isCoroutine:=false }
end L2
namespace Hd
open PySem L2 PySem.Spec PyProof.Rows
variable {N:Nat}
def en(P:Params)(x:String)(t:Nat)(v:Value):DictEntry:=⟨PyData.keyHash P (Str.ofString x),.str (Str.ofString x) t,v⟩
def fo(x:Str)(st:Stmt)(pm:Value)(c:Addr):Obj:=⟨.type "function",none,.func (W.fnOf x x (gy st) (bx st) (ai st) .none .none .none pm none (.ref c) .none),#[]⟩
def co(vs:List Value):Obj:=⟨.type "code",none,.fields vs.toArray,#[]⟩
def PJ(n:Nat):Value:=if n=0 then .none else .ref n
def dY(x:Str)(t l n a b c d e f u:Nat):Obj:=co [.str x t,.str x (t+1),.str "/claim/cut.py" (t+2),.int l 0,.int n 0,.int 0 0,.int 0 0,.int 3 0,PJ a,.bool true,.int 181 0,PJ b,PJ c,PJ d,PJ e,PJ f,.int u 0,.int l 0,.str "/claim/cut.py" (u+1)]
def PP(x:Str)(C ns m t u:Nat)(bs up subs:List Value):Obj:=⟨.type "type",none,.cls { name:=x,bases:=bs,mro:=.ref C::(up++[.type "ValueError",.type "Exception",.type "BaseException",.type "object"]),ns:=ns,qualname:=x,subclasses:=subs },#[some (.ref m),none,some (.str x t),some (.str x u),some (.builtin "ValueError.__new__"),some (.bool true)]⟩
open PySem PySem.W L2
structure Acc where
 a:Nat
 t:Nat
 nm:Value
 es:List DictEntry
 ts:List Value
 os:List Obj
def Mi(q:NameKind)(sc:Scope):List Str:=sc.names.filterMap λ(x,k)=>if k=q then some x else none
def Pf:Nat->List Str->List Value
 | _,[]=>[]
 | t,x::l=>.str x t::Pf (t+1) l
def Ky(vs:List Value):Obj:=⟨.type "tuple",none,.seq vs.toArray,#[]⟩
def Qe:Obj:=⟨.none,none,.fields #[],#[]⟩
def Qk(x:Str)(st:Stmt):Obj:=⟨.none,none,.func { name:=x,qualname:=x,params:=gy st,body:=.stmts (bx st),scope:=ai st,globals:=0,closure:=[],defaults:=.none,kwdefaults:=.none },#[]⟩
def Uv(P:Params)(k:Nat)(st:Stmt):Acc->Acc
 | ⟨a,t,nm,es,ts,os⟩=>match st with
  | .FunctionDef x args _ _ _ _ sc _ _ pos =>
   if k=0 then ⟨a+5,t+6,nm,⟨PyData.keyHash P x,.str x (t+5),.ref (a+4)⟩::es,.ref (a+3)::.int 0 0::.int pos.line 0::ts,
    fo x st nm (a+3)::dY x t pos.line args.args.length a (a+1) 0 0 0 (a+2) (t+3)::Qk x st::Qe::Ky []::os⟩
   else
    let m:=(Mi .local sc).length;let n:=m+(Mi .cell sc).length
    ⟨a+7,t+6+n,nm,⟨PyData.keyHash P x,.str x (t+5+n),.ref (a+6)⟩::es,.ref (a+5)::.int 0 0::.int pos.line 0::ts,
    fo x st nm (a+5)::dY x t pos.line args.args.length a (a+1) 0 (a+2) (a+3) (a+4) (t+3+n)::Qk x st::Ky (Pf (t+3+m) (Mi .cell sc))::Ky (Pf (t+3) (Mi .local sc))::Qe::Ky []::os⟩
  | .Assign [.Name x _] (.Constant c _ _) _ =>
   let v:=match c with|.int i=>Value.int i t|.str y=>.str y t|_=>.none
   if k=2 then ⟨a,t+2,v,es,ts,os⟩ else ⟨a,t+2,nm,⟨PyData.keyHash P x,.str x (t+1),v⟩::es,ts,os⟩
  | _=>⟨a,t,nm,es,ts,os⟩
def Rq(P:Params):List Nat->List Stmt->Acc->Acc
 | k::ks,st::r,A=>Rq P ks r (Uv P k st A)
 | _,_,A=>A
def SY:Heap->Acc->Heap
 | ⟨⟨o0::o1::o2::⟨c3,d3,.dict ⟨e0::es⟩ n,s3⟩::r⟩,lf⟩,A=>⟨⟨o0::o1::o2::⟨c3,d3,.dict ⟨{ e0 with val:=A.nm }::(es++A.es.reverse)⟩ (n+A.es.length),s3⟩ ::
   (r.modify 8 (fun|⟨c,d,.fields ⟨vs⟩,s⟩=>⟨c,d,.fields ⟨vs++A.ts.reverse⟩,s⟩|o=>o)++A.os.reverse)⟩,lf⟩
 | h,_=>h
def RR(s:Shared)(A:Acc):Shared:={ s with heap:=SY s.heap A,toks:=A.t }
section
variable (p:Program) (w:World)
abbrev By:=behindTheImports p
abbrev J4:PySem.Env:={ scope:=p.main.scope,locals:=3,globals:=3,cells:=[],code:=.ref 13,frame:=some 14 }
abbrev BX:Code:=.body (By p) (J4 p)
def JP(i:Nat):Pos:=if i=0 then default else ((By p).getD (i - 1) (.Pass default)).pos
abbrev KL:List Frame:=[topFrame default]
def S0:Shared:=(fencedOpening treeTable p w 6000).getD {}
def Sb:Shared:=((topGo treeTable p w 11 (some (.ref 6)) 12 (S0 p w) (topStub p)).map (·.1)).getD {}
abbrev Qj(n i j:Nat)(s:Shared):=segRun treeTable p w 11 (some (.ref 6)) 1 n s (piecesOf (((By p).drop i).take (j - i)) (J4 p) (BX p) (JP p i) KL)
def Sc(n j:Nat):Shared:=((Qj p w n 0 j (Sb p w)).map (·.2.1)).getD {}
def SA(n j:Nat)(A:Acc)(ks:List Nat)(m:Nat):Shared:=RR (Sc p w n j) (Rq w.params (ks.take m) ((By p).drop j) A)
end
def Lx{p q:Program}{loose:List Str}{Xt:Shared->Bool}{α:Type}{Yf:Shared->α}{Ya:World->α}{g0:Bool}{s1:World->Shared}{M:Nat}
  (ho:∀w,fencedOpening treeTable p w 6000=some (S0 p w)) (hs:∀w,((S0 p w).heap.isNs mainGlobals&&(S0 p w).gens.size == 0,(S0 p w).heap.objs.size,(S0 p w).heap.nsMap mainGlobals "__annotations__")=(true,11,some (.ref 6)))
  (hr:∀w,topRun treeTable p w 11 (some (.ref 6)) M (S0 p w) (topStub p)=some (s1 w)) (hM:M<=6000)
  (hl:∀w,(staticsOk (importedModules p.main.body) (S0 p w).heap (s1 w).heap&&namesBound p (s1 w).heap&&gensDone (s1 w)&&laidKept (S0 p w).heap (s1 w).heap)=true)
  (hk:∀w,openSeen q loose (importedModules p.main.body) Xt g0 (s1 w)=openGood q loose) (hy:∀w,Yf (s1 w)=Ya w):LeftO p q loose Xt Yf Ya 6000 g0:=λw=>by
 have r:=topRun_mono (6000 - M) _ _ _ _ (hr w);rw[show M+(6000 - M)=6000 by lia] at r;have e:=hs w;simp?[Prod.mk.injEq] at e;have t:openEnds treeTable p w 6000=some (s1 w):=by
  unfold openEnds;rw[ho w,zA];unfold topFrom;rw[e.1,e.2.1,e.2.2];dsimp only;rw[r,zA,hl w]
 rw[t,zB,hk w,hy w]
def OK{p:Program}{w:World}{r:Shared}(a:topGo treeTable p w 11 (some (.ref 6)) 12 (S0 p w) (topStub p)=some (Sb p w,⟨denote treeTable (.body (By p) (J4 p)),BX p,default,KL⟩))
  (b:segRun treeTable p w 11 (some (.ref 6)) 1 1 (Sb p w) (blockOf (By p) (J4 p) (BX p) default KL)=some (.next,Sb p w,BX p,JP p 0))
  (k:topRun treeTable p w 11 (some (.ref 6)) N (Sb p w) (restOf (By p) (J4 p) (BX p) (JP p 0) KL)=some r):topRun treeTable p w 11 (some (.ref 6)) (12+(1+N)) (S0 p w) (topStub p)=some r:=go_top a (piece_block b k)
def SN{p:Program}{w:World}{n N i j:Nat}{s s' r:Shared}(h:Qj p w n i j s=some (.next,s',BX p,JP p j))(UU:i<=j)(k:topRun treeTable p w 11 (some (.ref 6)) N s' (restOf ((By p).drop j) (J4 p) (BX p) (JP p j) KL)=some r) :
  topRun treeTable p w 11 (some (.ref 6)) (n+N) s (restOf ((By p).drop i) (J4 p) (BX p) (JP p i) KL)=some r:=by
 have e:(By p).drop i=((By p).drop i).take (j - i)++(By p).drop j:=by
  have:=List.take_append_drop (j - i) ((By p).drop i);rw[List.drop_drop,show i+(j - i)=j by lia] at this;exact this.symm
 rw[e];exact piece_app h k
end Hd
namespace K30
open PySem L2 PySem.Spec PyProof.Rows Hd PySem.W
abbrev top(i:Nat):Stmt:=PySem.Challenge.pw_stillflow_k30_listing.main.body.getD i (.Pass ⟨0,0,0,0⟩)
def vw:Program:=W.view PySem.Challenge.pw_stillflow_k30_listing [1,2,3,4,5,6,8,9,10,11,12,13,14,15,16,17,18,19,20,21,22,23,24,25,26,27,28,29,30,32,33,34,35,36,37,39,40,41,42,43,44,45,46,48,49,50,51,52,53,54,55,56,57,58,60,61,62,63,64,65,66,67,68,69,70,71,72,73]
abbrev Ur:Addr:=24
abbrev TN:List (Str×Addr):=[("NoWorld",37),("NoPlan",49),("NoPlace",61),("TooMany",73),("Nothing",85)]
def iN:Value:=(.str "stillflow.worlds" 287)
def F9:Value:=(.str "stillflow.flows" 446)
def Bw:Value:=(.str "stillflow.finding" 492)
def uV:Value:=(.str "stillflow.listing" 563)
def oJ:Value:=(.str "law_stillflow_k30_listing" 633)
def Kf(P:Params):W.Frag:=[(3,⟨.type "dict",none,.dict #[en P "__name__" 165 (.str "law_stillflow_k30_listing" 633),en P "__doc__" 166 .none,en P "__package__" 167 .none,en P "__loader__" 168 (.builtin "__main__.__loader__#opaque"),en P "__spec__" 169 .none,en P "__annotations__" 170 (.ref 6),en P "__builtins__" 171 (.ref 4),en P "__file__" 173 (.str "/claim/cut.py" 172),en P "__cached__" 174 .none,en P "FlowError" 206 (.ref 24),en P "NoWorld" 222 (.ref 37),en P "NoPlan" 238 (.ref 49),en P "NoPlace" 254 (.ref 61),en P "TooMany" 270 (.ref 73),en P "Nothing" 286 (.ref 85),en P "MOST_PLACES" 290 (.int 4 289),en P "MOST" 292 (.int 9 291),en P "is_whole" 301 (.ref 94),en P "is_number" 309 (.ref 101),en P "is_long" 318 (.ref 108),en P "are_likes" 324 (.ref 113),en P "is_end" 332 (.ref 120),en P "is_way" 341 (.ref 127),en P "are_parts" 347 (.ref 132),en P "liked_pairs" 353 (.ref 137),en P "is_world" 359 (.ref 142),en P "through" 365 (.ref 147),en P "keeps_amounts" 371 (.ref 152),en P "is_plan" 377 (.ref 157),en P "check_world" 384 (.ref 164),en P "check_plan" 392 (.ref 171),en P "check_whole" 401 (.ref 178),en P "check_number" 409 (.ref 185),en P "check_side" 416 (.ref 192),en P "replaced" 425 (.ref 199),en P "turned_order" 433 (.ref 206),en P "turned" 439 (.ref 211),en P "turned_plan" 445 (.ref 216),en P "ways_of" 453 (.ref 221),en P "chosen_by" 459 (.ref 226),en P "wants_more" 465 (.ref 231),en P "why_kept" 474 (.ref 238),en P "first_leaving" 483 (.ref 245),en P "is_still" 491 (.ref 252),en P "chosen_by_all" 499 (.ref 257),en P "limits" 505 (.ref 262),en P "lowered" 514 (.ref 269),en P "refused" 526 (.ref 276),en P "steps" 536 (.ref 283),en P "capped" 547 (.ref 290),en P "givers_best" 554 (.ref 297),en P "takers_best" 562 (.ref 304),en P "MOST_LISTED" 566 (.int 3000 565),en P "check_many" 575 (.ref 311),en P "within_limits" 581 (.ref 316),en P "all_plans" 587 (.ref 321),en P "all_rests" 593 (.ref 326),en P "is_single" 600 (.ref 333),en P "is_alike" 606 (.ref 338),en P "always" 612 (.ref 343),en P "through_all" 618 (.ref 348),en P "totals" 626 (.ref 355),en P "short" 632 (.ref 360),en P "_law_cell" 642 (.ref 367),en P "_law_drawn" 652 (.ref 374),en P "_law_orders" 667 (.ref 381),en P "_law_world" 673 (.ref 386),en P "_law_used" 679 (.ref 391),en P "_law_fits" 690 (.ref 398),en P "_law_plans" 696 (.ref 403),en P "_law_plan" 710 (.ref 410),en P "_law_wants" 724 (.ref 417),en P "_law_why" 736 (.ref 424),en P "_law_rests" 742 (.ref 429),en P "_law_refused" 750 (.ref 436),en P "_law_told" 760 (.ref 443),en P "law" 766 (.ref 448)] 77,#[]⟩),
 (23,⟨.type "dict",none,.dict #[en P "__module__" 196 (.str "stillflow.errors" 187),en P "__firstlineno__" 200 (.int 2 199),en P "__static_attributes__" 201 (.ref 22),en P "__weakref__" 203 (.ref 25),en P "__doc__" 204 .none] 3,#[]⟩),
 (24,PP "FlowError" 24 23 15 189 197 [(.type "ValueError")] [] [(.ref 37),(.ref 49),(.ref 61),(.ref 73),(.ref 85)]),
 (36,⟨.type "dict",none,.dict #[en P "__module__" 214 (.str "stillflow.errors" 187),en P "__firstlineno__" 218 (.int 4 217),en P "__static_attributes__" 219 (.ref 35),en P "__doc__" 220 .none] 2,#[]⟩),
 (37,PP "NoWorld" 37 36 28 207 215 [(.ref 24)] [(.ref 24)] []),
 (48,⟨.type "dict",none,.dict #[en P "__module__" 230 (.str "stillflow.errors" 187),en P "__firstlineno__" 234 (.int 6 233),en P "__static_attributes__" 235 (.ref 47),en P "__doc__" 236 .none] 2,#[]⟩),
 (49,PP "NoPlan" 49 48 40 223 231 [(.ref 24)] [(.ref 24)] []),
 (60,⟨.type "dict",none,.dict #[en P "__module__" 246 (.str "stillflow.errors" 187),en P "__firstlineno__" 250 (.int 8 249),en P "__static_attributes__" 251 (.ref 59),en P "__doc__" 252 .none] 2,#[]⟩),
 (61,PP "NoPlace" 61 60 52 239 247 [(.ref 24)] [(.ref 24)] []),
 (72,⟨.type "dict",none,.dict #[en P "__module__" 262 (.str "stillflow.errors" 187),en P "__firstlineno__" 266 (.int 10 265),en P "__static_attributes__" 267 (.ref 71),en P "__doc__" 268 .none] 2,#[]⟩),
 (73,PP "TooMany" 73 72 64 255 263 [(.ref 24)] [(.ref 24)] []),
 (84,⟨.type "dict",none,.dict #[en P "__module__" 278 (.str "stillflow.errors" 187),en P "__firstlineno__" 282 (.int 12 281),en P "__static_attributes__" 283 (.ref 83),en P "__doc__" 284 .none] 2,#[]⟩),
 (85,PP "Nothing" 85 84 76 271 279 [(.ref 24)] [(.ref 24)] []),
 (93,dY "is_whole" 293 17 3 88 89 0 90 91 92 299),
 (94,fo "is_whole" (top 10) iN 93),
 (100,dY "is_number" 302 21 2 95 96 0 97 98 99 307),
 (101,fo "is_number" (top 11) iN 100),
 (107,dY "is_long" 310 23 3 102 103 0 104 105 106 316),
 (108,fo "is_long" (top 12) iN 107),
 (112,dY "are_likes" 319 25 2 109 110 0 0 0 111 322),
 (113,fo "are_likes" (top 13) iN 112),
 (119,dY "is_end" 325 31 2 114 115 0 116 117 118 330),
 (120,fo "is_end" (top 14) iN 119),
 (126,dY "is_way" 333 33 3 121 122 0 123 124 125 339),
 (127,fo "is_way" (top 15) iN 126),
 (131,dY "are_parts" 342 37 3 128 129 0 0 0 130 345),
 (132,fo "are_parts" (top 16) iN 131),
 (136,dY "liked_pairs" 348 45 1 133 134 0 0 0 135 351),
 (137,fo "liked_pairs" (top 17) iN 136),
 (141,dY "is_world" 354 50 1 138 139 0 0 0 140 357),
 (142,fo "is_world" (top 18) iN 141),
 (146,dY "through" 360 57 4 143 144 0 0 0 145 363),
 (147,fo "through" (top 19) iN 146),
 (151,dY "keeps_amounts" 366 59 3 148 149 0 0 0 150 369),
 (152,fo "keeps_amounts" (top 20) iN 151),
 (156,dY "is_plan" 372 61 2 153 154 0 0 0 155 375),
 (157,fo "is_plan" (top 21) iN 156),
 (163,dY "check_world" 378 68 1 158 159 0 160 161 162 382),
 (164,fo "check_world" (top 22) iN 163),
 (170,dY "check_plan" 385 71 2 165 166 0 167 168 169 390),
 (171,fo "check_plan" (top 23) iN 170),
 (177,dY "check_whole" 393 75 3 172 173 0 174 175 176 399),
 (178,fo "check_whole" (top 24) iN 177),
 (184,dY "check_number" 402 78 2 179 180 0 181 182 183 407),
 (185,fo "check_number" (top 25) iN 184),
 (191,dY "check_side" 410 80 1 186 187 0 188 189 190 414),
 (192,fo "check_side" (top 26) iN 191),
 (198,dY "replaced" 417 82 3 193 194 0 195 196 197 423),
 (199,fo "replaced" (top 27) iN 198),
 (205,dY "turned_order" 426 84 1 200 201 0 202 203 204 431),
 (206,fo "turned_order" (top 28) iN 205),
 (210,dY "turned" 434 87 1 207 208 0 0 0 209 437),
 (211,fo "turned" (top 29) iN 210),
 (215,dY "turned_plan" 440 91 2 212 213 0 0 0 214 443),
 (216,fo "turned_plan" (top 30) iN 215),
 (220,dY "ways_of" 448 95 3 217 218 0 0 0 219 451),
 (221,fo "ways_of" (top 32) F9 220),
 (225,dY "chosen_by" 454 100 4 222 223 0 0 0 224 457),
 (226,fo "chosen_by" (top 33) F9 225),
 (230,dY "wants_more" 460 107 4 227 228 0 0 0 229 463),
 (231,fo "wants_more" (top 34) F9 230),
 (237,dY "why_kept" 466 114 3 232 233 0 234 235 236 472),
 (238,fo "why_kept" (top 35) F9 237),
 (244,dY "first_leaving" 475 122 2 239 240 0 241 242 243 481),
 (245,fo "first_leaving" (top 36) F9 244),
 (251,dY "is_still" 484 127 2 246 247 0 248 249 250 489),
 (252,fo "is_still" (top 37) F9 251),
 (256,dY "chosen_by_all" 494 130 3 253 254 0 0 0 255 497),
 (257,fo "chosen_by_all" (top 39) Bw 256),
 (261,dY "limits" 500 136 1 258 259 0 0 0 260 503),
 (262,fo "limits" (top 40) Bw 261),
 (268,dY "lowered" 506 138 3 263 264 0 265 266 267 512),
 (269,fo "lowered" (top 41) Bw 268),
 (275,dY "refused" 515 140 2 270 271 0 272 273 274 524),
 (276,fo "refused" (top 42) Bw 275),
 (282,dY "steps" 527 147 1 277 278 0 279 280 281 534),
 (283,fo "steps" (top 43) Bw 282),
 (289,dY "capped" 537 156 2 284 285 0 286 287 288 545),
 (290,fo "capped" (top 44) Bw 289),
 (296,dY "givers_best" 548 161 1 291 292 0 293 294 295 552),
 (297,fo "givers_best" (top 45) Bw 296),
 (303,dY "takers_best" 555 164 1 298 299 0 300 301 302 560),
 (304,fo "takers_best" (top 46) Bw 303),
 (310,dY "check_many" 567 169 1 305 306 0 307 308 309 573),
 (311,fo "check_many" (top 49) uV 310),
 (315,dY "within_limits" 576 175 1 312 313 0 0 0 314 579),
 (316,fo "within_limits" (top 50) uV 315),
 (320,dY "all_plans" 582 183 1 317 318 0 0 0 319 585),
 (321,fo "all_plans" (top 51) uV 320),
 (325,dY "all_rests" 588 187 1 322 323 0 0 0 324 591),
 (326,fo "all_rests" (top 52) uV 325),
 (332,dY "is_single" 594 189 1 327 328 0 329 330 331 598),
 (333,fo "is_single" (top 53) uV 332),
 (337,dY "is_alike" 601 191 2 334 335 0 0 0 336 604),
 (338,fo "is_alike" (top 54) uV 337),
 (342,dY "always" 607 193 1 339 340 0 0 0 341 610),
 (343,fo "always" (top 55) uV 342),
 (347,dY "through_all" 613 196 3 344 345 0 0 0 346 616),
 (348,fo "through_all" (top 56) uV 347),
 (354,dY "totals" 619 198 1 349 350 0 351 352 353 624),
 (355,fo "totals" (top 57) uV 354),
 (359,dY "short" 627 201 2 356 357 0 0 0 358 630),
 (360,fo "short" (top 58) uV 359),
 (366,dY "_law_cell" 635 207 2 361 362 0 363 364 365 640),
 (367,fo "_law_cell" (top 60) oJ 366),
 (373,dY "_law_drawn" 643 211 3 368 369 0 370 371 372 650),
 (374,fo "_law_drawn" (top 61) oJ 373),
 (380,dY "_law_orders" 653 215 3 375 376 0 377 378 379 665),
 (381,fo "_law_orders" (top 62) oJ 380),
 (385,dY "_law_world" 668 223 3 382 383 0 0 0 384 671),
 (386,fo "_law_world" (top 63) oJ 385),
 (390,dY "_law_used" 674 239 4 387 388 0 0 0 389 677),
 (391,fo "_law_used" (top 64) oJ 390),
 (397,dY "_law_fits" 680 241 2 392 393 0 394 395 396 688),
 (398,fo "_law_fits" (top 65) oJ 397),
 (402,dY "_law_plans" 691 247 1 399 400 0 0 0 401 694),
 (403,fo "_law_plans" (top 66) oJ 402),
 (409,dY "_law_plan" 697 255 3 404 405 0 406 407 408 708),
 (410,fo "_law_plan" (top 67) oJ 409),
 (416,dY "_law_wants" 711 262 5 411 412 0 413 414 415 722),
 (417,fo "_law_wants" (top 68) oJ 416),
 (423,dY "_law_why" 725 270 3 418 419 0 420 421 422 734),
 (424,fo "_law_why" (top 69) oJ 423),
 (428,dY "_law_rests" 737 277 2 425 426 0 0 0 427 740),
 (429,fo "_law_rests" (top 70) oJ 428),
 (435,dY "_law_refused" 743 279 1 430 431 0 432 433 434 748),
 (436,fo "_law_refused" (top 71) oJ 435),
 (442,dY "_law_told" 751 285 3 437 438 0 439 440 441 758),
 (443,fo "_law_told" (top 72) oJ 442),
 (447,dY "law" 761 292 1 444 445 0 0 0 446 764),
 (448,fo "law" (top 73) oJ 447)]
def hk:W.Hook:=W.kmHook Kf [3,23,24,36,37,48,49,60,61,72,73,84,85,93,94,100,101,107,108,112,113,119,120,126,127,131,132,136,137,141,142,146,147,151,152,156,157,163,164,170,171,177,178,184,185,191,192,198,199,205,206,210,211,215,216,220,221,225,226,230,231,237,238,244,245,251,252,256,257,261,262,268,269,275,276,282,283,289,290,296,297,303,304,310,311,315,316,320,321,325,326,332,333,337,338,342,343,347,348,354,355,359,360,366,367,373,374,380,381,385,386,390,391,397,398,402,403,409,410,416,417,423,424,428,429,435,436,442,443,447,448] (λ_=>rfl) [201,218]
abbrev pp:=PySem.Challenge.pw_stillflow_k30_listing
abbrev A0:Acc:=⟨88,287,.str "stillflow.errors" 187,[],[],[]⟩
abbrev ks:List Nat:=[2,3,3,1,1,1,0,1,1,0,0,0,0,0,0,1,1,1,1,1,1,1,0,0,2,0,0,0,1,1,1,2,0,0,1,1,1,1,1,1,2,3,1,0,0,0,1,0,0,0,1,0,2,1,1,1,0,0,1,0,1,1,1,0,1,1,0]
abbrev cs(w:World):Shared:=Sc pp w 1261 7
abbrev sa(w:World)(m:Nat):Shared:=SA pp w 1261 7 A0 ks m
def o0(w:World):fencedOpening treeTable pp w 6000=some (S0 pp w):=by kernel_rfl
def o1(w:World):((S0 pp w).heap.isNs mainGlobals&&(S0 pp w).gens.size == 0,(S0 pp w).heap.objs.size,(S0 pp w).heap.nsMap mainGlobals "__annotations__")=(true,11,some (.ref 6)):=by kernel_rfl
def o2(w:World):topGo treeTable pp w 11 (some (.ref 6)) 12 (S0 pp w) (topStub pp)=some (Sb pp w,⟨denote treeTable (.body (By pp) (J4 pp)),BX pp,default,KL⟩):=by kernel_rfl
def o3(w:World):segRun treeTable pp w 11 (some (.ref 6)) 1 1 (Sb pp w) (blockOf (By pp) (J4 pp) (BX pp) default KL)=some (.next,Sb pp w,BX pp,JP pp 0):=by kernel_rfl
def q0(w:World):Qj pp w 1261 0 7 (Sb pp w)=some (.next,cs w,BX pp,JP pp 7):=by kernel_rfl
def q1(w:World):cs w=sa w 0:=by kernel_rfl
def r0(w:World):Qj pp w 839 7 40 (sa w 0)=some (.next,sa w 33,BX pp,JP pp 40):=by kernel_rfl
def r1(w:World):Qj pp w 945 40 74 (sa w 33)=some (.next,sa w 67,BX pp,JP pp 74):=by kernel_rfl
abbrev fs(w:World):Shared:=sa w 67
def q2(w:World):topRun treeTable pp w 11 (some (.ref 6)) 3 (fs w) (restOf ((By pp).drop 74) (J4 pp) (BX pp) (JP pp 74) KL)=some (fs w):=by kernel_rfl
def rl(w:World):topRun treeTable pp w 11 (some (.ref 6)) (12+(1+(1261+(839+(945+3))))) (S0 pp w) (topStub pp)=some (fs w):=OK (o2 w) (o3 w) (SN (i:=0) (q0 w) (by decide) (by rw[q1 w];exact (SN (r0 w) (by decide) (SN (r1 w) (by decide) (q2 w)))))
abbrev sn(w:World):=openSeen vw [] (importedModules pp.main.body) (λs=>xlAt vw [] s&&recOk [] s) true (fs w)
abbrev gd:=openGood vw []
def l0(w:World):(staticsOk (importedModules pp.main.body) (S0 pp w).heap (fs w).heap&&namesBound pp (fs w).heap&&gensDone (fs w)&&laidKept (S0 pp w).heap (fs w).heap)=true:=by kernel_rfl
def TK(w:World):(sn w).1=gd.1:=by kernel_rfl
def TZ(w:World):(sn w).2.1=gd.2.1:=by kernel_rfl
def T6(w:World):(sn w).2.2.1=gd.2.2.1:=by kernel_rfl
def T9(w:World):(sn w).2.2.2.1=gd.2.2.2.1:=by kernel_rfl
def TM(w:World):(sn w).2.2.2.2.1=gd.2.2.2.2.1:=by kernel_rfl
def Ua(w:World):(sn w).2.2.2.2.2.1=gd.2.2.2.2.2.1:=by kernel_rfl
def Ut(w:World):(sn w).2.2.2.2.2.2=gd.2.2.2.2.2.2:=by kernel_rfl
def T3(w:World):hk.obs (fs w)=hk.val w:=by kernel_rfl
def left:LeftO pp vw [] (λs=>xlAt vw [] s&&recOk [] s) hk.obs hk.val 6000:=Lx o0 o1 rl (by decide) l0 (λw=>Prod.ext (TK w) (Prod.ext (TZ w) (Prod.ext (T6 w) (Prod.ext (T9 w) (Prod.ext (TM w) (Prod.ext (Ua w) (Ut w))))))) T3
def R5:PySem.Challenge.rw_stillflow_k30_listing.wellSaid=true:=by kernel_rfl
end K30
namespace L2
open PySem PySem.Spec PyProof.Rows
abbrev Bv:=Sum Int Str
def MT:Bv->Value->Bool
 | .inl k,v=>Value.isInt k v
 | .inr x,v=>Value.isStrOf x v
def Tc(w:World):Bv->Int
 | .inl k=>hashInt k
 | .inr x=>hashStr w x
def b8:∀ {k:Bv}{v:Value},MT k v=true->(∃i t,k=Sum.inl i/\v=Value.int i t)\/(∃x t,k=Sum.inr x/\v=Value.str x t)
 | .inl i,v,h=>by
  let⟨t,e⟩:=Value.isInt_shape (k:=i) (v:=v) h;exact .inl ⟨i,t,rfl,e⟩
 | .inr x,v,h=>by
  let⟨t,e⟩:=Value.isStrOf_shape (x:=x) (v:=v) h;exact .inr ⟨x,t,rfl,e⟩
def Ph(a b:Int):decide ((Sum.inl a:Bv)=Sum.inl b)=(a == b):=by
 by_cases e:a=b
 ·subst e;simp
 ·have h:¬ (Sum.inl a:Bv)=Sum.inl b:=λq=>e (Sum.inl.inj q);rw[zZ h];exact (beq_eq_false_iff_ne.mpr e).symm
def Pj(a b:Str):decide ((Sum.inr a:Bv)=Sum.inr b)=decide (a=b):=by
 by_cases e:a=b
 ·subst e;simp
 ·have h:¬ (Sum.inr a:Bv)=Sum.inr b:=λq=>e (Sum.inr.inj q);rw[zZ h,zZ e]
def NO(a:Int)(b:Str):decide ((Sum.inl a:Bv)=Sum.inr b)=false:=zZ (λq=>nomatch q)
def NU(a:Str)(b:Int):decide ((Sum.inr a:Bv)=Sum.inl b)=false:=zZ (λq=>nomatch q)
def D9(prog:Program)(w:World):PySem.KeyKind prog w Bv where
 is:=MT
 hash:=Tc w
 inj:=λv a b ha hb=>by
  rcases b8 ha with ⟨i,t,rfl,rfl⟩|⟨x,t,rfl,rfl⟩
  ·rcases b8 hb with ⟨j,u,rfl,e⟩|⟨y,u,rfl,e⟩
   ·injection e with e1 _;rw[e1]
   ·exact nomatch e
  ·rcases b8 hb with ⟨j,u,rfl,e⟩|⟨y,u,rfl,e⟩
   ·exact nomatch e
   ·injection e with e1 _;rw[e1]
 byValue:=λk v h=>by
  rcases b8 h with ⟨i,t,rfl,rfl⟩|⟨x,t,rfl,rfl⟩<;>rfl
 pyHash:=λhv h=>by
  rcases b8 hv with ⟨i,t,rfl,rfl⟩|⟨x,t,rfl,rfl⟩
  ·exact wpAny_pyHash_int h
  ·exact wpAny_pyHash_str h
 eqBool:=λhu hv h=>by
  rcases b8 hu with ⟨i,t,rfl,rfl⟩|⟨x,t,rfl,rfl⟩
  ·rcases b8 hv with ⟨j,u,rfl,rfl⟩|⟨y,u,rfl,rfl⟩
   ·rw[Ph] at h;exact wpAny_eqBool_int h
   ·rw[NO] at h;exact SeqAt.EqAt.int_str i t y u _ _ _ _ h
  ·rcases b8 hv with ⟨j,u,rfl,rfl⟩|⟨y,u,rfl,rfl⟩
   ·rw[NU] at h;exact SeqAt.EqAt.str_int x t j u _ _ _ _ h
   ·rw[Pj] at h;exact wpAny_eqBool_str h
 «strs»:=λk x t v h=>by
  rcases b8 h with ⟨i,u,rfl,e⟩|⟨y,u,rfl,e⟩
  ·exact nomatch e
  ·injection e with e1 _
   subst e1;cases v<;>rfl
inductive V where
 | Ux|bl (b:Bool)|int (i:Int)|str (x:Str)|X7 (b:Array UInt8)|flt (b:UInt64)|ref (a:Addr)|ty (n:String)
 deriving DecidableEq
def RelV:V->Value->Prop
 | .Ux,u=>u=Value.none
 | .bl b,u=>u=Value.bool b
 | .int i,u=>∃t,u=Value.int i t
 | .str x,u=>∃t,u=Value.str x t
 | .X7 b,u=>∃t,u=Value.bytes b t
 | .flt b,u=>∃t,u=Value.float b t
 | .ref a,u=>u=Value.ref a
 | .ty n,u=>u=Value.type n
abbrev aN:List V->List Value->Prop:=Paired RelV
def aN.length(r:aN xs us):xs.length=us.length:=Paired.length r
def aN.get:∀ {xs:List V}{us:List Value}{i:Nat}{x:V},aN xs us->xs[i]?=some x->∃u,us[i]?=some u/\RelV x u
 | _,_,_,_,.nil,e=>by simp at e
 | _,_,0,_,.cons r _,e=>by simp at e;subst e;exact⟨_,rfl,r⟩
 | _,_,i+1,x,.cons _ t,e=>by
  let⟨u,h1,h2⟩:=aN.get (i:=i) (x:=x) t (by simpa using e);exact⟨u,by simpa using h1,h2⟩
def aN.set(r:RelV x u):∀ {xs:List V}{us:List Value}(i:Nat),aN xs us->aN (xs.set i x) (us.set i u)
 | _,_,_,.nil=>.nil
 | _,_,0,.cons _ t=>.cons r t
 | _,_,i+1,.cons q t=>.cons q (aN.set r i t)
def aN.append:∀ {xs ys:List V}{us ws:List Value},aN xs us->aN ys ws->aN (xs++ys) (us++ws)
 | _,_,_,_,.nil,s=>s
 | _,_,_,_,.cons r t,s=>.cons r (aN.append t s)
def aN.take:∀ {xs:List V}{us:List Value}(n:Nat),aN xs us->aN (xs.take n) (us.take n)
 | _,_,0,_=>.nil
 | _,_,_+1,.nil=>.nil
 | _,_,n+1,.cons r t=>.cons r (aN.take n t)
def aN.drop:∀ {xs:List V}{us:List Value}(n:Nat),aN xs us->aN (xs.drop n) (us.drop n)
 | _,_,0,r=>r
 | _,_,_+1,.nil=>.nil
 | _,_,n+1,.cons _ t=>aN.drop n t
def Rt:Option V->Option Value->Prop
 | some v,some u=>RelV v u
 | none,none=>True
 | _,_=>False
def KV:List (κ×V)->List (κ×Value)->Prop:=Paired λ(p:κ×V) (q:κ×Value)=>p.1=q.1/\RelV p.2 q.2
def kV:Bv->V
 | .inl i=>.int i
 | .inr x=>.str x
inductive HO where
  | lst (xs:List V)
  | tup (xs:List V)
  | dK (U1:List (Bv×V))|dT (U1:List (List Bv×V))
  | set (S:Int->Bool) (n:Nat)
  | ins (C dx:Addr) (fs:List (Str×V))
  | own (x:Addr)
  | xd (fs:List (Str×V))
  | met (f x:Addr)
  | rng (lo hi:Int)
  | Vh (o:Obj) (u:HO)
  | tab (q:Str)
 | WR (q:Str)
  | ext (φ:Heap->Prop)
abbrev Hp:=Addr->Option HO
def upd(H:Hp)(a:Addr)(o:HO):Hp:=λb=>if b=a then some o else H b
def aH:upd H a o a=some o:=by unfold upd;rw[yM rfl]
def aD(h:b≠a):upd H a o b=H b:=by unfold upd;rw[yO h]
def aU{H:Hp}{a b:Addr}{o:HO}(h:H a=some o)(h':H b=none):a≠b:=by
 intro e;subst e;rw[h] at h';cases h'
def rK(h:Heap)(a:Addr)(its:Array Value):Prop:=IsTup h a its/\∃o,h.get? a=some o/\o.dict=none
def rK.new(h:Heap)(its:Array Value):rK (h.push { cls:=.type "tuple",data:=.seq its }) h.objs.size its:=⟨IsTup.new _ _,_,zX _ rfl,rfl⟩
section
variable (P:Program) (w:World)
def eH(H:Hp)(h:Heap)(a:Addr):HO->Prop
 | .lst xs=>xs.length<=sizeLine/\∃ (its:List Value) (n:Nat),aN xs its/\h.get? a=some { cls:=.type "list",data:=.seq its.toArray n }
 | .tup xs=>xs.length<=sizeLine/\∃its:List Value,aN xs its/\rK h a its.toArray
 | .dK U1=>U1.length<=sizeLine/\(a == sysModules)=false/\∃vs,KV U1 vs/\h.DictOf (D9 P w) a vs
 | .dT U1=>U1.length<=sizeLine/\(a == sysModules)=false/\∃xs:List (List Bv×Addr×Value),
   Paired (λ(p:List Bv×V) (q:List Bv×Addr×Value)=>p.1=q.1/\H q.2.1=some (.tup (p.1.map kV))/\RelV p.2 q.2.2) U1 xs /\
   ∃o es ep,h.get? a=some o/\o.ExactDict/\o.data=.dict es ep/\es.toList=xs.map (entryOfKey (tupleKind (D9 P w)))/\(xs.map (·.1)).Nodup
 | .set S n=>h.SetOf (intKind P w) a S n
 | .ins C dx fs=>H dx=some (.own a)/\fs.length<=1000/\dx≠a/\h.get? a=some (W.instObj C dx) /\
   ∃mA,h.Ns1 dx mA/\(∀f,Rt (fs.lookup f) (mA f))/\PySem.Within mA (fs.map (·.1))
 | .own _=>∃o,h.get? a=some o
 | .xd fs=>∃mA,h.Ns1 a mA/\∀f,Rt (fs.lookup f) (mA f)
 | .rng lo hi=>∃t u v,h.get? a=some { cls:=.type "range",data:=.fields #[.int lo t,.int hi u,.int 1 v] }
 | .Vh o u=>h.get? a=some o/\eH H h a u
 | .tab q=>∃ps:Array Value,h.get? a=some { cls:=.none,data:=.fields ps }/\TriplesOk ps.toList/\∀pos v,codeAmong pos ps.toList=some v->∃c,v=.ref c/\H c=some (.WR q)
 | .WR q=>h.CodeRec (.ref a) q
 | .met f x=>h.get? a=some (W.methodObj (.ref f) (.ref x))
 | .ext φ=>φ h/\(∃o,h.get? a=some o)/\∀h1 h2:Heap,φ h1->(∀o,h1.get? a=some o->h2.get? a=some o)->φ h2
def oI(H:Hp)(h:Heap):Prop:=∀a o,H a=some o->eH P w H h a o
end
def eH.lt(x:eH P w H h a o):a < h.objs.size:=by
 cases o with
 | lst xs=>let⟨_,_,_,_,e⟩:=x;exact zY e
 | tup xs=>let⟨_,_,_,p⟩:=x;exact p.1.lt
 | dK U1=>let⟨_,_,_,_,o,_,_,e,_⟩:=x;exact zY e
 | dT U1=>let⟨_,_,_,_,o,_,_,e,_⟩:=x;exact zY e
 | set S n=>let⟨o,_,_,_,e,_⟩:=x;exact zY e
 | ins C dx fs=>let⟨_,_,_,e,_⟩:=x;exact zY e
 | own y=>let⟨_,e⟩:=x;exact zY e
 | xd fs=>let⟨_,⟨_,_,_,e,_⟩,_⟩:=x;exact zY e
 | rng lo hi=>let⟨_,_,_,e⟩:=x;exact zY e
 | Vh ob u=>let⟨e,_⟩:=x;exact zY e
 | tab q=>let⟨_,e,_⟩:=x;exact zY e
 | WR q=>let⟨_,_,_,_,e0,e,_⟩:=x;cases e0;exact zY e
 | met f y=>exact zY (show h.get? a=some _ from x)
 | ext φ=>let⟨_,⟨_,e⟩,_⟩:=x;exact zY e
def Paired.ZP:∀ {aaX:List α}{aaY:List β},Paired F aaX aaY->(∀a b,F a b->G a b)->Paired G aaX aaY
 | _,_,.nil,_=>.nil
 | _,_,.cons r t,f=>.cons (f _ _ r) (Paired.ZP t f)
def TF:HO->Prop
 | .tup _=>True
 | .WR _=>True
 | _=>False
def eH.Vb(x:eH P w H h a o)(k:∀b u,(b=a\/H b=some (.own a))->h.get? b=some u->h'.get? b=some u)
  (ho:∀b,H b=some (.own a)->H' b=some (.own a)) (ht:∀b u,H b=some u->TF u->H' b=some u):eH P w H' h' a o:=by
 induction o with
 | lst xs=>let⟨z,its,n,r,e⟩:=x;exact⟨z,its,n,r,k _ _ (.inl rfl) e⟩
 | tup xs=>let⟨z,its,r,⟨ob,e,c⟩,o2,e2,d2⟩:=x;exact⟨z,its,r,⟨ob,k _ _ (.inl rfl) e,c⟩,o2,k _ _ (.inl rfl) e2,d2⟩
 | dK U1=>let⟨z,y,vs,r,ob,es,ep,e,c⟩:=x;exact⟨z,y,vs,r,ob,es,ep,k _ _ (.inl rfl) e,c⟩
 | dT U1 =>
  let⟨z,y,xs,r,ob,es,ep,e,c⟩:=x;exact⟨z,y,xs,Paired.ZP r λp q z=>⟨z.1,ht _ _ z.2.1 trivial,z.2.2⟩,ob,es,ep,k _ _ (.inl rfl) e,c⟩
 | set S n=>let⟨ob,es,ep,t,e,c⟩:=x;exact⟨ob,es,ep,t,k _ _ (.inl rfl) e,c⟩
 | ins C dx fs =>
  let⟨d,z,ne,e,mA,⟨od,es,ep,e2,c⟩,r⟩:=x;exact⟨ho _ d,z,ne,k _ _ (.inl rfl) e,mA,⟨od,es,ep,k _ _ (.inr d) e2,c⟩,r⟩
 | own y=>let⟨ob,e⟩:=x;exact⟨ob,k _ _ (.inl rfl) e⟩
 | xd fs=>let⟨mA,⟨od,es,ep,e,c⟩,r⟩:=x;exact⟨mA,⟨od,es,ep,k _ _ (.inl rfl) e,c⟩,r⟩
 | rng lo hi=>let⟨t,u,v,e⟩:=x;exact⟨t,u,v,k _ _ (.inl rfl) e⟩
 | Vh ob u ih=>let⟨e,q⟩:=x;exact⟨k _ _ (.inl rfl) e,ih q⟩
 | tab q=>let⟨ps,e,t,c⟩:=x;exact⟨ps,k a _ (.inl rfl) e,t,λpos v z=>let ⟨c0,z1,z2⟩:=c pos v z;⟨c0,z1,ht _ _ z2 trivial⟩⟩
 | WR q=>let⟨c,oc,vs,t,e0,e,r⟩:=x;cases e0;exact⟨_,oc,vs,t,rfl,k _ _ (.inl rfl) e,r⟩
 | met f y =>
  have e:h.get? a=some (W.methodObj (.ref f) (.ref y)):=x;show h'.get? a=some (W.methodObj (.ref f) (.ref y));exact k a _ (.inl rfl) e
 | ext φ=>let⟨p,⟨o,e⟩,st⟩:=x;exact⟨st _ _ p λo q=>k _ _ (.inl rfl) q,⟨o,k _ _ (.inl rfl) e⟩,st⟩
def oI.lt(x:oI P w H h)(e:H a=some o):a < h.objs.size:=(x a o e).lt
def oI.fresh(x:oI P w H h)(e:h.objs.size<=a):H a=none:=by
 cases q:H a with
 | none=>rfl
 | some u=>exact absurd (zP (x.lt q) e) (qG _)
def oI.kept(x:oI P w H h)(k:∀b u,h.get? b=some u->h'.get? b=some u):oI P w H h':=λa o e =>
 (x a o e).Vb (λb u _ q=>k b u q) (λ_ q=>q) λ_ _ q _=>q
def oI.laid(x:oI P w H h)(k:∀b u,h.get? b=some u->h'.get? b=some u)(hp:h.objs.size<=a)(new:eH P w (upd H a o) h' a o):oI P w (upd H a o) h':=λb u e=>by
 have hn:=x.fresh hp;by_cases hb:b=a
 ·subst hb;rw[aH] at e;cases e;exact new
 ·rw[aD hb] at e;exact (x b u e).Vb (λc v _ q=>k c v q) (λc q=>by rw[aD (aU q hn)];exact q) λc xs q _=>by rw[aD (aU q hn)];exact q
def Rd(H:Hp)(a:Addr)(u:HO):Prop:=H a=some u\/∃o,H a=some (.Vh o u)
def Rd.ok(r:Rd H a u)(x:oI P w H h):eH P w H h a u:=by
 rcases r with r|⟨o,r⟩
 ·exact x a u r
 ·let⟨_,q⟩:=x a _ r;exact q
def QB:Option HO->Prop
 | some (.lst _)=>True
 | some (.dK _)=>True
 | some (.dT _)=>True
 | some (.set _ _)=>True
 | some (.ins _ _ _)=>True
 | some (.ext _)=>True
 | _=>False
def oI.write(ok:oI P w H h)(mu:QB (H x))(he:e=x\/H e=some (.own x))(k:∀b u,b≠e->h.get? b=some u->h'.get? b=some u)(heo:∃u,h'.get? e=some u)
  (new:eH P w (upd H x o') h' x o'):oI P w (upd H x o') h':=λb u q=>by
 have aaZ:∀c y,H c=some (.own y)->c≠x:=λc y r z=>by subst z;rw[r] at mu;exact mu
 have adS:∀c u,H c=some u->TF u->c≠x:=λc u r hr z=>by subst z;rw[r] at mu;cases u<;>first|exact mu|exact hr
 by_cases hb:b=x
 ·subst hb;rw[aH] at q;cases q;exact new
 ·rw[aD hb] at q;by_cases ZQ:b=e
  ·have q':H b=some (.own x):=by
    rcases he with z|z
    ·exact absurd (ZQ.trans z) hb
    ·rw[ZQ];exact z
   rw[q] at q';cases q';let⟨v,hv⟩:=heo;exact⟨v,by rw[ZQ];exact hv⟩
  ·refine (ok b u q).Vb (λc v hc r=>k c v ?_ r) (λc r=>by rw[aD (aaZ c b r)];exact r) λc xs r hr=>by rw[aD (adS c xs r hr)];exact r
   rcases hc with rfl|hc
   ·exact ZQ
   ·rintro rfl;rcases he with z|z
    ·exact aaZ c b hc z
    ·rw[hc] at z;cases z;exact hb rfl
def RF:HO->Prop
 | .tab _=>True
 | .WR _=>True
 | _=>False
def RF.X8(h:RF u):¬ QB (some u):=by cases u<;>first|exactλz=>z|exact h.elim
structure MN(H H':Hp)(h h':Heap):Prop where
 st:∀b u,H b=some u->RF u->H' b=some u
 gr:∀b q ps,H b=some (.tab q)->h.get? b=some { cls:=.none,data:=.fields ps }->∃more:Array Value,h'.get? b=some { cls:=.none,data:=.fields (ps++more) }
def MN.kept(k:∀b u,(∃q,H b=some (.tab q))->h.get? b=some u->h'.get? b=some u)(st:∀b u,H b=some u->RF u->H' b=some u):MN H H' h h' :=
 ⟨st,λb q ps e z=>⟨#[],by rw[Array.append_empty];exact k b _ ⟨q,e⟩ z⟩⟩
def MN.trans(a:MN H H1 h h1)(b:MN H1 H2 h1 h2):MN H H2 h h2 :=
 ⟨λc u q t=>b.st c u (a.st c u q t) t,λc q ps e z=>by
  let⟨m1,z1⟩:=a.gr c q ps e z;let⟨m2,z2⟩:=b.gr c q _ (a.st c _ e trivial) z1;exact⟨m1++m2,by rw[z2,Array.append_assoc]⟩⟩
structure Un(fs ex:List Addr)(H H':Hp)(h h':Heap):Prop where
 keep:∀b o,h.get? b=some o->H b=none->b∉fs->b∉ex->h'.get? b=some o
 slot:∀b o,h.get? b=some o->H b=none->b∈fs->b∉ex->∃sl,h'.get? b=some { o with slots:=sl }
 free:∀b o,h.get? b=some o->H b=none->b∉ex->H' b=none
 there:∀b o,h.get? b=some o->b∉ex->∃o',h'.get? b=some o'
 Vs:∀b xs,H b=some (.tup xs)->H' b=some (.tup xs)
 Vk:∀b o u,H b=some (.Vh o u)->H' b=some (.Vh o u)
 Vc:MN H H' h h'
def Un.any(u:Un fs ex H H1 h h1)(q:h.get? b=some ob)(n:H b=none)(hx:b∉ex):∃sl,h1.get? b=some { ob with slots:=sl }:=by
 by_cases hb:b∈fs
 ·exact u.slot b ob q n hb hx
 ·exact⟨ob.slots,u.keep b ob q n hb hx⟩
def Un.kept(k:∀b u,h.get? b=some u->h'.get? b=some u):Un fs ex H H h h' :=
 ⟨λb ob q _ _ _=>k b ob q,λb ob q _ _ _=>⟨ob.slots,k b ob q⟩,λ_ _ _ n _=>n,λb ob q _=>⟨ob,k b ob q⟩,λ_ _ q=>q,λ_ _ _ q=>q,.kept (λb u _ e=>k b u e) λ_ _ e _=>e⟩
def Un.refl:Un fs ex H H h h:=Un.kept λ_ _ q=>q
def Un.laid(k:∀b u,h.get? b=some u->h'.get? b=some u)(hp:h.objs.size<=a)(hn:H a=none):Un fs ex H (upd H a o) h h' where
 keep:=λb u q _ _ _=>k b u q
 slot:=λb u q _ _ _=>⟨u.slots,k b u q⟩
 free:=λb u q n _=>by rw[aD (yS (zP (zY q) hp))];exact n
 there:=λb u q _=>⟨u,k b u q⟩
 Vs:=λb xs q=>by rw[aD (aU q hn)];exact q
 Vk:=λb u xs q=>by rw[aD (aU q hn)];exact q
 Vc:=.kept (λb u _ e=>k b u e) λb u q _=>by rw[aD (aU q hn)];exact q
def Un.write(mu:QB (H x))(he:e=x\/H e=some (.own x))(k:∀b u,b≠e->h.get? b=some u->h'.get? b=some u)(heo:∃u,h'.get? e=some u):Un fs ex H (upd H x o) h h':=by
 have hx:∀b,H b=none->b≠x:=λb n z=>by subst z;rw[n] at mu;exact mu
 have hb:∀b,H b=none->b≠e:=λb n z=>by
  subst z;rcases he with r|r
  ·exact hx b n r
  ·rw[n] at r;cases r
 have hm:∀b u,H b=some u->¬ QB (some u)->b≠x:=λb u q nm z=>by subst z;rw[q] at mu;exact nm mu
 refine⟨λb u q n _ _=>k b u (hb b n) q,λb u q n _ _=>⟨u.slots,k b u (hb b n) q⟩,λb u q n _=>by rw[aD (hx b n)];exact n,λb u q _=>?_,
  λb xs q=>by rw[aD (hm b _ q λz=>z)];exact q,λb u xs q=>by rw[aD (hm b _ q λz=>z)];exact q,.kept (λb u z e=>k b u (λr=>by subst r;rcases he with r|r<;>first|(subst r;rcases z with ⟨q,z⟩;rw[z] at mu;exact mu)|(rcases z with ⟨q,z⟩;rw[z] at r;cases r)) e) λb u q nm=>by rw[aD (hm b _ q (nm.X8))];exact q⟩
 by_cases ZQ:b=e
 ·subst ZQ;exact heo
 ·exact⟨u,k b u ZQ q⟩
def J6(h:Heap)(H:Hp):List Addr:=(List.range h.objs.size).filter λa=>(H a).isSome
def yc(h:Heap)(H:Hp):Heap:=W.hideAll h (J6 h H)
def ES(h:Heap)(H:Hp):(yc h H).objs.size=h.objs.size:=W.hideAll_size _ _
def HZ(e:h.get? b=some o)(n:H b=none):(yc h H).get? b=some o :=
 W.hideAll_get _ e λhm=>by
  have q:(H b).isSome=true:=(List.mem_filter.mp hm).2;rw[n] at q;simp at q
def Mt(e:(yc h H).get? b=some o):h.get? b=some o/\H b=none:=by
 have e':h.get? b=some o:=W.of_hideAll (J6 h H) e;refine⟨e',?_⟩;cases q:H b with
 | none=>rfl
 | some x =>
  have hm:b∈J6 h H:=List.mem_filter.mpr ⟨List.mem_range.mpr (zY e'),by simp[q]⟩;have z:(yc h H).get? b=none:=W.hideAll_none (J6 h H) hm;rw[z] at e;cases e
def RE(mg:Str->Option Value)(base:Heap):Prop:=∃bm o,mg "__builtins__"=some (.ref bm)/\bm≠builtinsNs/\bm≠mainGlobals/\base.get? bm=some o/\o.cls=.type "module"/\o.dict=some builtinsNs/\o.data=.plain
structure Mod(K:W.Frag)(mg:Str->Option Value)(base:Heap):Prop where
 XW:K.In base
 glob:base.Ns mainGlobals mg
 blt:∃mb,base.Ns builtinsNs mb/\∀x:Str,x≠"__name__"->mb x=bootBuiltins x
 nolimit:base.NoLimit
 bmd:RE mg base
structure Cx where
 prog:Program
 w:World
 K:W.Frag
 mg:Str->Option Value
 base:Heap
 A:Around
 N:List Str
 UG:Shared
 Uz:Hp
 env:Env
 outer:List Env
 stack:List Env
 ex:List Addr
 fn:Str->Bool
 calm:Bool
 pn:List (Addr×Obj)
 xe:Value->Shared->Prop
def iL(l:List Env):List Addr:=l.filterMap (·.frame)
abbrev Cx.fs(X:Cx):List Addr:=iL X.outer
def Kr(sc:Scope)(x:Str):Prop:=sc.names.lookup x=some .local \/ sc.names.lookup x=some .cell\/sc.names.lookup x=some .free
def Loc(sc:Scope)(x:Str):Prop:=sc.names.lookup x=some .local \/ sc.names.lookup x=some .cell
def Look(env:Env)(h:Heap)(m:Str->Option Value)(x:Str)(u:Value):Prop :=
 (env.kindOf x=some .local /\ m x=some u)\/((env.kindOf x=some .cell\/env.kindOf x=some .free)/\∃c,env.cells.lookup x=some c/\h.IsCell c (some u))
structure Cx.Ok(X:Cx):Prop where
 mod:Mod X.K X.mg X.base
 kind:X.env.scope.kind=.function
 glob:X.env.globals=mainGlobals
 blt:X.env.builtins=builtinsNs
 above:X.UG.heap.objs.size<=X.env.locals
 inj:∀x y c,X.env.cells.lookup x=some c->X.env.cells.lookup y=some c->x=y
 has:∀x,(X.env.kindOf x=some .cell\/X.env.kindOf x=some .free)->∃c,X.env.cells.lookup x=some c
 ZR:∀x c,X.fn x=true->X.env.cells.lookup x=some c->X.UG.heap.objs.size<=c
 hd:X.calm=true->X.A.handled=none
 frames:X.A.frames=some X.stack
 Xm:X.stack=X.outer\/(X.stack=X.env::X.outer/\X.env.frame=some X.env.locals)
 exf:∀b∈X.ex,b≠X.env.locals/\∀x c,X.env.cells.lookup x=some c->c≠b
 bs:∀b o,X.base.get? b=some o->X.UG.heap.get? b=some o/\X.Uz b=none
 Xn:X.base.objs.size<=X.UG.heap.objs.size
 Wf:∀b o,X.base.get? b=some o->b∉X.ex
 Wu:∀b∈X.ex,b∉X.fs
 Vl:X.UG.heap.FunFrames X.base X.outer
 X9:∀b∈X.fs,X.Uz b=none
structure Inv(X:Cx)(pins:List (Addr×Obj))(σ:List (Option V))(H:Hp)(s:Shared):Prop where
 ok:X.Ok
 os:s.os=X.UG.os
 bare:AllBare s.gens
 base:Un X.fs X.ex X.Uz H X.UG.heap s.heap
 loc:∃m,s.heap.Ns X.env.locals m/\∀ (i:Nat) (x:Str) (v:V),X.N[i]?=some x->σ[i]?=some (some v)->Kr X.env.scope x->∃u,RelV v u/\Look X.env s.heap m x u
 cell:∀x c,X.env.cells.lookup x=some c->∃v,s.heap.IsCell c v
 free:H X.env.locals=none
 UH:∀x c,X.env.cells.lookup x=some c->H c=none
 pin:∀p∈X.pn++pins,s.heap.get? p.1=some p.2/\H p.1=none/\p.1≠X.env.locals/\p.1∉X.fs/\∀v,p.2.data≠.cell v
 UC:oI X.prog X.w H s.heap
 len:σ.length=X.N.length
def Cx.Ok.adT{X:Cx}(ok:X.Ok)(e:X.base.get? b=some o):b∉X.fs:=λhb=>by
 have:=(ok.Vl.mem hb).1;rw[e] at this;cases this
def Inv.bs{X:Cx}{s:Shared}(I:Inv X pins σ H s):∀b o,X.base.get? b=some o->s.heap.get? b=some o/\H b=none:=λb o e =>
 ⟨I.base.keep b o (I.ok.bs b o e).1 (I.ok.bs b o e).2 (I.ok.adT e) (I.ok.Wf b o e),I.base.free b o (I.ok.bs b o e).1 (I.ok.bs b o e).2 (I.ok.Wf b o e)⟩
def Inv.bk(I:Inv X pins σ H s):∀b o,X.base.get? b=some o->s.heap.get? b=some o:=λb o e=>(I.bs b o e).1
def Inv.mod(I:Inv X pins σ H s):Mod X.K X.mg X.base:=I.ok.mod
def Inv.V6(I:Inv X pins σ H s):X.K.In s.heap:=I.ok.mod.XW.keeps I.bk
def Inv.nolimit(I:Inv X pins σ H s):s.heap.NoLimit:=I.ok.mod.nolimit.keeps I.bk
def Inv.lt(I:Inv X pins σ H s):X.env.locals < s.heap.objs.size:=let ⟨_,hn,_⟩:=I.loc;hn.lt
def Inv.sz(I:Inv X pins σ H s):X.UG.heap.objs.size<=s.heap.objs.size:=yD I.ok.above (jV I.lt)
def Inv.adU(I:Inv X pins σ H s)(h:s.heap.objs.size<=a):a∉X.fs:=λhb=>by
 let⟨_,o,ho,_⟩:=I.ok.Vl.mem hb;exact absurd (zP (zY ho) (yD I.sz h)) (qG _)
def Inv.YD(I:Inv X pins σ H s):∀x c,X.env.cells.lookup x=some c->c≠X.env.locals:=λx c e z=>by
 let⟨v,o,ho,hd⟩:=I.cell x c e;let⟨m,⟨o',es,ep,VX,Yb,_⟩,_⟩:=I.loc;rw[z,VX] at ho;cases ho;rw[Yb] at hd;cases hd
def Inv.Vl(I:Inv X pins σ H s):s.heap.FunFrames X.base X.outer:=by
 have all:∀ (l:List Env),(∀b∈iL l,b∈X.fs)->X.UG.heap.FunFrames X.base l->s.heap.FunFrames X.base l:=by
  intro l
  induction l with
  | nil=>intro _ _;trivial
  | cons env r ih =>
   intro hs hl;let⟨hk,⟨L,o,hf,hn,ho,hd⟩,hr⟩:=hl;have hL:L∈X.fs:=hs L (by unfold iL;rw[jI,hf];exact zE);let⟨sl,e⟩:=I.base.slot L o ho (I.ok.X9 L hL) hL λz=>I.ok.Wu L z hL;exact⟨hk,⟨L,_,hf,hn,e,hd⟩,ih (λb hb=>hs b (by unfold iL;rw[jI,hf];exact zC _ hb)) hr⟩
 exact all X.outer (λ_ hb=>hb) I.ok.Vl
def Inv.stack(I:Inv X pins σ H s):s.heap.FunFrames X.base X.stack:=by
 rcases I.ok.Xm with e|⟨e,hf⟩
 ·rw[e];exact I.Vl
 ·rw[e];let⟨m,hn,_⟩:=I.loc;refine .cons (by rw[I.ok.kind];decide) hf hn ?_ I.Vl;exact Heap.get?_none_of_le (yD I.ok.Xn I.ok.above)
def Inv.Wv(I:Inv X pins σ H s):∀b∈iL X.stack,b∈X.env.locals::X.fs:=λb hb=>by
 rcases I.ok.Xm with e|⟨e,hf⟩
 ·rw[e] at hb;exact zC _ hb
 ·rw[e] at hb;unfold iL at hb;rw[jI,hf] at hb;exact hb
def Inv.Vm(I:Inv X pins σ H s):∀b∈iL X.stack,H b=none:=λb hb=>by
 rcases List.mem_cons.mp (I.Wv b hb) with e|hb
 ·rw[e];exact I.free
 ·let⟨_,o,ho,_⟩:=I.ok.Vl.mem hb;exact I.base.free b o ho (I.ok.X9 b hb) λz=>I.ok.Wu b z hb
def Inv.step{g':Array GenState}{t':Nat}{d':Drawn}{ch:List Addr}(I:Inv X pins σ H s)
  (Wc:∀b∈ch,(b∈X.ex\/X.UG.heap.objs.size<=b)/\b≠X.env.locals/\(∀x c,X.env.cells.lookup x=some c->c≠b)/\∀p∈X.pn++pins,p.1≠b)
  (keep:∀b o,b≠X.env.locals->b∉X.fs->b∉ch->s.heap.get? b=some o->H b=none->h'.get? b=some o)
  (slot:∀b o,b≠X.env.locals->b∈X.fs->b∉ch->s.heap.get? b=some o->H b=none->∃sl,h'.get? b=some { o with slots:=sl }) (free:∀b o,b∉ch->s.heap.get? b=some o->H b=none->H' b=none)
  (there:∀b o,b∉ch->s.heap.get? b=some o->∃o',h'.get? b=some o')
  (Vs:∀b xs,H b=some (.tup xs)->H' b=some (.tup xs)) (Vk:∀b o u,H b=some (.Vh o u)->H' b=some (.Vh o u)) (Vc:MN H H' s.heap h')
  (ns:∀m,s.heap.Ns X.env.locals m->h'.Ns X.env.locals m) (UC:oI X.prog X.w H' h') (hg:AllBare g') :
  Inv X pins σ H' { s with heap:=h',gens:=g',drawn:=d',toks:=t' }:=by
 have Yc:∀b o,X.UG.heap.get? b=some o->b≠X.env.locals:=λb o e=>yS (zP (zY e) I.ok.above);have neC:∀b o,X.UG.heap.get? b=some o->b∉X.ex->b∉ch:=λb o e hx hb=>by
  rcases (Wc b hb).1 with z|z
  ·exact hx z
  ·exact absurd (zP (zY e) z) (qG _)
 have cellK:∀x c,X.env.cells.lookup x=some c->∀v,s.heap.IsCell c v->h'.IsCell c v:=λx c e v ⟨o,ho,hd⟩=>by
  have W4:c∉ch:=λz=>(Wc c z).2.2.1 x c e rfl;by_cases hc:c∈X.fs
  ·let⟨sl,q⟩:=slot c o (I.YD x c e) hc W4 ho (I.UH x c e);exact⟨_,q,hd⟩
  ·exact⟨o,keep c o (I.YD x c e) hc W4 ho (I.UH x c e),hd⟩
 refine⟨I.ok,I.os,hg,⟨λb o e n hb hx=>?_,λb o e n hb hx=>?_,λb o e n hx=>?_,λb o e hx=>?_,λb xs e=>Vs b xs (I.base.Vs b xs e),λb o xs e=>Vk b o xs (I.base.Vk b o xs e),I.base.Vc.trans Vc⟩,?_,λx c e=>?_,?_,λx c e=>?_,λp hp=>?_,UC,I.len⟩
 ·exact keep b o (Yc b o e) hb (neC b o e hx) (I.base.keep b o e n hb hx) (I.base.free b o e n hx)
 ·let⟨sl,e1⟩:=I.base.slot b o e n hb hx;let⟨sl',e2⟩:=slot b _ (Yc b o e) hb (neC b o e hx) e1 (I.base.free b o e n hx);exact⟨sl',e2⟩
 ·let⟨o',e1⟩:=I.base.there b o e hx;exact free b o' (neC b o e hx) e1 (I.base.free b o e n hx)
 ·let⟨o',e1⟩:=I.base.there b o e hx;exact there b o' (neC b o e hx) e1
 ·let⟨m,hn,hl⟩:=I.loc;refine⟨m,ns m hn,λi x v e1 e2 e3=>?_⟩;let⟨u,r,l⟩:=hl i x v e1 e2 e3;refine⟨u,r,?_⟩;rcases l with l|⟨k,c,e,z⟩
  ·exact .inl l
  ·exact .inr ⟨k,c,e,cellK x c e _ z⟩
 ·let⟨v,z⟩:=I.cell x c e;exact⟨v,cellK x c e v z⟩
 ·let⟨m,⟨o,_,_,ho,_⟩,_⟩:=I.loc;exact free _ o (λz=>(Wc _ z).2.1 rfl) ho I.free
 ·let⟨v,o,ho,hd⟩:=I.cell x c e;exact free c o (λz=>(Wc c z).2.2.1 x c e rfl) ho (I.UH x c e)
 ·let⟨e,n,ne,nf,d⟩:=I.pin p hp;have W4:p.1∉ch:=λz=>(Wc p.1 z).2.2.2 p hp rfl;exact⟨keep p.1 p.2 ne nf W4 e n,free p.1 p.2 W4 e n,ne,nf,d⟩
def Inv.un{t':Nat}(I:Inv X pins σ H s)(u:Un X.fs [] H H' s.heap h')(UC:oI X.prog X.w H' h'):Inv X pins σ H' { s with heap:=h',toks:=t' }:=by
 let⟨m,⟨o,es,ep,ho,r⟩,_⟩:=id I.loc;let⟨sl,hL⟩:=u.any ho I.free (by simp);exact I.step (g':=s.gens) (d':=s.drawn) (ch:=[]) (λ_ z=>nomatch z) (λb o _ hb _ e n=>u.keep b o e n hb (by simp)) (λb o _ hb _ e n=>u.slot b o e n hb (by simp)) (λb o _ e n=>u.free b o e n (by simp)) (λb o _ e=>u.there b o e (by simp)) u.Vs u.Vk u.Vc (λm' hm=>by
  let⟨o',es',ep',VX,r'⟩:=hm;rw[ho] at VX;cases VX;exact⟨_,es',ep',hL,r'⟩) UC I.bare
def Inv.call{t':Nat}{d':Drawn}{ch:List Addr}(I:Inv X pins σ H s)(u:Un (iL X.stack) ch H H' s.heap h')(UC:oI X.prog X.w H' h')(hg:AllBare g')
  (Wc:∀b∈ch,(b∈X.ex\/X.UG.heap.objs.size<=b)/\b≠X.env.locals/\(∀x c,X.env.cells.lookup x=some c->c≠b)/\∀p∈X.pn++pins,p.1≠b) :
  Inv X pins σ H' { s with heap:=h',gens:=g',drawn:=d',toks:=t' }:=by
 let⟨m,⟨o,es,ep,ho,r⟩,_⟩:=id I.loc;let⟨sl,hL⟩:=u.any ho I.free λz=>(Wc _ z).2.1 rfl;exact I.step (ch:=ch) Wc (λb o hL hb hc e n=>u.keep b o e n (λz=>(List.mem_cons.mp (I.Wv b z)).elim hL hb) hc) (λb o _ _ hc e n=>u.any e n hc) (λb o hc e n=>u.free b o e n hc) (λb o hc e=>u.there b o e hc) u.Vs u.Vk u.Vc (λm' hm=>by
  let⟨o',es',ep',VX,r'⟩:=hm;rw[ho] at VX;cases VX;exact⟨_,es',ep',hL,r'⟩) UC hg
def Inv.turned{t':Nat}(I:Inv X pins σ H s)(k:∀b o,b≠it->s.heap.get? b=some o->h'.get? b=some o)(hn:H it=none)(hL:it≠X.env.locals)
  (h1:it∈X.ex\/X.UG.heap.objs.size<=it) (h2:∀x c,X.env.cells.lookup x=some c->c≠it) (h3:∀p∈X.pn++pins,p.1≠it):Inv X pins σ H { s with heap:=h',toks:=t' }:=by
 have nit:∀b u,H b=some u->b≠it:=λb u e z=>by rw[z,hn] at e;cases e
 refine I.step (g':=s.gens) (d':=s.drawn) (ch:=[it]) (λb hb=>?_) (λb o _ _ hc e _=>k b o (λz=>hc (by simp[z])) e) (λb o _ _ hc e _=>⟨o.slots,k b o (λz=>hc (by simp[z])) e⟩) (λ_ _ _ _ n=>n)
  (λb o hc e=>⟨o,k b o (λz=>hc (by simp[z])) e⟩) (λ_ _ e=>e) (λ_ _ _ e=>e) (.kept (λb u z e=>k b u (λr=>by subst r;rcases z with ⟨q,z⟩;rw[hn] at z;cases z) e) λ_ _ e _=>e) (λm hm=>?_) (λb u e=>?_) I.bare
 ·have e:b=it:=by simpa using hb
  subst e;exact⟨h1,hL,h2,h3⟩
 ·let⟨o,es,ep,ho,r⟩:=hm;exact⟨o,es,ep,k _ o (jP hL) ho,r⟩
 ·refine (I.UC b u e).Vb (λc v hc q=>k c v ?_ q) (λ_ q=>q) λ_ _ q _=>q;rcases hc with z|z
  ·rw[z];exact nit b u e
  ·exact nit c _ z
def Inv.tok(I:Inv X pins σ H s)(t:Nat):Inv X pins σ H { s with toks:=t }:=I.un (h':=s.heap) (t':=t) Un.refl I.UC
def Inv.kept{t':Nat}(I:Inv X pins σ H s)(k:∀b u,s.heap.get? b=some u->h'.get? b=some u):Inv X pins σ H { s with heap:=h',toks:=t' }:=I.un (Un.kept k) (I.UC.kept k)
def Inv.laid{t':Nat}(I:Inv X pins σ H s)(k:∀b u,s.heap.get? b=some u->h'.get? b=some u)(hp:s.heap.objs.size<=a)(new:eH X.prog X.w (upd H a o) h' a o) :
  Inv X pins σ (upd H a o) { s with heap:=h',toks:=t' }:=I.un (Un.laid k hp (I.UC.fresh hp)) (I.UC.laid k hp new)
def Inv.write{t':Nat}(I:Inv X pins σ H s)(mu:QB (H x))(he:e=x\/H e=some (.own x))(k:∀b u,b≠e->s.heap.get? b=some u->h'.get? b=some u)(heo:∃u,h'.get? e=some u)
  (new:eH X.prog X.w (upd H x o) h' x o):Inv X pins σ (upd H x o) { s with heap:=h',toks:=t' }:=I.un (Un.write mu he k heo) (I.UC.write mu he k heo new)
def Inv.V7(I:Inv X pins σ H s)(h:∀p∈pins',s.heap.get? p.1=some p.2/\H p.1=none/\p.1≠X.env.locals/\p.1∉X.fs/\∀v,p.2.data≠.cell v):Inv X pins' σ H s :=
 ⟨I.ok,I.os,I.bare,I.base,I.loc,I.cell,I.free,I.UH,λp hp=>(List.mem_append.mp hp).elim (λz=>I.pin p (qL _ z)) (h p),I.UC,I.len⟩
def zz{N:List Str}(hN:N.Nodup){i j:Nat}(a:N[i]?=some x)(b:N[j]?=some x):i=j:=by
 let⟨h1,e1⟩:=List.getElem?_eq_some_iff.mp a;let⟨h2,e2⟩:=List.getElem?_eq_some_iff.mp b;exact (List.getElem_inj hN).mp (e1.trans e2.symm)
def o8{M:Model}{A:Around}{E:Value->Shared->Prop}{i:Nat}{Q:Unit->Shared->Prop}(I:Inv X pins σ H s)(hN:X.N.Nodup)(hi:X.N[i]?=some x)(hx:Loc X.env.scope x)(r:RelV v u)
  (h:∀s',Inv X pins (σ.set i (some v)) H s'->(∃a,Heap.SameBut a s.heap s'.heap/\(a=X.env.locals\/X.env.cells.lookup x=some a))->Q () s') (hf:X.fn x=true\/X.env.scope.names.lookup x=some .local:=by first|exact .inl rfl|exact .inr rfl|assumption):wpAny M A (storeName X.env x u) Q E s:=by
 let⟨m,hn,hl⟩:=id I.loc;have Wg:(X.env.scope.kind == .class||(X.env.scope.kind == .module&&X.env.locals != X.env.globals))=false:=by rw[I.ok.kind];rfl
 have aa0:i < σ.length:=by rw[I.len];exact (List.getElem?_eq_some_iff.mp hi).1
 have YD:=I.YD;have tracked:∀ {a:Addr}{h':Heap},(∃o,s.heap.get? a=some o/\H a=none)->Heap.SameBut a s.heap h'->oI X.prog X.w H h':=λ{a h'} ha hs b ob e=>by
  let⟨_,_,Vn⟩:=ha;refine (I.UC b ob e).Vb (λc w' hc q=>(hs.2 c ?_).trans q) (λ_ q=>q) λ_ _ q _=>q;rintro rfl;rcases hc with rfl|hc
  ·rw[Vn] at e;cases e
  ·rw[Vn] at hc;cases hc
 rcases hx with hk|hk
 ·refine wpAny_storeName_local hk hn (λh' hn' hs=>?_) Wg;let⟨oL,_,_,hoL,_⟩:=id hn;refine h _ ⟨I.ok,I.os,I.bare,⟨λb o e n hb hx=>?_,λb o e n hb hx=>?_,I.base.free,λb o e hx=>?_,I.base.Vs,I.base.Vk,I.base.Vc.trans (.kept (λb u z e=>(hs.2 b (λr=>by rcases z with ⟨q,z⟩;rw[r,I.free] at z;cases z)).trans e) λ_ _ e _=>e)⟩,⟨_,hn',λj y v' e1 e2 e3=>?_⟩,λy c e=>?_,I.free,I.UH,λp hp=>?_,tracked ⟨oL,hoL,I.free⟩ hs,by simpa using I.len⟩ ⟨_,hs,.inl rfl⟩
  ·exact (hs.2 b (yS (zP (zY e) I.ok.above))).trans (I.base.keep b o e n hb hx)
  ·let⟨sl,e1⟩:=I.base.slot b o e n hb hx;exact⟨sl,(hs.2 b (yS (zP (zY e) I.ok.above))).trans e1⟩
  ·let⟨o',e1⟩:=I.base.there b o e hx;exact⟨o',(hs.2 b (yS (zP (zY e) I.ok.above))).trans e1⟩
  ·by_cases hj:j=i
   ·subst hj;rw[hi] at e1;cases e1;rw[vZ aa0] at e2;cases e2;exact⟨u,r,.inl ⟨hk,by simp⟩⟩
   ·rw[vC (jP hj)] at e2;let⟨u',r',q⟩:=hl j y v' e1 e2 e3;refine⟨u',r',?_⟩;rcases q with ⟨k,e⟩|⟨k,c,e,z⟩
    ·refine .inl ⟨k,?_⟩;have:y≠x:=λe=>hj (zz hN e1 (e ▸ hi));simp[this,e]
    ·exact .inr ⟨k,c,e,z.sameBut hs (YD y c e)⟩
  ·let⟨w',z⟩:=I.cell y c e;exact⟨w',z.sameBut hs (YD y c e)⟩
  ·let⟨e,n,ne,nf,d⟩:=I.pin p hp;exact⟨(hs.2 p.1 ne).trans e,n,ne,nf,d⟩
 ·have Xo:X.fn x=true:=by
   rcases hf with z|z
   ·exact z
   ·rw[z] at hk;cases hk
  let⟨c,hc⟩:=I.ok.has x (.inl hk);let⟨w',z⟩:=I.cell x c hc;refine wpAny_storeName_cell I.ok.kind hk hc z (λh' VF hs=>?_);let⟨oc,hoc,adX⟩:=id z;refine h { s with heap:=h' } ⟨I.ok,I.os,I.bare,⟨λb o e n hb hx=>?_,λb o e n hb hx=>?_,I.base.free,λb o e hx=>?_,I.base.Vs,I.base.Vk,I.base.Vc.trans (.kept (λb u z e=>(hs.2 b (λr=>by rcases z with ⟨q,z⟩;rw[r,I.UH x c hc] at z;cases z)).trans e) λ_ _ e _=>e)⟩,⟨m,hn.sameBut hs (jP (YD x c hc)),λj y v' e1 e2 e3=>?_⟩,λy c' e=>?_,I.free,I.UH,λp hp=>?_,tracked ⟨oc,hoc,I.UH x c hc⟩ hs,by simpa using I.len⟩ ⟨c,hs,.inr hc⟩
  ·exact (hs.2 b (yS (zP (zY e) (I.ok.ZR x c Xo hc)))).trans (I.base.keep b o e n hb hx)
  ·let⟨sl,e1⟩:=I.base.slot b o e n hb hx;exact⟨sl,(hs.2 b (yS (zP (zY e) (I.ok.ZR x c Xo hc)))).trans e1⟩
  ·let⟨o',e1⟩:=I.base.there b o e hx;exact⟨o',(hs.2 b (yS (zP (zY e) (I.ok.ZR x c Xo hc)))).trans e1⟩
  ·by_cases hj:j=i
   ·subst hj;rw[hi] at e1;cases e1;rw[vZ aa0] at e2;cases e2;exact⟨u,r,.inr ⟨.inl hk,c,hc,VF⟩⟩
   ·rw[vC (jP hj)] at e2;let⟨u',r',q⟩:=hl j y v' e1 e2 e3;refine⟨u',r',?_⟩;rcases q with q|⟨k,c',e,z'⟩
    ·exact .inl q
    ·refine .inr ⟨k,c',e,z'.sameBut hs ?_⟩;rintro rfl;exact hj (zz hN e1 (I.ok.inj _ _ _ e hc ▸ hi))
  ·by_cases hcc:c'=c
   ·subst hcc;exact⟨_,VF⟩
   ·let⟨w2,z2⟩:=I.cell y c' e;exact⟨w2,z2.sameBut hs hcc⟩
  ·let⟨e,n,ne,nf,d⟩:=I.pin p hp;refine⟨(hs.2 p.1 ?_).trans e,n,ne,nf,d⟩;intro q;rw[q,hoc] at e;have q':oc=p.2:=xE e;exact d w' (by rw[<- q'];exact adX)
def AO{M:Model}{A:Around}{E:Value->Shared->Prop}(I:Inv X pins σ H s)(hN:X.N.Nodup)(hi:X.N[i]?=some x)(hx:Loc X.env.scope x)(r:RelV v u)
  (h:∀s',Inv X pins (σ.set i (some v)) H s'->Q () s') (hf:X.fn x=true\/X.env.scope.names.lookup x=some .local:=by first|exact .inl rfl|exact .inr rfl|assumption):wpAny M A (storeName X.env x u) Q E s :=
 o8 I hN hi hx r (λs' I' _=>h s' I') hf
def Inv.Xp{ch:List Addr}(I:Inv X pins σ H s)(ho:s'.os=s.os)(u:Un (iL X.stack) ch H H' s.heap s'.heap)(UC:oI X.prog X.w H' s'.heap)(hg:AllBare s'.gens)
  (Wc:∀b∈ch,(b∈X.ex\/X.UG.heap.objs.size<=b)/\b≠X.env.locals/\(∀x c,X.env.cells.lookup x=some c->c≠b)/\∀p∈X.pn++pins,p.1≠b):Inv X pins σ H' s':=by
 let⟨h',g',d',t',o'⟩:=s';have e:o'=s.os:=ho;subst e;exact I.call (g':=g') (t':=t') (d':=d') u UC hg Wc
abbrev XK:=Value->Option Addr->Hp->Prop
abbrev St:=List (Option V)
abbrev VK:=V->Hp->Prop
abbrev TE:=St->Hp->VK->Prop
abbrev TT:=St->Hp->(Bool->Hp->Prop)->Prop
abbrev TA:=St->Hp->(List V->Hp->Prop)->Prop
structure Ends where
 nx:St->Hp->Prop
 rt:VK
 bk:St->Hp->Prop:=λ_ _=>False
 ct:St->Hp->Prop:=λ_ _=>False
abbrev TS:=Ends->St->Hp->Prop
def EP(X:Cx)(pins:List (Addr×Obj))(σ:St)(Q:VK)(u:Value)(s':Shared):Prop:=∃v H',Inv X pins σ H' s'/\RelV v u/\Q v H'
def TP(X:Cx)(pins:List (Addr×Obj))(σ:St)(Q:Bool->Hp->Prop)(b:Bool)(s':Shared):Prop:=∃H',Inv X pins σ H' s'/\Q b H'
def AP(X:Cx)(pins:List (Addr×Obj))(σ:St)(Q:List V->Hp->Prop)(us:List Value)(s':Shared):Prop:=∃vs H',Inv X pins σ H' s'/\aN vs us/\Q vs H'
def SP(X:Cx)(pins:List (Addr×Obj))(D:Ends)(f:Flow)(s':Shared):Prop :=
 match f with
 | .next=>∃σ' H',Inv X pins σ' H' s'/\D.nx σ' H'
 | .brk=>∃σ' H',Inv X pins σ' H' s'/\D.bk σ' H'
 | .cont=>∃σ' H',Inv X pins σ' H' s'/\D.ct σ' H'
 | .ret u=>∃v σ' H',Inv X pins σ' H' s'/\RelV v u/\D.rt v H'
def PE(X:Cx)(e:Expr)(t:TE):Prop :=
 ∀ (pins:List (Addr×Obj)) (s:Shared) (σ:St) (H:Hp) (Q:VK),Inv X pins σ H s->t σ H Q->wpAny (model X.prog X.w) X.A (eval e X.env) (EP X pins σ Q) X.xe s
def PT(X:Cx)(e:Expr)(t:TT):Prop :=
 ∀ (pins:List (Addr×Obj)) (s:Shared) (σ:St) (H:Hp) (Q:Bool->Hp->Prop),Inv X pins σ H s->t σ H Q->wpAny (model X.prog X.w) X.A (isTrue e X.env (eval e X.env)) (TP X pins σ Q) X.xe s
def PW(X:Cx)(e:Expr)(t:TT):Prop :=
 ∀ (whole:Sem Value) (pins:List (Addr×Obj)) (s:Shared) (σ:St) (H:Hp) (Q:Bool->Hp->Prop),Inv X pins σ H s->t σ H Q->wpAny (model X.prog X.w) X.A (isTrue e X.env whole) (TP X pins σ Q) X.xe s
def PW.pt(h:PW X e t):PT X e t:=h _
def PA(X:Cx)(es:List Expr)(t:TA):Prop :=
 ∀ (pos:Pos) (pins:List (Addr×Obj)) (s:Shared) (σ:St) (H:Hp) (Q:List V->Hp->Prop),Inv X pins σ H s->t σ H Q->wpAny (model X.prog X.w) X.A (spliced (backTo pos (starEach es X.env))) (AP X pins σ Q) X.xe s
def PS(X:Cx)(st:Stmt)(t:TS):Prop :=
 ∀ (pins:List (Addr×Obj)) (s:Shared) (σ:St) (H:Hp) (D:Ends),Inv X pins σ H s->t D σ H->wpAny (model X.prog X.w) X.A (exec st X.env) (SP X pins D) X.xe s
def za(X:Cx)(st:List Stmt)(t:TS):Prop :=
 ∀ (pins:List (Addr×Obj)) (s:Shared) (σ:St) (H:Hp) (D:Ends),Inv X pins σ H s->t D σ H->wpAny (model X.prog X.w) X.A (execs st X.env) (SP X pins D) X.xe s
def ck(h:wpAny M A t Q E s)(hQ:∀a s,Q a s->Q' a s):wpAny M A t Q' E s:=xB h hQ λ_ _ x=>x
section
def S3(i:Nat):TE:=λσ H Q=>∃v,σ[i]?=some (some v)/\Q v H
def tC(v:V):TE:=λ_ H Q=>Q v H
def ll(hN:X.N[i]?=some x)(hv:Kr X.env.scope x)(hd:(x == ("__debug__":Str))=false:=by decide)(Vd:(x == ("__classdict__":Str))=false:=by decide):PE X (.Name x pos) (S3 i):=by
 intro pins s σ H Q I h;let⟨v,e,h⟩:=h;let⟨m,hn,hl⟩:=I.loc;let⟨u,r,l⟩:=hl i x v hN e hv;have fin:EP X pins σ Q u s:=⟨v,H,I,r,h⟩
 rcases l with ⟨hk,hm⟩|⟨hk,c,hc,YE⟩
 ·exact Zb (wR I.ok.kind hk hn hm fin) hd
 ·rcases hk with hk|hk
  ·exact Zb (wpAny_loadName_cell I.ok.kind hk hc YE fin) hd
  ·exact Zb (wpAny_loadName_free I.ok.kind hk hc YE fin Vd) hd
def JL{i j pos}:PE X (.Constant (.int i) j pos) (tC (.int i)):=λ_ _ _ H _ I h=>wpAny_Constant_int ⟨.int i,H,I.tok _,⟨_,rfl⟩,h⟩
def IJ{b j pos}:PE X (.Constant (.bool b) j pos) (tC (.bl b)):=λ_ _ _ H _ I h=>Constant_bool ⟨.bl b,H,I,rfl,h⟩
def OH{j pos}:PE X (.Constant .none j pos) (tC .Ux):=λ_ _ _ H _ I h=>Constant_none ⟨.Ux,H,I,rfl,h⟩
def Ij{x j pos}:PE X (.Constant (.str x) j pos) (tC (.str x)):=λ_ _ _ H _ I h=>Zi ⟨.str x,H,I.tok _,⟨_,rfl⟩,h⟩
def Gl(X:Cx)(x:Str):Prop:=X.env.kindOf x=some .globalImplicit
def me{E:Value->Shared->Prop}{pos:Pos}(I:Inv X pins σ H s)(hg:Gl X x)(hm:X.mg x=some u)(h:Q u s)
  (hd:(x == ("__debug__":Str))=false:=by decide):wpAny (model X.prog X.w) X.A (eval (.Name x pos) X.env) Q E s :=
 Calls.Name_function_global I.ok.kind hg (Calls.loadGlobal_global (by rw[I.ok.glob];exact I.mod.glob.keeps I.bk) hm h) hd
def fZ{E:Value->Shared->Prop}{pos:Pos}(I:Inv X pins σ H s)(hg:Gl X x)(hm:X.mg x=none)(hv:bootBuiltins x=some u)(h:Q u s)
  (hn:x≠"__name__":=by decide) (hd:(x == ("__debug__":Str))=false:=by decide):wpAny (model X.prog X.w) X.A (eval (.Name x pos) X.env) Q E s:=by
 let⟨mb,h1,h2⟩:=I.mod.blt;exact Calls.Name_function_global I.ok.kind hg (Calls.loadGlobal_builtin (by rw[I.ok.glob];exact I.mod.glob.keeps I.bk) hm (by rw[I.ok.blt];exact h1.keeps I.bk) ((h2 x hn).trans hv) h) hd
def Er(hg:Gl X x)(hm:X.mg x=some u)(r:RelV v u)(hd:(x == ("__debug__":Str))=false:=by decide):PE X (.Name x pos) (tC v) :=
 λ_ _ _ H _ I h=>me I hg hm ⟨v,H,I,r,h⟩ hd
def K9(hg:Gl X x)(hm:X.mg x=none)(hv:bootBuiltins x=some u)(r:RelV v u)(hn:x≠"__name__":=by decide)(hd:(x == ("__debug__":Str))=false:=by decide):PE X (.Name x pos) (tC v) :=
 λ_ _ _ H _ I h=>fZ I hg hm hv ⟨v,H,I,r,h⟩ hn hd
def Bj(b:Expr)(h:op≠.In)(h2:op≠.NotIn):behindInMarks op b=false:=by
 have e1:(op == CmpOp.In)=false:=by cases op<;>first|rfl|exact absurd rfl h
 have e2:(op == CmpOp.NotIn)=false:=by cases op<;>first|rfl|exact absurd rfl h2
 cases b<;>simp[behindInMarks,e1,e2]
def tB(t:TE):TT:=λσ H Q=>t σ H λx H1=>∃c,x=.bl c/\Q c H1
def Jr(h:PE X e t)(he:∀whole,isTrue e X.env whole=(do let v <- whole;standAt e.pos;holding [v] (truthy v)):=by intro _;rfl):PT X e (tB t):=by
 intro pins s σ H Q I hw;refine isTrue_plain (ck (h pins s σ H _ I hw) λv s1 ⟨x,H1,I1,r1,q1⟩=>?_) (he _);let⟨d,rfl,q⟩:=q1;cases r1;exact xY ⟨H1,I1,q⟩
variable {rest:List Expr}
def RL(t u:TT):TT:=λσ H Q=>t σ H λc H1=>if c=true then u σ H1 Q else Q false H1
def TQ(t u:TT):TT:=λσ H Q=>t σ H λc H1=>if c=true then Q true H1 else u σ H1 Q
def S6(t:TT):TT:=λσ H Q=>t σ H λc H1=>Q (!c) H1
def Lv(ha:PT X a tA):PW X (.BoolOp .And [a] pos) tA:=by
 intro wh pins s σ H Q I h;refine isTrue_and (ck (ha pins s σ H Q I h) λc s1 e=>?_);cases c with
 | true=>exact isTrue_and_nil e
 | false=>exact e
def HS(ha:PT X a tA):PW X (.BoolOp .Or [a] pos) tA:=by
 intro wh pins s σ H Q I h;refine isTrue_or (ck (ha pins s σ H Q I h) λc s1 e=>?_);cases c with
 | false=>exact isTrue_or_nil e
 | true=>exact e
def Oe(ha:PT X a tA)(hb:PW X (.BoolOp .And (b::rest) pos) tB'):PW X (.BoolOp .And (a::b::rest) pos) (RL tA tB'):=by
 intro wh pins s σ H Q I h;refine isTrue_and (ck (ha pins s σ H _ I h) λc s1 ⟨H1,I1,q1⟩=>?_);cases c with
 | true=>exact hb wh pins s1 σ H1 Q I1 q1
 | false=>exact⟨H1,I1,q1⟩
def MR(ha:PT X a tA)(hb:PW X (.BoolOp .Or (b::rest) pos) tB'):PW X (.BoolOp .Or (a::b::rest) pos) (TQ tA tB'):=by
 intro wh pins s σ H Q I h;refine isTrue_or (ck (ha pins s σ H _ I h) λc s1 ⟨H1,I1,q1⟩=>?_);cases c with
 | true=>exact⟨H1,I1,q1⟩
 | false=>exact hb wh pins s1 σ H1 Q I1 q1
def G8(ha:PT X a tA):PT X (.UnaryOp .Not a pos) (S6 tA):=by
 intro pins s σ H Q I h;exact isTrue_not (ha pins s σ H (λc H1=>Q (!c) H1) I h)
def Qn(ta tb:TE):TE:=λσ H Q=>ta σ H λx H1=>∃c,x=.bl c/\if c=true then tb σ H1 Q else Q (.bl false) H1
def SM(ta tb:TE):TE:=λσ H Q=>ta σ H λx H1=>∃c,x=.bl c/\if c=true then Q (.bl true) H1 else tb σ H1 Q
def N0{op}(h:PE X a t):PE X (.BoolOp op [a] pos) t:=λpins s σ H Q I hw=>BoolOp_one (h pins s σ H Q I hw)
def Na(ha:PE X a ta)(hb:PE X (.BoolOp .And (b::rest) pos) tb):PE X (.BoolOp .And (a::b::rest) pos) (Qn ta tb):=by
 intro pins s σ H Q I h;refine BoolOp_and (ck (ha pins s σ H _ I h) λv s1 ⟨x,H1,I1,r1,q1⟩=>?_);let⟨c,rfl,q1⟩:=q1;cases r1;refine xY ?_;cases c with
 | true=>exact hb pins s1 σ H1 Q I1 q1
 | false=>exact⟨.bl false,H1,I1,rfl,q1⟩
def IM(ha:PE X a ta)(hb:PE X (.BoolOp .Or (b::rest) pos) tb):PE X (.BoolOp .Or (a::b::rest) pos) (SM ta tb):=by
 intro pins s σ H Q I h;refine BoolOp_or (ck (ha pins s σ H _ I h) λv s1 ⟨x,H1,I1,r1,q1⟩=>?_);let⟨c,rfl,q1⟩:=q1;cases r1;refine xY ?_;cases c with
 | false=>exact hb pins s1 σ H1 Q I1 q1
 | true=>exact⟨.bl true,H1,I1,rfl,q1⟩
def Ub(t:TT)(ta tb:TE):TE:=λσ H Q=>t σ H λc H1=>if c=true then ta σ H1 Q else tb σ H1 Q
def Ay(hc:PT X c tA)(ha:PE X a ta)(hb:PE X b tb):PE X (.IfExp c a b pos) (Ub tA ta tb):=by
 intro pins s σ H Q I h;refine wpAny_IfExp (ck (hc pins s σ H _ I h) λd s1 ⟨H1,I1,q1⟩=>?_);cases d with
 | true=>exact ha pins s1 σ H1 Q I1 q1
 | false=>exact hb pins s1 σ H1 Q I1 q1
end
def iM(K:W.Frag)(H:Hp)(a:Addr)(xs:List V):Prop :=
 Rd H a (.lst xs) \/
  ∃ (o:Obj) (its:Array Value) (n:Nat),K.lookup a=some o/\o.cls=.type "list"/\o.dict=none/\o.data=.seq its n/\its.size<=sizeLine/\aN xs its.toList
def ku(K:W.Frag)(H:Hp)(a:Addr)(xs:List V):Prop :=
 Rd H a (.tup xs) \/
  ∃ (o:Obj) (its:Array Value) (n:Nat),K.lookup a=some o/\o.cls=.type "tuple"/\o.dict=none/\o.data=.seq its n/\its.size<=sizeLine/\aN xs its.toList
def Tf:Value->Option V
 | .none=>some .Ux
 | .bool b=>some (.bl b)
 | .int i _=>some (.int i)
 | .str x _=>some (.str x)
 | .bytes b _=>some (.X7 b)
 | .float b _=>some (.flt b)
 | .ref a=>some (.ref a)
 | .type n=>some (.ty n)
 | _=>none
def RelV.abs(r:RelV x u):Tf u=some x:=by
 cases x with
 | Ux=>cases r;rfl
 | bl _=>cases r;rfl
 | int _=>let⟨t,rfl⟩:=r;rfl
 | str _=>let⟨t,rfl⟩:=r;rfl
 | X7 _=>let⟨t,rfl⟩:=r;rfl
 | flt _=>let⟨t,rfl⟩:=r;rfl
 | ref _=>cases r;rfl
 | ty _=>cases r;rfl
def RelV.inj(r:RelV x u)(q:RelV y u):x=y:=xE (r.abs.symm.trans q.abs)
def aN.inj:∀ {xs ys:List V}{us:List Value},aN xs us->aN ys us->xs=ys
 | _,_,_,.nil,.nil=>rfl
 | _,_,_,.cons r t,.cons r' t'=>by rw[r.inj r',aN.inj t t']
def iM.of{K:W.Frag}(h:H a=some (.lst xs)):iM K H a xs:=.inl (.inl h)
def Inv.list(I:Inv X pins σ H s)(h:iM X.K H a xs):∃its:List Value,aN xs its/\PlainL s.heap a its.toArray/\xs.length<=sizeLine:=by
 rcases h with h|⟨o,its,n,hk,hc,hd,hs,hz,r⟩
 ·let⟨z,its,n,r,e⟩:=h.ok I.UC;exact⟨its,r,⟨_,n,e,rfl,rfl,rfl⟩,z⟩
 ·refine⟨its.toList,r,⟨o,n,I.V6 a o hk,hc,hd,by simpa using hs⟩,?_⟩;have e:=r.length;simp?[wZ] at e;lia
def Inv.tuple(I:Inv X pins σ H s)(h:ku X.K H a xs):∃its:List Value,aN xs its/\IsTup s.heap a its.toArray/\xs.length<=sizeLine:=by
 rcases h with h|⟨o,its,n,hk,hc,_,hs,hz,r⟩
 ·let⟨z,its,r,p⟩:=h.ok I.UC;exact⟨its,r,p.1,z⟩
 ·refine⟨its.toList,r,⟨o,I.V6 a o hk,hc,n,by simpa using hs⟩,?_⟩;have e:=r.length;simp?[wZ] at e;lia
def Inv.Wh(I:Inv X pins σ H s)(h:iM X.K H a xs)(h':iM X.K H a ys):xs=ys:=by
 let⟨its,r,⟨o,n,e,_,_,d⟩,_⟩:=I.list h;let⟨its',r',⟨o',n',e',_,_,d'⟩,_⟩:=I.list h';rw[e] at e';cases e';rw[d] at d';injection d' with d1 _
 have:its=its':=by simpa using jE Array.toList d1
 subst this;exact r.inj r'
def Inv.VY(I:Inv X pins σ H s)(h:ku X.K H a xs)(h':ku X.K H a ys):xs=ys:=by
 let⟨its,r,⟨o,e,_,n,d⟩,_⟩:=I.tuple h;let⟨its',r',⟨o',e',_,n',d'⟩,_⟩:=I.tuple h';rw[e] at e';cases e';rw[d] at d';injection d' with d1 _
 have:its=its':=by simpa using jE Array.toList d1
 subst this;exact r.inj r'
abbrev Cx.Ve(X:Cx)(E:Value->Shared->Prop):Cx:={ X with xe:=E }
abbrev Cx.UY(X:Cx):Cx:=X.Ve λ_ _=>False
def Cx.Ok.Ve{X:Cx}(ok:X.Ok)(E:Value->Shared->Prop):(X.Ve E).Ok :=
 ⟨ok.mod,ok.kind,ok.glob,ok.blt,ok.above,ok.inj,ok.has,ok.ZR,ok.hd,ok.frames,ok.Xm,ok.exf,ok.bs,ok.Xn,ok.Wf,ok.Wu,ok.Vl,ok.X9⟩
def Cx.Ok.UM{X:Cx}{E:Value->Shared->Prop}(ok:(X.Ve E).Ok):X.Ok :=
 ⟨ok.mod,ok.kind,ok.glob,ok.blt,ok.above,ok.inj,ok.has,ok.ZR,ok.hd,ok.frames,ok.Xm,ok.exf,ok.bs,ok.Xn,ok.Wf,ok.Wu,ok.Vl,ok.X9⟩
def Inv.Ve(I:Inv X pins σ H s)(E:Value->Shared->Prop):Inv (X.Ve E) pins σ H s:=⟨I.ok.Ve E,I.os,I.bare,I.base,I.loc,I.cell,I.free,I.UH,I.pin,I.UC,I.len⟩
def Inv.UM(I:Inv (X.Ve E) pins σ H s):Inv X pins σ H s:=⟨I.ok.UM,I.os,I.bare,I.base,I.loc,I.cell,I.free,I.UH,I.pin,I.UC,I.len⟩
def SP.UM{D:Ends}(h:SP (X.Ve E) pins D f s'):SP X pins D f s':=by
 cases f with
 | next=>let⟨σ',H',I,q⟩:=h;exact⟨σ',H',I.UM,q⟩
 | brk=>let⟨σ',H',I,q⟩:=h;exact⟨σ',H',I.UM,q⟩
 | cont=>let⟨σ',H',I,q⟩:=h;exact⟨σ',H',I.UM,q⟩
 | ret u=>let⟨v,σ',H',I,r,q⟩:=h;exact⟨v,σ',H',I.UM,r,q⟩
def PE.UY(h:PE X.UY e t):PE X e t:=λpins s σ H Q I hw =>
 xB (h pins s σ H Q (I.Ve _) hw) (λ_ _ ⟨v,H',I',r,q⟩=>⟨v,H',I'.UM,r,q⟩) λ_ _ z=>False.elim z
def PT.UY(h:PT X.UY e t):PT X e t:=λpins s σ H Q I hw =>
 xB (h pins s σ H Q (I.Ve _) hw) (λ_ _ ⟨H',I',q⟩=>⟨H',I'.UM,q⟩) λ_ _ z=>False.elim z
def za.UY{st:List Stmt}(h:za X.UY st t):za X st t:=λpins s σ H D I hw =>
 xB (h pins s σ H D (I.Ve _) hw) (λ_ _ q=>q.UM) λ_ _ z=>False.elim z
section
variable {st:Stmt}{rest:List Stmt}
def HD:TS:=λD σ H=>D.nx σ H
def R3(t u:TS):TS:=λD σ H=>t { D with nx:=u D } σ H
def wk:za X [] HD:=λ_ _ σ H _ I h=>wC ⟨σ,H,I,h⟩
def iP(h1:PS X st t)(h2:za X rest u):za X (st::rest) (R3 t u):=by
 intro pins s σ H D I h;refine vP (ck (h1 pins s σ H { D with nx:=u D } I h) λf s1 q=>?_);cases f with
 | next =>
  let⟨σ',H',I',q⟩:=q;exact h2 pins s1 σ' H' D I' q
 | ret v=>exact q
 | brk=>exact q
 | cont=>exact q
def Kz(h1:PS X st t):za X [st] t:=by
 intro pins s σ H D I h;refine vP (ck (h1 pins s σ H D I h) λf s1 q=>?_);cases f with
 | next=>exact wC q
 | ret v=>exact q
 | brk=>exact q
 | cont=>exact q
def KD:PS X (.Pass pos) HD:=λ_ _ σ H _ I h=>wpAny_Pass ⟨σ,H,I,h⟩
def Inv.quiet(I:Inv X pins σ H s):interactive X.env=false:=by simp[interactive,I.ok.kind]
def O9{x j pos pos'}:PS X (.Expr (.Constant (.str x) j pos) pos') HD:=λ_ s σ H _ I h=>wpAny_Expr (Zi (show SP X _ _ .next { s with toks:=s.toks+1 } from ⟨σ,H,I.tok _,h⟩)) I.quiet
def QR(te:TE):TS:=λD σ H=>te σ H λ_ H1=>D.nx σ H1
def n6(he:PE X e te)(hs:swapsWith e none pos.line X.env=pure false:=by rfl):PS X (.Expr e pos) (QR te):=by
 intro pins s σ H D I h;exact wpAny_Expr_any (ck (he pins s σ H _ I h) λv s1 ⟨x,H1,I1,r1,q1⟩=>⟨σ,H1,I1,q1⟩) I.quiet hs
def Sv(te:TE):TS:=λD σ H=>te σ H D.rt
def BV(he:PE X e te):PS X (.Return (some e) pos) (Sv te):=by
 intro pins s σ H D I h;exact wpAny_Return_some (ck (he pins s σ H _ I h) λv s1 ⟨x,H1,I1,r1,q1⟩=>⟨x,σ,H1,I1,r1,q1⟩)
def S8(c:TT)(t u:TS):TS:=λD σ H=>c σ H λb H1=>if b=true then t D σ H1 else u D σ H1
def JK(hc:PT X c tc)(ha:za X a t)(hb:za X b u):PS X (.If c a b pos) (S8 tc t u):=by
 intro pins s σ H D I h;refine wpAny_If (ck (hc pins s σ H _ I h) λd s1 ⟨H1,I1,q1⟩=>?_);cases d with
 | true=>exact ha pins s1 σ H1 D I1 q1
 | false=>exact hb pins s1 σ H1 D I1 q1
end
abbrev TG:=V->St->Hp->(St->Hp->Prop)->Prop
abbrev Q4:=List V->St->Hp->(St->Hp->Prop)->Prop
def PG(X:Cx)(target:Expr)(t:TG):Prop :=
 ∀ (pins:List (Addr×Obj)) (s:Shared) (σ:St) (H:Hp) (v:V) (u:Value) (Q:St->Hp->Prop),Inv X pins σ H s->RelV v u->t v σ H Q ->
  wpAny (model X.prog X.w) X.A (assign target X.env u) (λ_ s'=>∃σ' H',Inv X pins σ' H' s'/\Q σ' H') X.xe s
def Rx(X:Cx)(ts:List Expr)(t:Q4):Prop :=
 ∀ (pins:List (Addr×Obj)) (s:Shared) (σ:St) (H:Hp) (vs:List V) (us:List Value) (Q:St->Hp->Prop),Inv X pins σ H s->aN vs us->t vs σ H Q ->
  wpAny (model X.prog X.w) X.A (assignInOrder ((assignEach ts X.env).map (·.2)) us) (λ_ s'=>∃σ' H',Inv X pins σ' H' s'/\Q σ' H') X.xe s
abbrev Q3:=V->V->V->Hp->(Hp->Prop)->Prop
def Q6(X:Cx)(t:Q3):Prop :=
 ∀ (pins:List (Addr×Obj)) (s:Shared) (σ:St) (H:Hp) (o i v:V) (ov iv u:Value) (Q:Hp->Prop),Inv X pins σ H s->RelV o ov->RelV i iv->RelV v u->t o i v H Q ->
  wpAny (model X.prog X.w) X.A (setItem ov iv u) (λ_ s'=>∃H',Inv X pins σ H' s'/\Q H') X.xe s
def uz(i:Nat):TG:=λv σ H Q=>Q (σ.set i (some v)) H
def dN(hN:X.N.Nodup)(hi:X.N[i]?=some x)(hx:Loc X.env.scope x)(hf:X.fn x=true\/X.env.scope.names.lookup x=some .local:=by first|exact .inl rfl|exact .inr rfl|assumption):PG X (.Name x pos) (uz i):=by
 intro pins s σ H v u Q I r h;exact wpAny_assign_Name (AO I hN hi hx r (λs' I'=>⟨_,H,I',h⟩) hf)
def Sd:Q4:=λvs σ H Q=>vs=[]/\Q σ H
def QH(t:TG)(u:Q4):Q4:=λvs σ H Q=>∃v r,vs=v::r/\t v σ H λσ' H'=>u r σ' H' Q
def qx:Rx X [] Sd:=by
 intro pins s σ H vs us Q I r h;let⟨e,h⟩:=h;subst e;cases r;exact assignInOrder_nil ⟨σ,H,I,h⟩
def dH(h1:PG X e t)(h2:Rx X es u)
  (hs:(assignEach (e::es) X.env).map (·.2)=assign e X.env::(assignEach es X.env).map (·.2):=by rfl):Rx X (e::es) (QH t u):=by
 intro pins s σ H vs us Q I r h;let⟨v,vr,e1,h⟩:=h;subst e1;cases r with
 | cons r rr =>
  rw[hs];refine assignInOrder_cons (ck (h1 pins s σ H _ _ _ I r h) λ_ s1 ⟨σ1,H1,I1,q1⟩=>?_);exact h2 pins s1 σ1 H1 _ _ Q I1 rr q1
def SQ(K:W.Frag)(n:Nat)(t:Q4):TG:=λv σ H Q=>∃a xs,v=.ref a/\ku K H a xs/\xs.length=n/\t xs σ H Q
def yp{k:Nat}(hc:X.calm=true)(h:Rx X es t)
  (hn:(assignEach es X.env).length=n:=by rfl) (VZ:(assignEach es X.env).findIdx? (·.1)=none:=by rfl):PG X (.Tuple es k pos) (SQ X.K n t):=by
 intro pins s σ H v u Q I r hw;let⟨a,xs,e1,hq,hl,hw⟩:=hw;subst e1;cases r;let⟨its,rv,ht,hz⟩:=I.tuple hq;refine assign_Tuple_tuple (I.ok.hd hc) ht (by simp[hn,<- hl,rv.length]) VZ λh' hx=>?_;have I1:Inv X pins σ H { s with heap:=h' }:=I.kept (t':=s.toks) λb o e=>hx b o (yS (zY e)) e;exact h pins _ σ H xs _ Q I1 (by simpa using rv) hw
def jd(to ti:TE)(t:Q3):TG:=λv σ H Q=>to σ H λo H1=>ti σ H1 λi H2=>t o i v H2 λH3=>Q σ H3
def M7(ho:PE X o to)(hi:PE X i ti)(hs:Q6 X t)
  (ha:∀v,assign (.Subscript o i pos) X.env v=(do
   let ov <- holding [v] (eval o X.env)
   let iv <- holding [v,ov] (eval i X.env)
   standAt pos
   holding [v,ov,iv] (setItem ov iv v)
   release [v,ov,iv] []):=by intro _;rfl):PG X (.Subscript o i pos) (jd to ti t):=by
 intro pins s σ H v u Q I r h;rw[ha];refine zV (xZ (ck (ho pins s σ H _ I h) λov s1 ⟨x,H1,I1,r1,q1⟩=>?_));refine zV (xZ (ck (hi pins s1 σ H1 _ I1 q1) λiv s2 ⟨y,H2,I2,r2,q2⟩=>?_));refine zV (vM (zV (xZ (ck (hs pins s2 σ H2 x y v ov iv u _ I2 r1 r2 r q2) λ_ s3 ⟨H3,I3,q3⟩=>?_))));exact wpAny_release ⟨σ,H3,I3,q3⟩
def Fd(te:TE)(g:TG):TS:=λD σ H=>te σ H λx H1=>g x σ H1 D.nx
def HR(he:PE X e te)(hg:PG X tg g)(hs:swapsWithSole [tg] e pos.line X.env=pure false:=by rfl)(hw:swappedStores [tg] e X.env=pure none:=by rfl)
  (h1:(assignEach [tg] X.env).map (·.2)=[assign tg X.env]:=by rfl):PS X (.Assign [tg] e pos) (Fd te g):=by
 intro pins s σ H D I h;refine wpAny_Assign_stores (ck (he pins s σ H _ I h) λv s1 ⟨x,H1,I1,r1,q1⟩=>?_) hs hw;rw[h1];exact ck (hg pins s1 σ H1 x v _ I1 r1 q1) λ_ s2 q=>q
def tv(hN:X.N.Nodup)(hi:X.N[i]?=some x)(hx:Loc X.env.scope x)(he:PE X e te)(hs:swapsWith e (some (.Name x pos')) pos.line X.env=pure false:=by rfl)(hf:X.fn x=true\/X.env.scope.names.lookup x=some .local:=by first|exact .inl rfl|exact .inr rfl|assumption) :
  PS X (.Assign [.Name x pos'] e pos) (Fd te (uz i)):=by
 intro pins s σ H D I h;refine wpAny_Assign_Name (ck (he pins s σ H _ I h) λv s1 ⟨y,H1,I1,r1,q1⟩=>?_) hs;exact AO I1 hN hi hx r1 (λs2 I2=>⟨_,H1,I2,q1⟩) hf
def NT(c:TT)(tb:TS):TS:=λD σ H=>∃W:Nat->St->Hp->Prop,(∃m,W m σ H)/\∀m σ H,W m σ H ->
 c σ H λb H1=>if b=true then ∃N:St->Hp->Prop,(∀σ' H',N σ' H'->∃m',m' < m/\W m' σ' H')/\tb { D with nx:=N,ct:=N,bk:=D.nx } σ H1 else D.nx σ H1
def JF(hp:PassesOwn (model X.prog X.w) X.A X.env X.xe)(hc:PT X c tc)(hb:za X body tb):PS X (.While c body [] pos) (NT tc tb):=by
 intro pins s σ H D I h;let⟨W,⟨m0,w0⟩,turn⟩:=h;refine wpAny_While (codeAny_whileLoop (λn s'=>∃σ' H',Inv X pins σ' H' s'/\W n σ' H') ?_ m0 ⟨σ,H,I,w0⟩);rintro n s1 ⟨σ1,H1,I1,w1⟩;refine jM hp (ck (hc pins s1 σ1 H1 _ I1 (turn n σ1 H1 w1)) λb s2 ⟨H2,I2,q2⟩=>?_);cases b with
 | true =>
  let⟨N,hN,q2⟩:=q2;rw[yM rfl];refine jM hp (ck (hb pins s2 σ1 H2 _ I2 q2) λf s3 q3=>?_);cases f with
  | next =>
   let⟨Ww,H3,I3,n3⟩:=q3;let⟨m',hm,w3⟩:=hN Ww H3 n3;exact⟨m',hm,Ww,H3,I3,w3⟩
  | cont =>
   let⟨Ww,H3,I3,n3⟩:=q3;let⟨m',hm,w3⟩:=hN Ww H3 n3;exact⟨m',hm,Ww,H3,I3,w3⟩
  | brk=>exact q3
  | ret v=>exact q3
 | false =>
  rw[yO xA];exact wC ⟨σ1,H2,I2,q2⟩
structure It where
 go:Nat->Hp->Prop
 YF:Nat->Hp->V->Hp->Prop
 stop:Nat->Hp->Prop
def cN(X:Cx)(pins:List (Addr×Obj))(H:Hp)(b:Addr):Prop :=
 H b=none/\b≠X.env.locals/\b∉X.fs/\(b∈X.ex\/X.UG.heap.objs.size<=b)/\(∀x c,X.env.cells.lookup x=some c->c≠b)/\∀p∈X.pn++pins,p.1≠b
def Inv.Vt(I:Inv X pins σ H s)(hb:s.heap.objs.size<=b)(hn:H' b=none):cN X pins H' b:=by
 refine⟨hn,jK (zP I.lt hb),I.adU hb,.inr (yD I.sz hb),λx c e z=>?_,λp hp z=>?_⟩
 ·let⟨v,q⟩:=I.cell x c e;exact absurd (zP q.lt (by rw[z];exact hb)) (qG _)
 ·exact absurd (zP (zY (I.pin p hp).1) (by rw[z];exact hb)) (qG _)
structure Turn(P:Program)(w:World)(K:W.Frag)(tg:Expr)(J:It)(fp:List Addr)(it:Addr)(tn:Nat->Heap->Prop):Prop where
 mem:it∈fp
 obj:∀i h,tn i h->∀b∈fp,∃o,h.get? b=some o/\∀v,o.data≠.cell v
 keep:∀i h h',tn i h->(∀b∈fp,∀o,h.get? b=some o->h'.get? b=some o)->tn i h'
 item:∀ (X:Cx),X.prog=P->X.w=w->X.K=K->X.calm=true->∀ (i:Nat) (pins:List (Addr×Obj)) (s:Shared) (σ:St) (H:Hp) (E:Value->Shared->Prop),Inv X pins σ H s->(∀b∈fp,cN X pins H b)->tn i s.heap->J.go i H ->
  wpAny (model P w) X.A (pyNext (.ref it)) (λr s1=>∃u,r=some u /\
   wpAny (model P w) X.A (letOwnedTupleGo tg (.ref it) u) (λ_ s2=>∃x H',Inv X pins σ H' s2/\RelV x u/\J.YF i H x H'/\tn (i+1) s2.heap/\∀b∈fp,H' b=none) E s1) E s
 done:∀ (X:Cx),X.prog=P->X.w=w->X.K=K->X.calm=true->∀ (i:Nat) (pins:List (Addr×Obj)) (s:Shared) (σ:St) (H:Hp) (E:Value->Shared->Prop),Inv X pins σ H s->(∀b∈fp,cN X pins H b)->tn i s.heap->J.stop i H ->
  wpAny (model P w) X.A (pyNext (.ref it)) (λr s1=>r=none/\Inv X pins σ H s1) E s
 self:∀ (A:Around) (i:Nat) (s:Shared) (Q:Value->Shared->Prop) (E:Value->Shared->Prop),tn i s.heap->Q (.ref it) s->wpAny (model P w) A (pyIter (.ref it)) Q E s
abbrev TI:=St->Hp->(It->Hp->Prop)->Prop
def Ti(X:Cx)(pins:List (Addr×Obj))(σ:St)(tg:Expr)(R:It->Hp->Prop)(itv:Value)(s2:Shared):Prop :=
 ∃ (it:Addr) (fp:List Addr) (tn:Nat->Heap->Prop) (J:It) (H':Hp),itv=.ref it/\Inv X pins σ H' s2/\Turn X.prog X.w X.K tg J fp it tn/\tn 0 s2.heap/\(∀b∈fp,cN X pins H' b)/\R J H'
def PI(X:Cx)(tg iter:Expr)(wi:TI):Prop :=
 ∀ (pins:List (Addr×Obj)) (s:Shared) (σ:St) (H:Hp) (R:It->Hp->Prop),Inv X pins σ H s->wi σ H R ->
  wpAny (model X.prog X.w) X.A (eval iter X.env) (λv s1=>wpAny (model X.prog X.w) X.A (pyIter v) (Ti X pins σ tg R) X.xe s1) X.xe s
def GA(ho:s.heap.get? it=some o)(hc:o.cls=.type n)(hd:o.data=.fields vs)
  (hn:["enumerate","zip","dict_itemiterator","dict_reverseitemiterator","odict_iterator","itertools.zip_longest","itertools.pairwise"].contains n=false) (hQ:Q () s):wpAny M A (letOwnedTupleGo tg (.ref it) u) Q E s:=by
 unfold letOwnedTupleGo;cases tg<;>first
  | exact zW hQ
  | (cases u<;>first
    | exact zW hQ
    | (refine zV (wpAny_load ho ?_)
       rw[hc,hd];show wpAny M A (if (["enumerate","zip","dict_itemiterator","dict_reverseitemiterator","odict_iterator","itertools.zip_longest","itertools.pairwise"].contains n&&vs[0]? == some (rawInt _))=true then _ else _) Q E s;rw[yO (by intro h;rw[hn,wQ] at h;cases h)];exact zW hQ))
def RY(K:W.Frag)(a:Addr):It :=
 ⟨λi H=>∃xs x,iM K H a xs/\xs[i]?=some x,λi H x H'=>H'=H/\∀xs,iM K H a xs->xs[i]?=some x,λi H=>∃xs,iM K H a xs/\xs.length<=i⟩
def SJ(K:W.Frag)(a:Addr):It :=
 ⟨λi H=>∃xs x,ku K H a xs/\xs[i]?=some x,λi H x H'=>H'=H/\∀xs,ku K H a xs->xs[i]?=some x,λi H=>∃xs,ku K H a xs/\xs.length<=i⟩
def RC(lo:Int)(n:Nat):It:=⟨λi _=>i < n,λi H x H'=>H'=H/\x=.int (lo+i),λi _=>n<=i⟩
def FC{K:W.Frag}(a it:Addr):Turn P w K tg (RY K a) [it] it (λi h=>h.IsListIter it a i) where
 mem:=by simp
 obj:=λi h st b hb=>by
  have e:b=it:=by simpa using hb
  subst e;let⟨o,e,c,d⟩:=st;exact⟨o,e,λv z=>by rw[d] at z;cases z⟩
 keep:=λi h h' st k=>st.at λo e=>k it (by simp) o e
 item:=by
  intro X hP hw hK hc i pins s σ H E I hf st hg;subst hP hw hK;let⟨xs,x,hq,hx⟩:=hg;let⟨its,rv,p,hz⟩:=I.list hq;let⟨u,hu,ru⟩:=rv.get hx;let⟨f0,f1,f2,f3,f4,f5⟩:=hf it (by simp);refine wpAny_pyNext_list_item st p.isList (x:=u) (by simpa using hu) λh' Vf sb=>?_;have I1:Inv X pins σ H { s with heap:=h' }:=I.turned (t':=s.toks) (λb o hb e=>(sb.2 b hb).trans e) f0 f1 f3 f4 f5;let⟨o,e,c,d⟩:=id Vf;exact⟨u,rfl,GA (s:={ s with heap:=h' }) e c d (by decide) ⟨x,H,I1,ru,⟨rfl,λys hy=>by rw[I.Wh hy hq];exact hx⟩,Vf,λb hb=>(hf b hb).1⟩⟩
 done:=by
  intro X hP hw hK hc i pins s σ H E I hf st hg;subst hP hw hK;let⟨xs,hq,hx⟩:=hg;let⟨its,rv,p,hz⟩:=I.list hq;let⟨f0,f1,f2,f3,f4,f5⟩:=hf it (by simp);have hl:=rv.length;exact wpAny_pyNext_list_end (I.ok.hd hc) st p.isList (by simp;lia) λh' eb=>⟨rfl,I.turned (t':=s.toks) (λb o hb e=>eb b o hb e) f0 f1 f3 f4 f5⟩
 self:=λ_ _ _ _ _ st h=>wpAny_pyIter_listiter st h
def CH{K:W.Frag}(a it:Addr):Turn P w K tg (SJ K a) [it] it (λi h=>h.IsTupleIter it a i) where
 mem:=by simp
 obj:=λi h st b hb=>by
  have e:b=it:=by simpa using hb
  subst e;let⟨o,e,c,d⟩:=st;exact⟨o,e,λv z=>by rw[d] at z;cases z⟩
 keep:=λi h h' st k=>st.at λo e=>k it (by simp) o e
 item:=by
  intro X hP hw hK hc i pins s σ H E I hf st hg;subst hP hw hK;let⟨xs,x,hq,hx⟩:=hg;let⟨its,rv,p,hz⟩:=I.tuple hq;let⟨u,hu,ru⟩:=rv.get hx;let⟨f0,f1,f2,f3,f4,f5⟩:=hf it (by simp);refine wpAny_pyNext_tuple_item st (show s.heap.IsTuple a its.toArray from p) (x:=u) (by simpa using hu) λh' Vf sb=>?_;have I1:Inv X pins σ H { s with heap:=h' }:=I.turned (t':=s.toks) (λb o hb e=>(sb.2 b hb).trans e) f0 f1 f3 f4 f5;let⟨o,e,c,d⟩:=id Vf;exact⟨u,rfl,GA (s:={ s with heap:=h' }) e c d (by decide) ⟨x,H,I1,ru,⟨rfl,λys hy=>by rw[I.VY hy hq];exact hx⟩,Vf,λb hb=>(hf b hb).1⟩⟩
 done:=by
  intro X hP hw hK hc i pins s σ H E I hf st hg;subst hP hw hK;let⟨xs,hq,hx⟩:=hg;let⟨its,rv,p,hz⟩:=I.tuple hq;let⟨f0,f1,f2,f3,f4,f5⟩:=hf it (by simp);have hl:=rv.length;exact wpAny_pyNext_tuple_end (I.ok.hd hc) st (show s.heap.IsTuple a its.toArray from p) (by simp;lia) λh' eb=>⟨rfl,I.turned (t':=s.toks) (λb o hb e=>eb b o hb e) f0 f1 f3 f4 f5⟩
 self:=λ_ _ _ _ _ st h=>wpAny_pyIter_tupleiter st h
def B8{K:W.Frag}(it:Addr)(lo:Int)(n:Nat):Turn P w K tg (RC lo n) [it] it (λi h=>IsRangeIter h it (lo+(i:Nat) * 1) ((n:Int) - (i:Nat)) 1) where
 mem:=by simp
 obj:=λi h st b hb=>by
  have e:b=it:=by simpa using hb
  subst e;exact⟨_,st,λv z=>by
   have z':Data.fields _=Data.cell v:=z;cases z'⟩
 keep:=λi h h' st k=>k it (by simp) _ st
 item:=by
  intro X hP hw hK hc i pins s σ H E I hf st hg;subst hP hw hK;let⟨f0,f1,f2,f3,f4,f5⟩:=hf it (by simp);have W:=Walks.range (prog:=X.prog) (w:=X.w) (I.ok.hd hc) it lo 1 n;refine W.item i s _ _ hg st λv h' tk hv Vf kk=>?_;let⟨t,rfl⟩:=hv;have I1:Inv X pins σ H { s with heap:=h',toks:=tk }:=I.turned (λb o hb e=>kk b o (by simpa using hb) e) f0 f1 f3 f4 f5;refine⟨_,rfl,GA (s:={ s with heap:=h',toks:=tk }) (n:="range_iterator") Vf rfl rfl (by decide) ⟨.int (lo+i),H,I1,⟨t,?_⟩,⟨rfl,rfl⟩,Vf,λb hb=>(hf b hb).1⟩⟩;rw[Int.mul_one]
 done:=by
  intro X hP hw hK hc i pins s σ H E I hf st hg;subst hP hw hK;let⟨f0,f1,f2,f3,f4,f5⟩:=hf it (by simp);exact wpAny_pyNext_range_end (I.ok.hd hc) st (by have:n<=i:=hg;lia) λh' eb=>⟨rfl,I.turned (t':=s.toks) (λb o hb e=>eb b o hb e) f0 f1 f3 f4 f5⟩
 self:=λ_ _ _ _ _ st h=>wpAny_pyIter_rangeiter st h
def Gu{lo:Int}{t u v:Tok}{tk:Nat}(I:Inv X pins σ H s)(h1:-(2 ^ 62)<=lo)(h2:lo < 2 ^ 62)(h3:-(2 ^ 62)<=hi)(h4:hi < 2 ^ 62)
  (q:R (RC lo (hi - lo).toNat) H):wpAny (model X.prog X.w) X.A (pyIter (.ref s.heap.objs.size)) (Ti X pins σ tg R) E { s with heap:=s.heap.push { cls:=.type "range",data:=.fields #[.int lo t,.int hi u,.int 1 v] },toks:=tk }:=by
 refine wpAny_pyIter_range (IsRange.new ..) (small_one h1 h2 h3 h4) ?_;have I1:Inv X pins σ H { s with heap:=s.heap.push { cls:=.type "range",data:=.fields #[.int lo t,.int hi u,.int 1 v] },toks:=tk }:=I.kept λb o e=>zU _ e;refine⟨(s.heap.push { cls:=.type "range",data:=.fields #[.int lo t,.int hi u,.int 1 v] }).objs.size,[(s.heap.push { cls:=.type "range",data:=.fields #[.int lo t,.int hi u,.int 1 v] }).objs.size],_,_,H,rfl,
  I1.kept (t':=tk) λb o e=>zU _ e,B8 _ lo (hi - lo).toNat,?_,λb hb=>?_,q⟩
 ·have e1:lo+((0:Nat):Int) * 1=lo:=by simp
  have e2:(((hi - lo).toNat:Nat):Int) - ((0:Nat):Int)=Builtin.Range.rangeSize lo hi 1:=by rw[rangeSize_one];split<;>lia
  show IsRangeIter _ _ (lo+((0:Nat):Int) * 1) ((((hi - lo).toNat:Nat):Int) - ((0:Nat):Int)) 1;rw[e1,e2];exact zX _ rfl
 ·have e:b=(s.heap.push { cls:=.type "range",data:=.fields #[.int lo t,.int hi u,.int 1 v] }).objs.size:=by simpa using hb
  subst e;exact I1.Vt (yN _) (I1.UC.fresh (yN _))
def P6(ta:TA):TI:=λσ H R=>ta σ H λvs H1=>∃j:Int,vs=[.int j]/\-(2 ^ 62)<=j/\j < 2 ^ 62/\R (RC 0 j.toNat) H1
def F6(hg:Gl X "range")(hm:X.mg "range"=none)(ha:PA X [a] ta)(hs:starEach [a] X.env=[(false,eval a X.env)]:=by rfl):PI X tg (.Call (.Name "range" p) [a] [] pos) (P6 ta):=by
 intro pins s σ H R I h;refine Call_ (fZ I hg hm boot_range (qU (ck (ha pos pins s σ H _ I h) λus s1 ⟨vs,H1,I1,r1,q1⟩=>?_) hs rfl));let⟨j,e,q1,q2,q⟩:=q1;subst e;cases r1 with
 | cons r rr =>
  cases rr;let⟨t,rfl⟩:=r;exact call_range_1 (Gu I1 (by lia) (by lia) q1 q2 (by simpa using q))
def SW(wi:TI)(g:TG)(tb:TS):TS:=λD σ H=>wi σ H λJ H1=>∃W:Nat->Nat->St->Hp->Prop,(∃m,W 0 m σ H1)/\∀i m σ H,W i m σ H ->
 (J.stop i H/\D.nx σ H)\/(J.go i H/\∃N:St->Hp->Prop,(∀σ' H',N σ' H'->∃m',m' < m/\W (i+1) m' σ' H')/\∀x H',J.YF i H x H'->g x σ H' λWS H2=>tb { D with nx:=N,ct:=N,bk:=D.nx } WS H2)
def pb(fp:List Addr)(h:Heap):List (Addr×Obj):=fp.filterMap λb=>(h.get? b).map λo=>(b,o)
def dP(hb:b∈fp)(e:h.get? b=some o):(b,o)∈pb fp h:=List.mem_filterMap.mpr ⟨b,hb,by rw[e];rfl⟩
def Fx(hp:p∈pb fp h):p.1∈fp/\h.get? p.1=some p.2:=by
 let⟨b,hb,e⟩:=List.mem_filterMap.mp hp;cases q:h.get? b with
 | none=>rw[q] at e;cases e
 | some o =>
  rw[q] at e;have e':(b,o)=p:=xE e;subst e';exact⟨hb,q⟩
def Inv.pinned(I:Inv X pins σ H s)(hf:∀b∈fp,cN X pins H b)(ho:∀b∈fp,∃o,s.heap.get? b=some o/\∀v,o.data≠.cell v):Inv X (pins++pb fp s.heap) σ H s :=
 I.V7 λp hp=>(List.mem_append.mp hp).elim (λz=>I.pin p (yE _ z)) λz=>by
  let⟨hb,e⟩:=Fx z;let⟨f0,f1,f2,_⟩:=hf p.1 hb;let⟨o,e',d⟩:=ho p.1 hb;rw[e] at e';cases e';exact⟨e,f0,f1,f2,d⟩
def Inv.UP(I:Inv X (pins++pl) σ H s):Inv X pins σ H s:=I.V7 λp hp=>I.pin p (yE _ (qL _ hp))
def Os{pos:Pos}(hp:PassesOwn (model X.prog X.w) X.A X.env X.xe)(hc:X.calm=true)(hi:PI X tg iter wi)(hg:PG X tg g)(hb:za X body tb)
  (hs:∀x,foldedSetIterable iter X.env x=pure x:=by intro _;rfl):PS X (.For tg iter body [] pos) (SW wi g tb):=by
 intro pins s σ H D I h;refine wpAny_For (ck (hi pins s σ H _ I h) λv s1 h1=>ck h1 λitv s2 h2=>?_) hs;let⟨it,fp,tn,J,H2,e,I2,T,XX,f2,W,⟨m0,w0⟩,turn⟩:=h2;subst e;have ZT:∀ {H':Hp},(∀b∈fp,H' b=none)->∀b∈fp,cN X pins H' b:=λhn b hb=>⟨hn b hb,(f2 b hb).2⟩
 refine codeAny_forLoop_any (λn s'=>∃i σ' H',Inv X pins σ' H' s'/\tn i s'.heap/\(∀b∈fp,H' b=none)/\W i n σ' H') ?_ m0 ⟨0,σ,H2,I2,XX,λb hb=>(f2 b hb).1,w0⟩;rintro n s3 ⟨i,Ww,H3,I3,ZU,fr3,w3⟩;rcases turn i n Ww H3 w3 with ⟨stop,qn⟩|⟨go,N,hN,step⟩
 ·refine jM hp (ck (T.done X rfl rfl rfl hc i pins s3 Ww H3 X.xe I3 (ZT fr3) ZU stop) λr s4 ⟨hr,I4⟩=>?_);subst hr;exact wC ⟨Ww,H3,I4,qn⟩
 ·refine jM hp (ck (T.item X rfl rfl rfl hc i pins s3 Ww H3 X.xe I3 (ZT fr3) ZU go) λr s4 ⟨u,hr,h4⟩=>?_);subst hr;refine jM hp (ck h4 λ_ s5 ⟨x,H5,I5,r5,y5,st5,fr5⟩=>?_);have I5':=I5.pinned (ZT fr5) (T.obj _ _ st5);refine jM hp (ck (hg _ s5 Ww H5 x u _ I5' r5 (step x H5 y5)) λ_ s6 ⟨σ6,H6,I6,q6⟩=>?_);refine jM hp (ck (hb _ s6 σ6 H6 _ I6 q6) λf s7 q7=>?_);have again:∀ {Xq:St}{H7:Hp},Inv X (pins++pb fp s5.heap) Xq H7 s7->N Xq H7->∃m,m < n/\∃i σ' H',Inv X pins σ' H' s7/\tn i s7.heap/\(∀b∈fp,H' b=none)/\W i m σ' H':=λ{Xq H7} I7 n7=>by
   let⟨m',hm,w7⟩:=hN Xq H7 n7;refine⟨m',hm,i+1,Xq,H7,I7.UP,T.keep _ _ _ st5 λb hb o e=>(I7.pin (b,o) (yE _ (yE _ (dP hb e)))).1,λb hb=>?_,w7⟩;let⟨o,e,d⟩:=T.obj _ _ st5 b hb;exact (I7.pin (b,o) (yE _ (yE _ (dP hb e)))).2.1
  cases f with
  | next=>let⟨Xq,H7,I7,n7⟩:=q7;exact again I7 n7
  | cont=>let⟨Xq,H7,I7,n7⟩:=q7;exact again I7 n7
  | brk=>let⟨Xq,H7,I7,q7⟩:=q7;exact⟨Xq,H7,I7.UP,q7⟩
  | ret v=>let⟨x7,Xq,H7,I7,r7,q7⟩:=q7;exact⟨x7,Xq,H7,I7.UP,r7,q7⟩
abbrev R2:=V->V->Hp->VK->Prop
def jj(X:Cx)(f:Value->Value->Sem Value)(r:R2):Prop :=
 ∀ (pins:List (Addr×Obj)) (s:Shared) (σ:St) (H:Hp) (x y:V) (v u:Value) (Q:VK),Inv X pins σ H s->RelV x v->RelV y u->r x y H Q ->
  wpAny (model X.prog X.w) X.A (f v u) (EP X pins σ Q) X.xe s
def Td(X:Cx)(f:Value->Sem Value)(r:V->Hp->VK->Prop):Prop :=
 ∀ (pins:List (Addr×Obj)) (s:Shared) (σ:St) (H:Hp) (x:V) (v:Value) (Q:VK),Inv X pins σ H s->RelV x v->r x H Q ->
  wpAny (model X.prog X.w) X.A (f v) (EP X pins σ Q) X.xe s
def f9(X:Cx)(f:Value)(r:List V->Hp->VK->Prop):Prop :=
 ∀ (pins:List (Addr×Obj)) (s:Shared) (σ:St) (H:Hp) (xs:List V) (us:List Value) (Q:VK),Inv X pins σ H s->aN xs us->r xs H Q ->
  wpAny (model X.prog X.w) X.A (call f us) (EP X pins σ Q) X.xe s
def Qg(r:R2)(ta tb:TE):TE:=λσ H Q=>ta σ H λx H1=>tb σ H1 λy H2=>r x y H2 Q
def Um(r:V->Hp->VK->Prop)(ta:TE):TE:=λσ H Q=>ta σ H λx H1=>r x H1 Q
def rI(C:Int->Int->Prop)(g:Int->Int->V):R2:=λx y H Q=>∃i j,x=.int i/\y=.int j/\C i j/\Q (g i j) H
def Ko(g:Int->Int->V):R2:=λx y H Q=>∃i j,x=.int i/\y=.int j/\Q (g i j) H
def rU(g:Int->V):V->Hp->VK->Prop:=λx H Q=>∃i,x=.int i/\Q (g i) H
def Pd(ha:PE X a ta)(hb:PE X b tb){pins:List (Addr×Obj)}{σ:St}{R:V->V->Hp->Prop}(I:Inv X pins σ H s)
  (h:ta σ H λx H1=>tb σ H1 λy H2=>R x y H2) {Q:Value->Shared->Prop}{f:Value->Value->Sem Value}
  (hf:∀v u s2 x y H2,Inv X pins σ H2 s2->RelV x v->RelV y u->R x y H2->wpAny (model X.prog X.w) X.A (f v u) Q X.xe s2) :
  wpAny (model X.prog X.w) X.A (eval a X.env) (λv UD=>wpAny (model X.prog X.w) X.A (eval b X.env) (λu Yd=>wpAny (model X.prog X.w) X.A (f v u) Q X.xe Yd) X.xe UD) X.xe s:=by
 refine ck (ha pins s σ H _ I h) λv s1 ⟨x,H1,I1,r1,q1⟩=>?_;refine ck (hb pins s1 σ H1 _ I1 q1) λu s2 ⟨y,H2,I2,r2,q2⟩=>?_;exact hf v u s2 x y H2 I2 r1 r2 q2
def C0(ho:jj X (binaryOp op) r)(ha:PE X a ta)(hb:PE X b tb):PE X (.BinOp a op b pos) (Qg r ta tb):=by
 intro pins s σ H Q I h;exact wpAny_BinOp (Pd ha hb I h λv u s2 x y H2 I2 rx ry q=>ho pins s2 σ H2 x y v u Q I2 rx ry q)
def Rb(ho:Td X (unaryOp op) r)(ha:PE X a ta):PE X (.UnaryOp op a pos) (Um r ta):=by
 intro pins s σ H Q I h;exact UnaryOp_ (ck (ha pins s σ H _ I h) λv s1 ⟨x,H1,I1,r1,q1⟩=>ho pins s1 σ H1 x v Q I1 r1 q1)
def SK{f:Value->Value->Sem Value}{C:Int->Int->Prop}{g:Int->Int->Int}
  (rule:∀ (i j:Int) (t u:Tok) (s:Shared) (Q:Value->Shared->Prop) (E:Value->Shared->Prop),C i j->Q (.int (g i j) s.toks) { s with toks:=s.toks+1 }->wpAny (model X.prog X.w) X.A (f (.int i t) (.int j u)) Q E s) :
  jj X f (rI C λi j=>.int (g i j)):=by
 intro pins s σ H x y v u Q I rx ry h;let⟨i,j,rfl,rfl,hc,q⟩:=h;let⟨t,rfl⟩:=rx;let⟨t',rfl⟩:=ry;exact rule i j t t' s _ _ hc ⟨.int (g i j),H,I.tok _,⟨_,rfl⟩,q⟩
def QL{f:Value->Value->Sem Value}{g:Int->Int->Int}
  (rule:∀ (i j:Int) (t u:Tok) (s:Shared) (Q:Value->Shared->Prop) (E:Value->Shared->Prop),Q (.int (g i j) s.toks) { s with toks:=s.toks+1 }->wpAny (model X.prog X.w) X.A (f (.int i t) (.int j u)) Q E s) :
  jj X f (Ko λi j=>.int (g i j)):=by
 intro pins s σ H x y v u Q I rx ry h;let⟨i,j,rfl,rfl,q⟩:=h;let⟨t,rfl⟩:=rx;let⟨t',rfl⟩:=ry;exact rule i j t t' s _ _ ⟨.int (g i j),H,I.tok _,⟨_,rfl⟩,q⟩
def PB{f:Value->Value->Sem Value}{g:Int->Int->Bool}
  (rule:∀ (i j:Int) (t u:Tok) (s:Shared) (Q:Value->Shared->Prop) (E:Value->Shared->Prop),Q (.bool (g i j)) s->wpAny (model X.prog X.w) X.A (f (.int i t) (.int j u)) Q E s) :
  jj X f (Ko λi j=>.bl (g i j)):=by
 intro pins s σ H x y v u Q I rx ry h;let⟨i,j,rfl,rfl,q⟩:=h;let⟨t,rfl⟩:=rx;let⟨t',rfl⟩:=ry;exact rule i j t t' s _ _ ⟨.bl (g i j),H,I,rfl,q⟩
def KH(i j:Int):Prop:=0 < j/\j < 1073741824
def yj(i j:Int):Prop:=(-(2 ^ 64) < i/\i < 2 ^ 64)\/(-(2 ^ 64) < j/\j < 2 ^ 64)
def yj.ok(h:yj i j):IntMulOk i j:=by
 rcases h with ⟨h1,h2⟩|⟨h1,h2⟩
 ·exact .of_left (intBits_le_64 h1 h2)
 ·exact .of_right (intBits_le_64 h1 h2)
def On:jj X (binaryOp .Add) (Ko λi j=>.int (i+j)):=QL λ_ _ _ _ _ _ _ q=>add_int q
def Nn:jj X (binaryOp .Sub) (Ko λi j=>.int (i - j)):=QL λ_ _ _ _ _ _ _ q=>sub_int q
def Nf:jj X (binaryOp .Mult) (rI yj λi j=>.int (i * j)):=SK λ_ _ _ _ _ _ _ hc q=>mul_int q hc.ok
def Md:jj X (binaryOp .FloorDiv) (rI KH λi j=>.int (i / j)):=SK λi j _ _ _ _ _ hc q=>by
 have h1:(0:Int) < j:=hc.1;have h2:j < 1073741824:=hc.2;exact floordiv_int (by lia) (by rw[Int.fdiv_eq_ediv_of_nonneg i (by lia)];exact q) (.inl (PyProof.noPylong_small (by lia)))
def NB:jj X (binaryOp .Mod) (rI (λ_ j=>0 < j) λi j=>.int (i % j)):=SK λi j _ _ _ _ _ hc q=>by
 have h1:(0:Int) < j:=hc;exact mod_int' (by lia) (by rw[Int.fmod_eq_emod_of_nonneg i (by lia)];exact q)
def TL{f:Value->Sem Value}{g:Int->Int}
  (rule:∀ (i:Int) (t:Tok) (s:Shared) (Q:Value->Shared->Prop) (E:Value->Shared->Prop),Q (.int (g i) s.toks) { s with toks:=s.toks+1 }->wpAny (model X.prog X.w) X.A (f (.int i t)) Q E s) :
  Td X f (rU λi=>.int (g i)):=by
 intro pins s σ H x v Q I rx h;let⟨i,rfl,q⟩:=h;let⟨t,rfl⟩:=rx;exact rule i t s _ _ ⟨.int (g i),H,I.tok _,⟨_,rfl⟩,q⟩
def N2:Td X (unaryOp .USub) (rU λi=>.int (-i)):=TL λ_ _ _ _ _ q=>neg_int q
def oa:V->V->Bool
 | .Ux,.Ux=>true|.Ux,.int _=>true|.int _,.Ux=>true|.Ux,.bl _=>true|.bl _,.Ux=>true|.Ux,.str _=>true|.str _,.Ux=>true
 | .int _,.int _=>true|.bl _,.bl _=>true|.str _,.str _=>true|.X7 _,.X7 _=>true
 | .int _,.str _=>true|.str _,.int _=>true|.bl _,.str _=>true|.str _,.bl _=>true
 | _,_=>false
def T7:R2:=λx y H Q=>oa x y=true/\Q (.bl (!decide (x=y))) H
def Lh:decide (V.int i=V.int j)=(i == j):=by
 rw[vF];simp
def Ob:decide (V.bl i=V.bl j)=(i == j):=by
 rw[vF];simp
def KM:decide (V.str i=V.str j)=(i == j):=by
 rw[vF];simp
def Mj:decide (V.X7 i=V.X7 j)=(i.toList == j.toList):=by
 rw[vF];cases i;cases j;simp
def da(I:Inv X pins σ H s)(q:Q (.bl k) H)(e:k=k'):EP X pins σ Q (.bool k') s:=by
 subst e;exact⟨.bl k,H,I,rfl,q⟩
def Rl:jj X (compareOp .NotEq) T7:=by
 intro pins s σ H x y v u Q I rx ry h;let⟨hs,q⟩:=h;cases x with
 | Ux =>
  cases rx;cases y with
  | Ux=>cases ry;exact PySem.EqNone.ne_none_none (da I q (by simp))
  | bl j=>cases ry;exact PySem.EqNone.ne_none_bool (da I q (by simp))
  | int j=>let⟨t',rfl⟩:=ry;exact PySem.EqNone.ne_none_int (da I q (by simp))
  | str j=>let⟨t',rfl⟩:=ry;exact PySem.EqNone.ne_none_str (da I q (by simp))
  | _=>exact absurd (show false=true from hs) xA
 | bl i =>
  cases rx;cases y with
  | Ux=>cases ry;exact PySem.EqNone.ne_bool_none (da I q (by simp))
  | bl j=>cases ry;exact ne_bool (da I q (jE not Ob))
  | str j=>let⟨t',rfl⟩:=ry;exact PySem.EqMixed.ne_bool_str (da I q (by simp))
  | _=>exact absurd (show false=true from hs) xA
 | int i =>
  let⟨t,rfl⟩:=rx;cases y with
  | Ux=>cases ry;exact PySem.EqNone.ne_int_none (da I q (by simp))
  | int j=>let⟨t',rfl⟩:=ry;exact ne_int (da I q (jE not Lh))
  | str j=>let⟨t',rfl⟩:=ry;exact PySem.EqMixed.ne_int_str (da I q (by simp))
  | _=>exact absurd (show false=true from hs) xA
 | str i =>
  let⟨t,rfl⟩:=rx;cases y with
  | Ux=>cases ry;exact PySem.EqNone.ne_str_none (da I q (by simp))
  | bl j=>cases ry;exact PySem.EqMixed.ne_str_bool (da I q (by simp))
  | int j=>let⟨t',rfl⟩:=ry;exact PySem.EqMixed.ne_str_int (da I q (by simp))
  | str j=>let⟨t',rfl⟩:=ry;exact ne_str (da I q (jE not KM))
  | _=>exact absurd (show false=true from hs) xA
 | X7 i =>
  let⟨t,rfl⟩:=rx;cases y with
  | X7 j=>let⟨t',rfl⟩:=ry;exact W.ne_bytes (da I q (jE not Mj))
  | _=>exact absurd (show false=true from hs) xA
 | _=>cases y<;>exact absurd (show false=true from hs) xA
def Jy:jj X (compareOp .Lt) (Ko λi j=>.bl (decide (i < j))):=PB λ_ _ _ _ _ _ _ q=>lt_int q
def Gi:jj X (compareOp .LtE) (Ko λi j=>.bl (decide (i<=j))):=PB λ_ _ _ _ _ _ _ q=>le_int q
def MF:jj X (compareOp .Gt) (Ko λi j=>.bl (decide (j < i))):=PB λ_ _ _ _ _ _ _ q=>gt_int q
def Gh:jj X (compareOp .Is) (λx y H Q=>y=.Ux/\Q (.bl (decide (x=.Ux))) H):=by
 intro pins s σ H x y v u Q I rx ry h;let⟨rfl,q⟩:=h;cases ry;refine is_none_gen (da I q ?_);cases x<;>first
  | (cases rx;rfl)
  | (let⟨t,rfl⟩:=rx;rfl)
def DR:jj X (compareOp .IsNot) (λx y H Q=>y=.Ux/\Q (.bl (!decide (x=.Ux))) H):=by
 intro pins s σ H x y v u Q I rx ry h;let⟨rfl,q⟩:=h;cases ry;refine isnot_none_gen (da I q ?_);cases x<;>first
  | (cases rx;rfl)
  | (let⟨t,rfl⟩:=rx;rfl)
def isObj:HO->Bool
 | .lst _=>true
 | .ins _ _ _=>true
 | _=>false
def uA(I:Inv X pins σ H s)(h:H a=some o)(p:isObj o=true):∃ob,s.heap.get? a=some ob/\ob.cls≠.type "tuple":=by
 cases o with
 | lst xs =>
  obtain⟨_,its,n,_,e⟩:xs.length<=sizeLine/\∃ (its:List Value) (n:Nat),aN xs its/\s.heap.get? a=some { cls:=.type "list",data:=.seq its.toArray n }:=I.UC a _ h;exact⟨_,e,(by show Value.type "list"≠.type "tuple";decide +kernel)⟩
 | ins C dx fs =>
  have x:=I.UC a _ h;let⟨_,_,_,e,_⟩:=x;exact⟨_,e,(by show Value.ref C≠.type "tuple";exactλz=>by cases z)⟩
 | _=>exact absurd (show false=true from p) xA
def jj.or(h:jj X f r)(h':jj X f r'):jj X f (λx y H Q=>r x y H Q\/r' x y H Q):=by
 intro pins s σ H x y v u Q I rx ry q;rcases q with q|q
 ·exact h pins s σ H x y v u Q I rx ry q
 ·exact h' pins s σ H x y v u Q I rx ry q
def dQ(b:Expr)(h:op≠.In:=by decide)(h2:op≠.NotIn:=by decide):behindInMarks op b=false:=by
 have e1:(op == CmpOp.In)=false:=by cases op<;>first|rfl|exact absurd rfl h
 have e2:(op == CmpOp.NotIn)=false:=by cases op<;>first|rfl|exact absurd rfl h2
 cases b<;>simp[behindInMarks,e1,e2]
def LR(ho:jj X (compareOp op) r)(ha:PE X a ta)(hb:PE X b tb)(hm:behindInMarks op b=false):PE X (.Compare a [op] [b] pos) (Qg r ta tb):=by
 intro pins s σ H Q I h;exact wpAny_Compare1 (Pd ha hb I h λv u s2 x y H2 I2 rx ry q=>ho pins s2 σ H2 x y v u Q I2 rx ry q) hm
def MJ(t:TE):TT:=λσ H Q=>t σ H λx H'=>∃k,x=.bl k/\Q k H'
def DQ(ho:jj X (compareOp op) r)(ha:PE X a ta)(hb:PE X b tb)(hm:behindInMarks op b=false):PT X (.Compare a [op] [b] pos) (MJ (Qg r ta tb)):=by
 intro pins s σ H Q I h;refine wpAny_isTrue_Compare1 (ck (ha pins s σ H _ I h) λv s1 ⟨x,H1,I1,r1,q1⟩=>ck (hb pins s1 σ H1 _ I1 q1) λu s2 ⟨y,H2,I2,r2,q2⟩ =>
  ck (ho pins s2 σ H2 x y v u _ I2 r1 r2 q2) λc s3 ⟨z,H3,I3,r3,k,e,q3⟩=>?_) hm
 subst e;cases r3;exact xY ⟨H3,I3,q3⟩
def BU(r r':R2)(ta tb tc:TE):TE:=λσ H Q=>ta σ H λx H1=>tb σ H1 λy H2=>r x y H2 λz H3=>∃k,z=.bl k /\
 (if k=true then tc σ H3 λw' H4=>r' y w' H4 Q else Q (.bl false) H3)
def IK(ho:jj X (compareOp op) r)(VX:jj X (compareOp WT) r')(ha:PE X a ta)(hb:PE X b tb)(hc:PE X c tc)
  (hm:lastMarks [op,WT] [b,c]=false:=by with_unfolding_all rfl):PE X (.Compare a [op,WT] [b,c] pos) (BU r r' ta tb tc):=by
 intro pins s σ H Q I h;refine Compare_chain (ck (ha pins s σ H _ I h) λv s1 ⟨x,H1,I1,r1,q1⟩=>chain_link (ck (hb pins s1 σ H1 _ I1 q1) λu s2 ⟨y,H2,I2,r2,q2⟩ =>
  ck (ho pins s2 σ H2 x y v u _ I2 r1 r2 q2) λd s3 ⟨z,H3,I3,r3,k,e,q3⟩=>?_)) hm
 subst e;cases r3;refine xY ?_;cases k with
 | false=>exact ite_ff ⟨.bl false,H3,I3,rfl,q3⟩
 | true=>exact ite_tt (chain_last (ck (hc pins s3 σ H3 _ I3 q3) λw' s4 ⟨z',H4,I4,r4,q4⟩=>VX pins s4 σ H4 y z' u w' Q I4 r2 r4 q4))
def IZ(ho:jj X (compareOp op) r)(VX:jj X (compareOp WT) r')(ha:PE X a ta)(hb:PE X b tb)(hc:PE X c tc)
  (hm:lastMarks [op,WT] [b,c]=false:=by with_unfolding_all rfl):PT X (.Compare a [op,WT] [b,c] pos) (MJ (BU r r' ta tb tc)):=by
 intro pins s σ H Q I h;refine isTrue_chain (ck (ha pins s σ H _ I h) λv s1 ⟨x,H1,I1,r1,q1⟩=>test_link (ck (hb pins s1 σ H1 _ I1 q1) λu s2 ⟨y,H2,I2,r2,q2⟩ =>
  ck (ho pins s2 σ H2 x y v u _ I2 r1 r2 q2) λd s3 ⟨z,H3,I3,r3,k,e,q3⟩=>?_)) hm
 subst e;cases r3;refine xY ?_;cases k with
 | false =>
  let⟨k',e',q'⟩:=q3;cases e';exact ite_ff ⟨H3,I3,q'⟩
 | true =>
  refine ite_tt (test_last (ck (hc pins s3 σ H3 _ I3 q3) λw' s4 ⟨z',H4,I4,r4,q4⟩=>ck (VX pins s4 σ H4 y z' u w' _ I4 r2 r4 q4) λd' s5 ⟨z2,H5,I5,r5,k2,e2,q5⟩=>?_));subst e2;cases r5;exact xY ⟨H5,I5,q5⟩
def sx:(sizeLine:Nat) < 2 ^ 63:=by rw[qX];decide
def vals1(r:aN [x] us):∃u,us=[u]/\RelV x u:=by
 cases r with
 | cons r1 r2=>cases r2;exact⟨_,rfl,r1⟩
def vals2(r:aN [x,y] us):∃u w',us=[u,w']/\RelV x u/\RelV y w':=by
 cases r with
 | cons r1 r2 =>
  cases r2 with
  | cons r3 r4=>cases r4;exact⟨_,_,rfl,r1,r3⟩
section
variable {K:W.Frag}
end
structure ej(k:Nat)(A:Around):Prop where
 hd:A.handled=none
 dp:A.depth+3 * k+5 < recursionLimit
 un:A.units+16 * k+200 < cLine
def ej.mono(r:ej k A)(h:j<=k):ej j A:=⟨r.hd,by have:=r.dp;lia,by have:=r.un;lia⟩
def ej.deeper(r:ej (k+1) A)(env:Env):ej k (A.deeper env) :=
 ⟨r.hd,by have:=r.dp;show A.depth+1+3 * k+5 < _;lia,by have:=r.un;show A.units+3+16 * k+200 < _;lia⟩
def ej.in1(r:ej (k+1) A):ej k A.in1 :=
 ⟨r.hd,by have:=r.dp;show A.depth+3 * k+5 < _;lia,by have:=r.un;show A.units+1+16 * k+200 < _;lia⟩
def ej.depth(r:ej k A):A.depth < recursionLimit:=by have:=r.dp;lia
def ej.units(r:ej k A):A.units+64 < cLine:=by have:=r.un;lia
def Sa:TA:=λ_ H Q=>Q [] H
def Qv(ta:TE)(tr:TA):TA:=λσ H Q=>ta σ H λx H1=>tr σ H1 λxs H2=>Q (x::xs) H2
def dB:PA X [] Sa:=λ_ _ _ _ H Q I h=>kN ⟨[],H,I,.nil,h⟩
def bO(ha:PE X e te)(hr:PA X es t)(hs:starEach (e::es) X.env=(false,eval e X.env)::starEach es X.env:=by rfl):PA X (e::es) (Qv te t):=by
 intro pos pins s σ H Q I h;rw[hs];show wpAny _ _ (spliced ((false,eval e X.env)::backTo pos (starEach es X.env))) _ _ s;refine jL (ck (ha pins s σ H _ I h) λu s1 ⟨x,H1,I1,r1,q1⟩=>?_);exact ck (hr pos pins s1 σ H1 _ I1 q1) λus s2 ⟨xs,H2,I2,r2,q2⟩=>⟨x::xs,H2,I2,.cons r1 r2,q2⟩
def Sw(t:TA):TE:=λσ H Q=>t σ H λxs H1=>xs.length<=sizeLine/\∀p,H1 p=none->Q (.ref p) (upd H1 p (.tup xs))
def RT(t:TA):TE:=λσ H Q=>t σ H λxs H1=>xs.length<=sizeLine/\∀p,H1 p=none->Q (.ref p) (upd H1 p (.lst xs))
def GZ{x1}(h:PA X es t):PE X (.Tuple es x1 pos) (Sw t):=by
 intro pins s σ H Q I hq;refine wpAny_Tuple_spliced (ck (h pos pins s σ H _ I hq) λus s1 ⟨xs,H1,I1,r,z,q⟩=>⟨by rw[<- r.length];exact z,?_⟩);have hf:H1 s1.heap.objs.size=none:=I1.UC.fresh (yN _);refine⟨.ref s1.heap.objs.size,upd H1 s1.heap.objs.size (.tup xs),I1.laid (t':=s1.toks) (λb u e=>zU _ e) (yN _) ?_,rfl,q _ hf⟩;exact⟨z,us,r,⟨_,zX _ rfl,rfl,_,rfl⟩,_,zX _ rfl,rfl⟩
def zd(h:PA X es t):PE X (.List es pos) (RT t):=by
 intro pins s σ H Q I hq;refine wpAny_List_spliced (ck (h pos pins s σ H _ I hq) λus s1 ⟨xs,H1,I1,r,z,q⟩=>⟨by rw[<- r.length];exact z,?_⟩);have hf:H1 s1.heap.objs.size=none:=I1.UC.fresh (yN _);refine⟨.ref s1.heap.objs.size,upd H1 s1.heap.objs.size (.lst xs),I1.laid (t':=s1.toks) (λb u e=>zU _ e) (yN _) ?_,rfl,q _ hf⟩;exact⟨z,us,0,r,zX _ rfl⟩
abbrev Sp:=List V->Hp->VK->XK->Prop
abbrev Kk:=List Env->Hp->Shared->XK->Value->Shared->Prop
structure B5(P:Program)(w:World)(K:W.Frag)(mg:Str->Option Value)(base:Heap)(A:Around)(outer:List Env)(s:Shared)(H:Hp):Prop where
 frames:A.frames=some outer
 mod:Mod K mg base
 bs:∀b o,base.get? b=some o->s.heap.get? b=some o/\H b=none
 Xn:base.objs.size<=s.heap.objs.size
 Vl:s.heap.FunFrames base outer
 X9:∀b∈iL outer,H b=none
 UC:oI P w H s.heap
 bare:AllBare s.gens
def CE(outer:List Env)(P:Program)(w:World)(H:Hp)(s:Shared)(Q:VK)(u:Value)(s':Shared):Prop :=
 ∃v H',s'.os=s.os/\AllBare s'.gens/\Un (iL outer) [] H H' s.heap s'.heap/\oI P w H' s'.heap/\RelV v u/\Q v H'
def CR(CX:Kk)(outer:List Env)(P:Program)(w:World)(H:Hp)(s:Shared)(Q:VK)(E:XK)(r:Result)(s':Shared):Prop :=
 match r with
 | .ok (.ret u)=>CE outer P w H s Q u s'
 | .ok _=>False
 | .error e=>CX outer H s E e s'
structure nK(P:Program)(w:World)(K:W.Frag)(mg:Str->Option Value)(base:Heap)(CX:Kk)(k:Nat)(f:Addr)(fd:FuncData)(ps:List Str)(sp:Sp):Prop where
 len:∀vs H Q E,sp vs H Q E->vs.length=ps.length
 run:∀ (A:Around) (outer:List Env) (s:Shared) (H:Hp) (args:Args) (us:List Value) (vs:List V) (Q:VK) (E:XK),ej k A->B5 P w K mg base A outer s H->BindsTo s fd args (ps.zip us)->aN vs us->sp vs H Q E ->
  codeAny (model P w) A (.call (.ref f) args) (CR CX outer P w H s Q E) s
def nK.mono{K:W.Frag}(F:nK P w K mg base CX j f fd ps sp)(h:j<=k) :
  nK P w K mg base CX k f fd ps sp:=⟨F.len,λA outer s H args us vs Q E hr=>F.run A outer s H args us vs Q E (hr.mono h)⟩
def Inv.aa1(I:Inv X pins σ H s):B5 X.prog X.w X.K X.mg X.base X.A X.stack s H :=
 ⟨I.ok.frames,I.ok.mod,I.bs,yD I.ok.Xn I.sz,I.stack,I.Vm,I.UC,I.bare⟩
def Inv.after(I:Inv X pins σ H s)(h:CE X.stack X.prog X.w H s Q u s'):EP X pins σ Q u s':=by
 let⟨v,H',os,bare,un,UC,r,q⟩:=h;let⟨hh,g,d,t,os'⟩:=s';obtain rfl:os'=s.os:=os;exact⟨v,H',I.call (h':=hh) (g':=g) (d':=d) (t':=t) (ch:=[]) un UC bare (λb z=>absurd z (by simp)),r,q⟩
def Qp(sp:Sp)(ZV:List V)(E:XK)(t:TA):TE:=λσ H Q=>t σ H λvs H1=>sp (vs++ZV) H1 Q E
def Binds(K:W.Frag)(fd:FuncData)(ps:List Str)(ds:List Value):Prop :=
 ∀ (s:Shared) (us:List Value),K.In s.heap->(us++ds).length=ps.length->BindsTo s fd ⟨us,[]⟩ (ps.zip (us++ds))
def Binds.all{K:W.Frag}(h:∀us:List Value,us.length=ps.length->bindArgs fd ⟨us,[]⟩=pure (ps.zip us)):Binds K fd ps []:=λs us _ hl=>by
 rw[qH] at hl ⊢;exact .of_eq (h us hl)
def eu(CX:Kk)(X:Cx)(E:XK):Prop:=∀ (pins:List (Addr×Obj)) (σ:St) (H:Hp) (s:Shared) (e:Value) (s':Shared),Inv X pins σ H s->CX X.stack H s E e s'->X.xe e s'
def CW(F:nK X.prog X.w X.K X.mg X.base CX k f fd ps sp)(hr:ej k X.A)(hb:Binds X.K fd ps ds)(hd:aN ZV ds)(hx:eu CX X E)
  (I:Inv X pins σ H s) (r:aN vs us) (h:sp (vs++ZV) H Q E):wpAny (model X.prog X.w) X.A (call (.ref f) us) (EP X pins σ Q) X.xe s:=by
 have r2:aN (vs++ZV) (us++ds):=r.append hd;have hl:(us++ds).length=ps.length:=by rw[<- r2.length];exact F.len _ _ _ _ h
 refine vU (jU (F.run X.A X.stack s H ⟨us,[]⟩ (us++ds) (vs++ZV) Q E hr I.aa1 (hb s us I.V6 hl) r2 h) λr s' hq=>?_);cases r with
 | error e=>exact hx pins σ H s e s' I hq
 | ok fl =>
  cases fl with
  | ret u=>exact I.after hq
  | next=>exact False.elim hq
  | brk=>exact False.elim hq
  | cont=>exact False.elim hq
def DB(F:nK X.prog X.w X.K X.mg X.base CX k f fd ps sp)(hr:ej k X.A)(hg:Gl X x)(hm:X.mg x=some (.ref f))(hk:W.keepIn X.K (.ref f)=true)(hb:Binds X.K fd ps ds)(hd:aN ZV ds)(hx:eu CX X E)
  (ha:PA X (e::es) t) (Vi:(x == ("__debug__":Str))=false:=by decide) (he:starEach (e::es) X.env=(false,eval e X.env)::starEach es X.env:=by rfl) (U7:(backTo pos (starEach es X.env)).any (·.1)=false:=by rfl) :
  PE X (.Call (.Name x p) (e::es) [] pos) (Qp sp ZV E t):=by
 intro pins s σ H Q I h;refine jA (me I hg hm ?_ Vi);refine W.callWith_K (h₀:=X.base) I.ok.mod.XW hk (ck (ha pos pins s σ H _ I h) λus s1 ⟨vs,H1,I1,r,q⟩=>⟨I1.V6,?_⟩) he U7;exact CW F hr hb hd hx I1 r q
structure b9(N P:List Str)(sc:Scope):Prop where
 kind:sc.kind=.function
 co:sc.isCoroutine=false
 gen:sc.isGenerator=false
 nd:N.Nodup
 pre:N.take P.length=P
 par:∀x∈P,sc.names.lookup x=some .local \/ sc.names.lookup x=some .cell
 ZW:∀y∈sc.names,y.2≠.free
def u4{kindOf:Str->Option NameKind}:∀ {binds:List (Str×Value)}{m:Str->Option Value},(∀v,(x,v)∉binds)->bindL kindOf binds m x=m x
 | [],_,_=>rfl
 | (n,v)::r,m,h=>by
  unfold bindL;rw[u4 λw hw=>h w (zC _ hw)];split
  ·have:x≠n:=by rintro rfl;exact h v zE
   simp[this]
  ·rfl
def vp{kindOf:Str->Option NameKind}:∀ {binds:List (Str×Value)}{m:Str->Option Value},(∀v,(x,v)∉binds)->bindC kindOf binds m x=m x
 | [],_,_=>rfl
 | (n,v)::r,m,h=>by
  unfold bindC;rw[vp λw hw=>h w (zC _ hw)];split
  ·rfl
  ·have:x≠n:=by rintro rfl;exact h v zE
   simp[this]
def uF{kindOf:Str->Option NameKind}:∀ {P:List Str}{vs:List Value}{i:Nat}{m:Str->Option Value},P.Nodup->P[i]?=some x->vs[i]?=some v->kindOf x=some .local ->
  bindL kindOf (P.zip vs) m x=some v
 | [],_,_,_,_,h,_,_=>by simp at h
 | _::_,[],_,_,_,_,h,_=>by simp at h
 | p::P,w::vs,0,m,nd,h1,h2,hk=>by
  simp at h1 h2;subst h1;subst h2;show bindL kindOf ((p,w)::P.zip vs) m p=_;unfold bindL;rw[u4 λv hv=>(List.nodup_cons.mp nd).1 (wG hv).1,yM hk];simp
 | p::P,w::vs,i+1,m,nd,h1,h2,hk=>by
  show bindL kindOf ((p,w)::P.zip vs) m x=_;unfold bindL;exact uF (i:=i) (List.nodup_cons.mp nd).2 (by simpa using h1) (by simpa using h2) hk
def vn{kindOf:Str->Option NameKind}:∀ {P:List Str}{vs:List Value}{i:Nat}{m:Str->Option Value},P.Nodup->P[i]?=some x->vs[i]?=some v->kindOf x≠some .local ->
  bindC kindOf (P.zip vs) m x=some v
 | [],_,_,_,_,h,_,_=>by simp at h
 | _::_,[],_,_,_,_,h,_=>by simp at h
 | p::P,w::vs,0,m,nd,h1,h2,hk=>by
  simp at h1 h2;subst h1;subst h2;show bindC kindOf ((p,w)::P.zip vs) m p=_;unfold bindC;rw[vp λv hv=>(List.nodup_cons.mp nd).1 (wG hv).1,yO hk];simp
 | p::P,w::vs,i+1,m,nd,h1,h2,hk=>by
  show bindC kindOf ((p,w)::P.zip vs) m x=_;unfold bindC;exact vn (i:=i) (List.nodup_cons.mp nd).2 (by simpa using h1) (by simpa using h2) hk
def start(N:List Str)(vs:List V):St:=vs.map some++List.replicate (N.length - vs.length) none
def sD(CX:Kk)(P:Program)(w:World)(K:W.Frag)(mg:Str->Option Value)(base:Heap)(N:List Str)(qual:Str)(scope:Scope)(f:Addr)(cd:Value)(A:Around)(outer:List Env)(s:Shared)(H:Hp)(E:XK):Cx where
 prog:=P
 w:=w
 K:=K
 mg:=mg
 base:=base
 A:=A.deeper (envOfC qual scope s.heap.objs.size f cd)
 N:=N
 UG:=s
 Uz:=H
 env:=envOfC qual scope s.heap.objs.size f cd
 outer:=outer
 stack:=envOfC qual scope s.heap.objs.size f cd::outer
 ex:=[]
 calm:=true
 fn:=λ_=>true
 pn:=[]
 xe:=λe s'=>wpAny (model P w) (A.deeper (envOfC qual scope s.heap.objs.size f cd)) (leaving (envOfC qual scope s.heap.objs.size f cd) e) (λ_ VG=>CX outer H s E e VG) (λe' VG=>CX outer H s E e' VG) s'
def rS{sc:Scope}{n:Nat}(h:sc.names.lookup x=some .cell):∃c,(cellsFrom n sc.names []).lookup x=some c:=by
 have q:=W.cellsFrom_some sc.names n [] (.inl h);exact Option.isSome_iff_exists.mp q
def uU{CX:Kk}{K:W.Frag}{mg:Str->Option Value}{ps:List Str}{scope:Scope}{cd:Value}{A:Around}{outer:List Env}{s:Shared}{E:XK}{us:List Value}{vs:List V}
  (S:b9 N ps scope) (hd:A.handled=none) (e0:B5 P w K mg base A outer s H) (hl:vs.length=ps.length) (r:aN vs us)
  (x:InCallC s s.heap.objs.size (bindL (envOfC qual scope s.heap.objs.size f cd).kindOf (ps.zip us) λ_=>none) (cellsFrom (s.heap.objs.size+1) scope.names []) (bindC (envOfC qual scope s.heap.objs.size f cd).kindOf (ps.zip us) λ_=>none) s1) :
  Inv (sD CX P w K mg base N qual scope f cd A outer s H E) [] (start N vs) H s1:=by
 have U7:ps.length<=N.length:=by have:=jE List.length S.pre;rw[jY] at this;lia
 let⟨h1,tk,rfl,hk⟩:=x.done;have XY:∀b:Addr,b∉(sD CX P w K mg base N qual scope f cd A outer s H E).ex:=λb z=>absurd (show b∈([]:List Addr) from z) (by simp);refine⟨⟨e0.mod,S.kind,rfl,rfl,yN _,λy z c h1 h2=>?_,λy hy=>?_,λy c _ h=>?_,λ_=>hd,Around.frames_deeper e0.frames,.inr ⟨rfl,rfl⟩,λb z=>absurd z (XY b),e0.bs,e0.Xn,λb _ _=>XY b,λb z=>absurd z (XY b),e0.Vl,e0.X9⟩,
  rfl,e0.bare,Un.kept hk,⟨_,x.toInCall.ns,λi y v h1 h2 h3=>?_⟩,λy c h=>⟨_,x.cell y c h⟩,e0.UC.fresh (yN _),λy c h=>?_,λp hp=>absurd (show p∈([]:List (Addr×Obj)) from hp) (by simp),e0.UC.kept hk,?_⟩
 ·exact name_of_addr x.apart (kE h1) (kE h2)
 ·have hy:scope.names.lookup y=some .cell\/scope.names.lookup y=some .free:=hy;rcases hy with hy|hy
  ·exact rS hy
  ·exact absurd rfl (S.ZW _ (kE hy))
 ·exact jV (x.above y c (kE h))
 ·have hi:i < vs.length:=by
   unfold start at h2;by_cases hi:i < vs.length
   ·exact hi
   ·rw[yU (by simpa using hi)] at h2;rw[yY] at h2;split at h2<;>cases h2
  have ha:vs[i]?=some v:=by
   unfold start at h2;rw[yT (by simpa using hi),zO] at h2;cases e:vs[i]? with
   | none=>rw[e] at h2;cases h2
   | some a=>rw[e] at h2;cases h2;rfl
  let⟨u,hu,rv⟩:=r.get ha;have hp:ps[i]?=some y:=by
   rw[<- S.pre,List.getElem?_take_of_lt (by lia)];exact h1
  have ndP:ps.Nodup:=by rw[<- S.pre];exact S.nd.sublist (List.take_sublist _ _)
  refine⟨u,rv,?_⟩;rcases S.par y (qD hp) with k|k
  ·exact .inl ⟨k,uF ndP hp hu k⟩
  ·let⟨c,e⟩:=rS (n:=s.heap.objs.size+1) k;refine .inr ⟨.inl k,c,e,?_⟩;have q:=x.cell y c e;rw[vn ndP hp hu (by show scope.names.lookup y≠_;rw[k];decide)] at q;exact q
 ·exact e0.UC.fresh (jV (x.above y c (kE h)))
 ·unfold start;show _=N.length;rw[zN,zD,xO];lia
def Gq{K:W.Frag}{kV:Value}
  {Wx:Array (Option Value)}{N ps:List Str}{sp:Sp}(lk:K.lookup f=some ⟨oc,od,.func (W.fnOf name qual params body scope dV kV doc pm an UT ct),Wx⟩) (Vd:W.codeIn K UT qual=true) (S:b9 N ps scope)
  (len:∀vs H Q E,sp vs H Q E->vs.length=ps.length)
  (aa2:∀ (A:Around) (outer:List Env) (s:Shared) (H:Hp) (vs:List V) (Q:VK) (E:XK),ej k (A.deeper (envOfC qual scope s.heap.objs.size f UT))->sp vs H Q E ->
   ∃t,za (sD CX P w K mg base N qual scope f UT A outer s H E) body t/\t { nx:=λ_ H'=>Q .Ux H',rt:=Q } (start N vs) H) :
  nK P w K mg base CX (k+1) f (W.fnOf name qual params body scope dV kV doc pm an UT ct) ps sp:=by
 refine⟨len,λA outer s H args us vs Q E hr e0 hb r hsp=>?_⟩;have hl:=len _ _ _ _ hsp;have KX:K.In s.heap:=e0.mod.XW.keeps λb o e=>(e0.bs b o e).1;have lim:s.heap.NoLimit:=e0.mod.nolimit.keeps λb o e=>(e0.bs b o e).1;have Xr:∀y∈ps.zip us,scope.names.lookup y.1=some .local \/ (scope.names.lookup y.1=some .cell/\((cellsFrom (s.heap.objs.size+1) scope.names []).lookup y.1).isSome=true):=λ⟨n,v⟩ hy=>by
  rcases S.par n (wG hy).1 with q|q
  ·exact .inl q
  ·exact .inr ⟨q,W.cellsFrom_some _ _ _ (.inl q)⟩
 refine codeAny_call_function hr.depth (KX _ _ lk) rfl S.co S.gen rfl (W.codeRec_of KX Vd) (hb _ _ _ _ ?_);refine wpAny_newFunctionEnv_cells S.kind Xr λenv he s1 x=>?_;subst he;refine⟨lim.keeps x.toInCall.keep,codeAny_func ?_⟩;let⟨t,ht,hq⟩:=aa2 A outer s H vs Q E (hr.deeper _) hsp;have I:Inv (sD CX P w K mg base N qual scope f UT A outer s H E) [] (start N vs) H s1:=uU S hr.hd e0 hl r x;refine xB (ht [] s1 (start N vs) H _ I hq) (λfl s' hs=>?_) λe s' hs=>hs;have fin:∀ {σ':St}{H':Hp}{v:V}{u:Value},Inv (sD CX P w K mg base N qual scope f UT A outer s H E) [] σ' H' s'->RelV v u->Q v H'->CE outer P w H s Q u s' :=
  λ{σ' H' v u} J rv q=>⟨v,H',J.os,J.bare,J.base,J.UC,rv,q⟩
 cases fl with
 | ret u =>
  let⟨v,σ',H',J,rv,q⟩:=hs;exact fin J rv q
 | next =>
  let⟨σ',H',J,q⟩:=hs;exact fin (v:=V.Ux) (u:=Value.none) J rfl q
 | brk =>
  let⟨_,_,_,q⟩:=hs;exact False.elim q
 | cont =>
  let⟨_,_,_,q⟩:=hs;exact False.elim q
section
variable {id T:String}
def RH(r:List V->Hp->VK->Prop)(t:TA):TE:=λσ H Q=>t σ H λvs H1=>r vs H1 Q
def lL(hc:f9 X (.builtin id) r)(hg:Gl X x)(hm:X.mg x=none)(hv:bootBuiltins x=some (.builtin id))(ha:PA X (e::es) t)(hn:x≠"__name__":=by decide)(Vi:(x == ("__debug__":Str))=false:=by decide)
  (he:starEach (e::es) X.env=(false,eval e X.env)::starEach es X.env:=by rfl) (U7:(backTo pos (starEach es X.env)).any (·.1)=false:=by rfl):PE X (.Call (.Name x p) (e::es) [] pos) (RH r t):=by
 intro pins s σ H Q I h;refine jA (fZ I hg hm hv ?_ hn Vi);exact PyProof.Rows.callWith_builtin1 (ck (ha pos pins s σ H _ I h) λus s1 ⟨vs,H1,I1,r1,q1⟩=>hc pins s1 σ H1 vs us Q I1 r1 q1) he U7
def o9(hc:f9 X (.type T) r)(hg:Gl X x)(hm:X.mg x=none)(hv:bootBuiltins x=some (.type T))(ha:PA X (e::es) t)(hn:x≠"__name__":=by decide)(Vi:(x == ("__debug__":Str))=false:=by decide)
  (he:starEach (e::es) X.env=(false,eval e X.env)::starEach es X.env:=by rfl) (U7:(backTo pos (starEach es X.env)).any (·.1)=false:=by rfl):PE X (.Call (.Name x p) (e::es) [] pos) (RH r t):=by
 intro pins s σ H Q I h;refine jA (fZ I hg hm hv ?_ hn Vi);exact qU (ck (ha pos pins s σ H _ I h) λus s1 ⟨vs,H1,I1,r1,q1⟩=>hc pins s1 σ H1 vs us Q I1 r1 q1) he U7
end
end L2
namespace HT
open PySem PyProof.Rows
def lexLt:List Int->List Int->Bool
 | [],[]=>false
 | [],_::_=>true
 | _::_,[]=>false
 | x::xs,y::ys=>if x=y then lexLt xs ys else decide (x < y)
def cm(x y:Int)(xs ys:List Int):lexLt (x::xs) (y::ys)=if x=y then lexLt xs ys else decide (x < y):=rfl
section
open PySem.SeqAt
open PySem.AutoSeq1 (wpAny_loadPart')
open PySem.MeetsSeq PySem.MeetsSeq2 PySem.MeetsSeq3
end
def Lu(ht:IsTup s.heap t vs.toArray)(hb:IsTup s.heap b ws.toArray)(hv:vs≠[])
  (h1:ws=[]->Q (.ref t) s) (h2:ws≠[]->Q (.ref s.heap.objs.size) { s with heap:=s.heap.push { cls:=.type "tuple",data:=.seq (vs++ws).toArray } })
  (WU:vs.length+ws.length<=sizeLine):wpAny (model prog w) A (binaryOp .Add (.ref t) (.ref b)) Q E s:=by
 let⟨⟨cls,dd,data,sl⟩,ho,hc,n,hd⟩:=id ht;let⟨⟨aa3,dd2,data2,YG⟩,XZ,W5,n2,hd2⟩:=id hb;simp only at hc hd W5 hd2;subst hc hd W5 hd2;have e:vs.toArray++ws.toArray=(vs++ws).toArray:=by simp
 by_cases hw:ws=[]
 ·exact Zl ⟨_,ho,rfl⟩ ⟨_,XZ,rfl⟩ noFill_tuple_add seq_tuple_add vX vR (vO _ _)
   (tuple_addW1 t b vs.toArray ws.toArray n n2 dd dd2 sl YG (by simpa using hv) (by simp[hw])) ⟨ho,XZ,h1 hw⟩
 ·refine Zl ⟨_,ho,rfl⟩ ⟨_,XZ,rfl⟩ noFill_tuple_add seq_tuple_add vX vR (vO _ _)
   (tuple_addW2 t b vs.toArray ws.toArray n n2 dd dd2 sl YG (by simpa using hv) (by simpa using hw) (by rw[zH,zH];exact WU)) ⟨ho,XZ,?_⟩
  rw[e];exact h2 hw
def dS(n d:Nat):Option Int->Nat
 | none=>d
 | some v=>if v < 0 then (v+(n:Int)).toNat else min v.toNat n
def Aj(n d:Nat):dS n d none=d:=rfl
def D4(n d k:Nat):dS n d (some (k:Int))=min k n:=by
 show (if (k:Int) < 0 then ((k:Int)+(n:Int)).toNat else min (k:Int).toNat n)=min k n;rw[yO (by lia),yG]
def Od(n d:Nat)(hd:d<=n)(o:Option Int):dS n d o<=n:=by
 cases o with
 | none=>exact hd
 | some v =>
  show (if v < 0 then (v+(n:Int)).toNat else min v.toNat n)<=n;by_cases hv:v < 0
  ·rw[yM hv];lia
  ·rw[yO hv];exact Nat.min_le_right _ _
def Dj(v:Int)(n d:Nat):(if v < 0 then max (v+(n:Int)) 0 else min v (n:Int))=((dS n d (some v):Nat):Int):=by
 show (if v < 0 then max (v+(n:Int)) 0 else min v (n:Int))=(((if v < 0 then (v+(n:Int)).toNat else min v.toNat n):Nat):Int)
 by_cases hv:v < 0
 ·simp?[yM hv];lia
 ·simp?[yO hv];lia
def B4(lo hi:Option Int)(n:Nat):Builtin.Slice.sliceAdjust lo hi 1 (n:Int)=(((dS n 0 lo:Nat):Int),((dS n n hi:Nat):Int)):=by
 have h1:¬ ((1:Int) < 0):=by lia
 unfold Builtin.Slice.sliceAdjust;simp?[h1,qS];refine Prod.ext ?_ ?_
 ·cases lo with
  | none=>rfl
  | some v=>exact Dj v n 0
 ·cases hi with
  | none=>rfl
  | some v=>exact Dj v n n
def Cv(i j:Nat):Builtin.Slice.slicePlaces (i:Int) (j:Int) 1=j - i:=by
 unfold Builtin.Slice.slicePlaces;have h1:(1:Int) > 0:=by lia
 simp?[h1,xJ,Int.ediv_one];split<;>lia
def tm(p:IsPart v o)(h:Q o s):wpAny (model prog w) A (Builtin.Slice.slicePartIndex v) Q E s:=by
 cases p with
 | none=>exact slicePart_none h
 | int i t=>exact slicePart_int h
def jb{vl:Value}{lo hi:Option Int}{n:Nat}{Q:Int×Int×Nat->Shared->Prop}(hs:s.heap.IsSliceOf sl vl vu .none)(pl:IsPart vl lo)(pu:IsPart vu hi)
  (h:Q (((dS n 0 lo:Nat):Int),1,dS n n hi - dS n 0 lo) s):wpAny (model prog w) A (Builtin.Slice.sliceApplied (.ref sl) (pure (n:Int))) Q E s:=by
 let⟨os,Ye,hcs,ZX⟩:=id hs;unfold Builtin.Slice.sliceApplied Builtin.Slice.sliceFields;refine zV (zV (qV Ye ZX (x:=vl) rfl (zV (qV Ye ZX (x:=vu) rfl (zV (qV Ye ZX (x:=.none) rfl (zW ?_)))))));refine zV (slicePart_none ?_);show wpAny _ _ (if ((1:Int) == 0)=true then _ else _) _ _ s;rw[yO (by decide)];refine zV (tm pl (zV (tm pu (zV (zW ?_)))));show wpAny _ _ (match Builtin.Slice.sliceAdjust lo hi 1 (n:Int) with|(lo,hi)=>pure (lo,(1:Int),Builtin.Slice.slicePlaces lo hi 1)) _ _ s;rw[B4 lo hi n];show wpAny _ _ (pure (((dS n 0 lo:Nat):Int),(1:Int),Builtin.Slice.slicePlaces ((dS n 0 lo:Nat):Int) ((dS n n hi:Nat):Int) 1)) _ _ s;rw[Cv];exact zW h
def IF(xs:Array Value)(i k:Nat):((List.range k).filterMap λ(m:Nat)=>xs[((i:Int)+(m:Int) * 1).toNat]?).toArray=((xs.toList.drop i).take k).toArray:=by
 have e:(λ(m:Nat)=>xs[((i:Int)+(m:Int) * 1).toNat]?)=λm=>xs[i+m]?:=by
  funext m;have:((i:Int)+(m:Int) * 1).toNat=i+m:=by lia
  rw[this]
 rw[e];have:=pick_run xs i k;rw[List.filterMap_map] at this;have e2:((λx=>xs[x]?) ∘ λx=>i+x)=λm=>xs[i+m]?:=rfl;rw[e2] at this;rw[this]
def nS{items:Array Value}{vl:Value}{lo:Option Int}(ht:IsTup s.heap t items)(hs:s.heap.IsSliceOf sl vl vu .none)(pl:IsPart vl lo)(pu:IsPart vu hi)
  (hw:¬ (dS items.size 0 lo=0/\dS items.size items.size hi=items.size))
  (h:Q (.ref s.heap.objs.size) { s with heap:=s.heap.push { cls:=.type "tuple",data:=.seq ((items.toList.drop (dS items.size 0 lo)).take (dS items.size items.size hi - dS items.size 0 lo)).toArray } })
  (WU:items.size<=sizeLine):wpAny (model prog w) A (getItem (.ref t) (.ref sl)) Q E s:=by
 have WV:sizeOk (.seq ((items.toList.drop (dS items.size 0 lo)).take (dS items.size items.size hi - dS items.size 0 lo)).toArray):=by
  show ((items.toList.drop (dS items.size 0 lo)).take (dS items.size items.size hi - dS items.size 0 lo)).toArray.size<=sizeLine;rw[zH,jY,qK,wZ];lia
 have hj:dS items.size items.size hi<=items.size:=Od _ _ (yN _) hi;let⟨os,Ye,hcs,ZX⟩:=id hs;have hTs:s.TypeIs (.ref sl) "slice":=⟨os,Ye,hcs⟩
 unfold getItem
 try with_reducible refine xZ ?_
 first|refine zV (zW ?_)|skip
 refine zV (wpAny_sequenceKey ht.typeIs (by decide) ?_);refine zV (qE (name:=Str.ofString "__getitem__") ht.typeIs jH
  (qY jH ht.typeIs entry_tuple_getitem ?_ (args_tuple_getitem _ _)))
 show wpAny _ _ (Builtin.Tuple.tupleItemsOf (.ref t) >>= _) _ _ s;refine zV (tupleItemsOf_ ht ?_);refine zV (Zj hTs ?_);rw[yM (by decide)];refine zV (jb hs pl pu ?_);have Yg:¬ ((((dS items.size 0 lo:Nat):Int) == 0&&(1:Int) == 1&&(dS items.size items.size hi - dS items.size 0 lo) == items.size)=true):=by
  intro q;rw[zF,zF] at q;have q1:((dS items.size 0 lo:Nat):Int)=0:=eq_of_beq q.1.1;have q2:dS items.size items.size hi - dS items.size 0 lo=items.size:=eq_of_beq q.2;exact hw ⟨by lia,by lia⟩
 show wpAny _ _ (if (((dS items.size 0 lo:Nat):Int) == 0&&(1:Int) == 1&&(dS items.size items.size hi - dS items.size 0 lo) == items.size)=true then _ else _) _ _ s;rw[yO Yg,IF]
 first
  | exact zV (m:=Builtin.Tuple.tupleExact _) (qN (zW ⟨_,rfl,zW h⟩) WV)
  | exact zV (m:=Builtin.Tuple.tupleExact _) (qN (zV (zW (zW ⟨_,rfl,zW h⟩))) WV)
  | exact zV (zV (m:=Builtin.Tuple.tupleExact _) (qN (zW (zW ⟨_,rfl,zW h⟩)) WV))
  | exact zV (zV (m:=Builtin.Tuple.tupleExact _) (qN (zW ⟨_,rfl,zW h⟩) WV))
end HT
namespace L2
open PySem PySem.Spec PyProof.Rows
abbrev TO:=St->Hp->(Option Int->Hp->Prop)->Prop
def PO(X:Cx)(e:Option Expr)(t:TO):Prop :=
 ∀ (pins:List (Addr×Obj)) (s:Shared) (σ:St) (H:Hp) (Q:Option Int->Hp->Prop),Inv X pins σ H s->t σ H Q ->
  wpAny (model X.prog X.w) X.A (evalPart e X.env) (λu s'=>∃o H',Inv X pins σ H' s'/\IsPart u o/\Q o H') X.xe s
def LZ:TO:=λ_ H Q=>Q none H
def Qr(t:TE):TO:=λσ H Q=>t σ H λx H1=>∃i,x=.int i/\Q (some i) H1
def intsAre_of:∀ {us:List Value},aN (ns.map V.int) us->IntsAre us ns:=by
 induction ns with
 | nil=>intro us r;rw[yV] at r;cases r;exact .nil
 | cons n ns ih =>
  intro us r;rw[zI] at r;cases r with
  | cons r1 r2 =>
   let⟨t,e⟩:=r1;subst e;exact .cons n t (ih r2)
section
variable {lo hi:Option Expr}
def K7:PO X none LZ:=by
 intro pins s σ H Q I h;rw[evalPart_none];exact zW ⟨none,H,I,.none,h⟩
def Lq(h:PE X e te):PO X (some e) (Qr te):=by
 intro pins s σ H Q I hw;rw[evalPart_some];refine ck (h pins s σ H _ I hw) λu s1 ⟨x,H1,I1,r1,q1⟩=>?_;let⟨i,rfl,q⟩:=q1;let⟨t,rfl⟩:=r1;exact⟨some i,H1,I1,.int i t,q⟩
def MH(X:Cx)(r:V->Option Int->Option Int->Hp->VK->Prop):Prop :=
 ∀ (pins:List (Addr×Obj)) (s:Shared) (σ:St) (H:Hp) (x:V) (v vl vu:Value) (lo hi:Option Int) (sl:Addr) (Q:VK),Inv X pins σ H s->RelV x v->s.heap.IsSliceOf sl vl vu .none->IsPart vl lo->IsPart vu hi->r x lo hi H Q ->
  ∃T id,typeLookup (.type T) "__getitem__"=pure (some (.builtin id))/\s.TypeIs v T/\wpAny (model X.prog X.w) X.A (getItem v (.ref sl)) (EP X pins σ Q) X.xe s
def MH.or(h:MH X r)(h':MH X r'):MH X (λx lo hi H Q=>r x lo hi H Q\/r' x lo hi H Q):=by
 intro pins s σ H x v vl vu lo hi sl Q I rx hs pl pu q;rcases q with q|q
 ·exact h pins s σ H x v vl vu lo hi sl Q I rx hs pl pu q
 ·exact h' pins s σ H x v vl vu lo hi sl Q I rx hs pl pu q
def Uk(r:V->Option Int->Option Int->Hp->VK->Prop)(te:TE)(tl th:TO):TE:=λσ H Q=>te σ H λx H1=>tl σ H1 λl H2=>th σ H2 λu H3=>r x l u H3 Q
def Im(hr:MH X r)(he:PE X e te)(hl:PO X lo tl)(hu:PO X hi th):PE X (.Subscript e (.Slice lo hi none p2) pos) (Uk r te tl th):=by
 intro pins s σ H Q I h;refine Subscript_ (ck (he pins s σ H _ I h) λv s1 ⟨x,H1,I1,r1,q1⟩=>?_);refine wpAny_Slice (ck (hl pins s1 σ H1 _ I1 q1) λvl s2 ⟨l,H2,I2,pl,q2⟩=>ck (hu pins s2 σ H2 _ I2 q2) λvu s3 ⟨u,H3,I3,pu,q3⟩=>?_);rw[evalPart_none];refine zW ?_;have I4:Inv X pins σ H3 { s3 with heap:=s3.heap.push { cls:=.type "slice",data:=.fields #[vl,vu,.none] } }:=I3.kept (t':=s3.toks) λb ob q=>zU _ q;let⟨T,id,hT,ht,hg⟩:=hr pins { s3 with heap:=s3.heap.push { cls:=.type "slice",data:=.fields #[vl,vu,.none] } } σ H3 x v vl vu l u s3.heap.objs.size Q I4 r1 (Heap.IsSliceOf.new ..) pl pu q3;show wpAny (model X.prog X.w) X.A (subscriptTail e (.Slice lo hi none p2) v (.ref s3.heap.objs.size)) (EP X pins σ Q) X.xe { s3 with heap:=s3.heap.push { cls:=.type "slice",data:=.fields #[vl,vu,.none] } };exact tail_any (ops:=[.ref s3.heap.objs.size,v]) ht hT hg (by with_unfolding_all rfl)
def KB(xs:List V)(lo hi:Option Int):List V:=(xs.drop (HT.dS xs.length 0 lo)).take (HT.dS xs.length xs.length hi - HT.dS xs.length 0 lo)
def z6(xs:List V)(lo hi:Option Int):(KB xs lo hi).length<=xs.length:=by
 unfold KB;rw[jY,qK];lia
def SO(K:W.Frag):V->Option Int->Option Int->Hp->VK->Prop:=λx lo hi H Q=>∃a xs,x=.ref a/\ku K H a xs /\
 ¬ (HT.dS xs.length 0 lo=0/\HT.dS xs.length xs.length hi=xs.length)/\∀p,H p=none->Q (.ref p) (upd H p (.tup (KB xs lo hi)))
def N5:MH X (SO X.K):=by
 intro pins s σ H x v vl vu lo hi sl Q I rx hs pl pu h;let⟨a,xs,rfl,hx,hw,q⟩:=h;cases rx;let⟨its,r,ht,hz⟩:=I.tuple hx;have hlen:its.toArray.size=xs.length:=by rw[zH];exact r.length.symm
 refine⟨"tuple",_,PyProof.Rows.slot_tuple_getitem.lookup,ht.typeIs,?_⟩;refine HT.nS ht hs pl pu (by rw[hlen];exact hw) ?_ (by rw[hlen];exact hz);rw[hlen];refine⟨.ref s.heap.objs.size,_,I.laid (t':=s.toks) (o:=.tup (KB xs lo hi)) (λb ob q=>zU _ q) (yN _) ?_,rfl,q _ (I.UC.fresh (yN _))⟩;exact⟨yD (z6 xs lo hi) hz,_,(r.drop (HT.dS xs.length 0 lo)).take (HT.dS xs.length xs.length hi - HT.dS xs.length 0 lo),rK.new _ _⟩
def Qs(K:W.Frag):R2:=λx y H Q=>∃a b xs ys,x=.ref a/\y=.ref b/\ku K H a xs/\ku K H b ys/\xs≠[]/\xs.length+ys.length<=sizeLine /\
 (ys=[]->Q (.ref a) H)/\(ys≠[]->∀p,H p=none->Q (.ref p) (upd H p (.tup (xs++ys))))
def aN.VH(r:aN xs us):us=[]↔xs=[]:=by
 cases r with
 | nil=>simp
 | cons _ _=>simp
def K1:jj X (binaryOp .Add) (Qs X.K):=by
 intro pins s σ H x y v u Q I rx ry h;let⟨a,b,xs,ys,rfl,rfl,ha,hb,hx,hz,q1,q2⟩:=h;cases rx;cases ry;let⟨its,r1,p1,_⟩:=I.tuple ha;let⟨Vu,r2,p2,_⟩:=I.tuple hb;refine HT.Lu p1 p2 (λz=>hx (r1.VH.mp z)) (λz=>⟨.ref a,H,I,rfl,q1 (r2.VH.mp z)⟩) (λz=>?_) (by rw[<- r1.length,<- r2.length];exact hz);refine⟨.ref s.heap.objs.size,_,I.laid (t':=s.toks) (o:=.tup (xs++ys)) (λb ob q=>zU _ q) (yN _) ?_,rfl,q2 (λw=>z (r2.VH.mpr w)) _ (I.UC.fresh (yN _))⟩;exact⟨by rw[zN];exact hz,_,r1.append r2,rK.new _ _⟩
end
def DZ(n:Nat)(i:Int):Option Nat:=if 0<=i then (if i < n then some i.toNat else none) else if -(n:Int)<=i then some (i+n).toNat else none
def qa(xs:List α)(i:Int):Option α:=(DZ xs.length i).bind λj=>xs[j]?
def DD(h:DZ n i=some j):seqIndex? i n=some j/\j < n/\-(n:Int)<=i/\i < n:=by
 unfold DZ at h;by_cases h0:0<=i
 ·rw[yM h0] at h;by_cases h1:i < n
  ·rw[yM h1] at h;have e:i.toNat=j:=xE h;exact⟨by rw[seqIndex_of h0 h1,e],by lia,by lia,h1⟩
  ·rw[yO h1] at h;cases h
 ·rw[yO h0] at h;by_cases h1:-(n:Int)<=i
  ·rw[yM h1] at h;have e:(i+n).toNat=j:=xE h;exact⟨by rw[seqIndex_neg (by lia) h1,e],by lia,h1,by lia⟩
  ·rw[yO h1] at h;cases h
def wc(h:qa xs i=some v):∃j,seqIndex? i xs.length=some j/\xs[j]?=some v/\j < xs.length/\-(xs.length:Int)<=i/\i < xs.length:=by
 unfold qa at h;cases e:DZ xs.length i with
 | none=>rw[e] at h;cases h
 | some j =>
  rw[e] at h;let⟨h1,h2,h3,h4⟩:=DD e;exact⟨j,h1,h,h2,h3,h4⟩
def yr{α:Type}{xs:List α}{j:Nat}{v:α}(h:xs[j]?=some v):qa xs (j:Int)=some v:=by
 have hj:j < xs.length:=(List.getElem?_eq_some_iff.mp h).1;have e:DZ xs.length (j:Int)=some j:=by
  unfold DZ;rw[yM (by lia),yM (by lia)];simp
 unfold qa;rw[e];exact h
def GF(xs:List α)(v:α):qa (xs++[v]) (-1)=some v:=by
 have hl:(xs++[v]).length=xs.length+1:=by simp
 have e:DZ (xs++[v]).length (-1)=some xs.length:=by
  unfold DZ;rw[hl,yO (by decide),yM (by lia)]
  congr 1
  lia
 unfold qa;rw[e];show (xs++[v])[xs.length]?=some v;simp
def l5(b:Expr):Prop:=∀o i,subscripted b false o i=operate [o,i] (getItem o i)
def J8(X:Cx)(r:R2):Prop :=
 ∀ (value slice:Expr) (pins:List (Addr×Obj)) (s:Shared) (σ:St) (H:Hp) (x y:V) (v u:Value) (Q:VK),Inv X pins σ H s->RelV x v->RelV y u->r x y H Q ->
  subscripted slice false v u=operate [v,u] (getItem v u)->wpAny (model X.prog X.w) X.A (subscriptTail value slice v u) (EP X pins σ Q) X.xe s
def TJ(X:Cx)(id:String)(r:V->List V->Hp->VK->Prop):Prop :=
 ∀ (pins:List (Addr×Obj)) (s:Shared) (σ:St) (H:Hp) (x:V) (xs:List V) (v:Value) (us:List Value) (Q:VK),Inv X pins σ H s->RelV x v->aN xs us->r x xs H Q ->
  wpAny (model X.prog X.w) X.A (call (.builtin id) (v::us)) (EP X pins σ Q) X.xe s
section
def J8.or(h:J8 X r)(h':J8 X r'):J8 X (λx y H Q=>r x y H Q\/r' x y H Q):=by
 intro value slice pins s σ H x y v u Q I rx ry q hs;rcases q with q|q
 ·exact h value slice pins s σ H x y v u Q I rx ry q hs
 ·exact h' value slice pins s σ H x y v u Q I rx ry q hs
def MG(hr:J8 X r)(ha:PE X a ta)(hb:PE X b tb)(hs:l5 b):PE X (.Subscript a b pos) (Qg r ta tb):=by
 intro pins s σ H Q I h;exact Subscript_ (Pd ha hb I h λv u s2 x y H2 I2 rx ry q=>hr a b pins s2 σ H2 x y v u Q I2 rx ry q (hs _ _))
def Q1(K:W.Frag):R2:=λx y H Q=>∃p xs i v,x=.ref p/\y=.int i/\iM K H p xs/\qa xs i=some v/\Q v H
def PZ(K:W.Frag):R2:=λx y H Q=>∃p xs i v,x=.ref p/\y=.int i/\ku K H p xs/\qa xs i=some v/\Q v H
def P4:R2:=λx y H Q=>∃z i c,x=.str z/\y=.int i/\z.length<=sizeLine/\qa z.cps.toList i=some c/\Q (.str ⟨#[c]⟩) H
def D0:J8 X (Q1 X.K):=by
 intro value slice pins s σ H x y v u Q I rx ry h hs;let⟨p,xs,i,z,rfl,rfl,hq,he,q⟩:=h;cases rx;let⟨t,rfl⟩:=ry;let⟨its,r,pl,hz⟩:=I.list hq;let⟨j,h1,h2,h3,h4,h5⟩:=wc he;let⟨w,ew,ZY⟩:=r.get h2;have hl:=r.length;have hn:=sx;have fin:EP X pins σ Q w s:=⟨z,H,I,ZY,q⟩
 by_cases h0:0<=i
 ·have hj:i.toNat=j:=by
   rw[seqIndex_of h0 h5] at h1;exact xE h1
  exact item_listR pl.isList h0 (by lia) (by rw[hj];simpa using ew) fin hs
 ·have hj:(i+(its.toArray.size:Int)).toNat=j:=by
   rw[seqIndex_neg (by lia) h4] at h1;rw[zH,<- hl];exact xE h1
  exact subscriptTail_builtinR (x:=w) pl.isList.typeIs slot_list_getitem.lookup
   (wpAny_getItem_list_neg (Q:=λr s'=>r=w/\EP X pins σ Q r s') pl.isList (by lia) (by rw[zH]<;>lia) (by lia) (by rw[hj];simpa using ew) ⟨rfl,fin⟩) hs
def sN:J8 X (PZ X.K):=by
 intro value slice pins s σ H x y v u Q I rx ry h hs;let⟨p,xs,i,z,rfl,rfl,hq,he,q⟩:=h;cases rx;let⟨t,rfl⟩:=ry;let⟨its,r,pl,hz⟩:=I.tuple hq;let⟨j,h1,h2,h3,h4,h5⟩:=wc he;let⟨w,ew,ZY⟩:=r.get h2;have hl:=r.length;have hn:=sx;have fin:EP X pins σ Q w s:=⟨z,H,I,ZY,q⟩
 exact subscriptTail_builtinR (x:=w) pl.typeIs slot_tuple_getitem.lookup
  (getItem_tuple (j:=j) (Q:=λr s'=>r=w/\EP X pins σ Q r s') pl (by lia) (by lia) (by rw[zH,<- hl];exact h1) (by simpa using ew) ⟨rfl,fin⟩) hs
def Om:J8 X P4:=by
 intro value slice pins s σ H x y v u Q I rx ry h hs;let⟨z,i,c,rfl,rfl,hz,he,q⟩:=h;let⟨t,rfl⟩:=rx;let⟨t',rfl⟩:=ry;let⟨j,h1,h2,h3,h4,h5⟩:=wc he;have hl:z.cps.toList.length=z.length:=by simp[Str.length]
 rw[hl] at h1 h4 h5;have hn:=sx;exact tail_any (typeIs_str s z t) slot_str_getitem.lookup (getItem_str (c:=c) (by
  have e1:decide (i < -(2 ^ 63:Int))=false:=zZ (by lia);have e2:decide (i >= 2 ^ 63)=false:=zZ (by lia);rw[e1,e2,Bool.or_false]) (by rw[h1];simpa using h2) ⟨.str ⟨#[c]⟩,H,I.tok _,⟨_,rfl⟩,q⟩) hs
def Tz(K:W.Frag):R2:=λx y H Q=>Q1 K x y H Q\/PZ K x y H Q\/P4 x y H Q
def O8:J8 X (Tz X.K):=D0.or (sN.or Om)
def BW(its:List Value)(n j:Nat)(u:Value):Obj.mapSeq (·.setIfInBounds j u) { cls:=.type "list",data:=.seq its.toArray n }={ cls:=.type "list",data:=.seq (its.set j u).toArray n }:=by
 simp[Obj.mapSeq]
def Inv.lst(I:Inv X pins σ H s)(h:H p=some (.lst xs)) :
  ∃ (its:List Value) (n:Nat),aN xs its/\s.heap.get? p=some { cls:=.type "list",data:=.seq its.toArray n }/\xs.length<=sizeLine:=by
 let⟨z,its,n,r,e⟩:=I.UC p _ h;exact⟨its,n,r,e,z⟩
def Inv.ZZ{ys:List V}{its its':List Value}{n n':Nat}{f:Obj->Obj}(I:Inv X pins σ H s)(h:H p=some (.lst xs))
  (ho:s.heap.get? p=some { cls:=.type "list",data:=.seq its.toArray n }) (hf:f { cls:=.type "list",data:=.seq its.toArray n }={ cls:=.type "list",data:=.seq its'.toArray n' }) (r:aN ys its') (hz:ys.length<=sizeLine) (t:Nat) :
  Inv X pins σ (upd H p (.lst ys)) { s with heap:=s.heap.update p f,toks:=t }:=by
 have e:(s.heap.update p f).get? p=some { cls:=.type "list",data:=.seq its'.toArray n' }:=by
  rw[Heap.get?_update_self f ho (by rw[hf]<;>rfl),hf]
 refine I.write (x:=p) (e:=p) (by rw[h];trivial) (.inl rfl) (λb u hb q=>(xP _ _ (jP hb)).trans q) ⟨_,e⟩ ?_;exact⟨hz,its',n',r,e⟩
def Qa:V->V->V->Hp->(Hp->Prop)->Prop:=λo i v H Q=>∃p xs k j,o=.ref p/\i=.int k/\H p=some (.lst xs)/\DZ xs.length k=some j/\Q (upd H p (.lst (xs.set j v)))
def set_list:Q6 X Qa:=by
 intro pins s σ H o i v ov iv u Q I ro ri rv h;let⟨p,xs,k,j,rfl,rfl,hp,hj,q⟩:=h;cases ro;let⟨t,rfl⟩:=ri;let⟨its,n,r,ho,hz⟩:=I.lst hp;let⟨h1,h2,h3,h4⟩:=DD hj;have hl:=r.length;have hn:=sx;have I':Inv X pins σ (upd H p (.lst (xs.set j v))) { s with heap:=s.heap.update p (Obj.mapSeq (·.setIfInBounds j u)) } :=
  I.ZZ hp ho (BW its n j u) (r.set rv j) (by rw[yC];exact hz) s.toks
 by_cases h0:0<=k
 ·have hk:k.toNat=j:=by
   rw[seqIndex_of h0 h4] at h1;exact xE h1
  exact W.ki_setAt ho h0 (by lia) (by rw[zH,<- hl];exact h4) (by rw[hk];exact⟨_,I',q⟩)
 ·have hk:(k+(its.toArray.size:Int)).toNat=j:=by
   rw[seqIndex_neg (by lia) h3] at h1;rw[zH,<- hl];exact xE h1
  exact W.ki_setBack ho (by lia) (by rw[zH,<- hl];exact h3) (by lia) (by rw[hk];exact⟨_,I',q⟩)
def xn:f9 X (.builtin "len") (λxs H Q=>∃p ys,xs=[.ref p]/\(iM X.K H p ys\/ku X.K H p ys)/\Q (.int ys.length) H):=by
 intro pins s σ H xs us Q I r h;let⟨p,ys,rfl,hq,q⟩:=h;let⟨u,rfl,rx⟩:=vals1 r;cases rx;have hn:=sx;rcases hq with hq|hq
 ·let⟨its,r',pl,hz⟩:=I.list hq;have hlen:=r'.length;exact Calls.call_len_list pl.isList (by simp?[zH]<;>lia) ⟨.int ys.length,H,I.tok _,⟨s.toks+1,by rw[zH,hlen]⟩,q⟩
 ·let⟨its,r',pl,hz⟩:=I.tuple hq;have hlen:=r'.length;exact len_tuple pl (by simp?[zH]<;>lia) ⟨.int ys.length,H,I.tok _,⟨s.toks+1,by rw[zH,hlen]⟩,q⟩
def uu:f9 X (.type "tuple") (λxs H Q=>∃p ys,xs=[.ref p]/\((iM X.K H p ys/\∀l,H l=none->Q (.ref l) (upd H l (.tup ys)))\/(ku X.K H p ys/\Q (.ref p) H))):=by
 intro pins s σ H xs us Q I r h;let⟨p,ys,rfl,h⟩:=h;let⟨u,rfl,rx⟩:=vals1 r;cases rx;rcases h with ⟨hq,q⟩|⟨hq,q⟩
 ·let⟨its,r',pl,hz⟩:=I.list hq;have hlen:=r'.length;refine call_tuple_list pl.isList (λh' kp=>?_) (by simp?[zH]<;>lia);have I1:Inv X pins σ H { s with heap:=h' }:=I.kept (t':=s.toks) kp;have I2:Inv X pins σ (upd H h'.objs.size (.tup ys)) { s with heap:=h'.push { cls:=.type "tuple",data:=.seq its.toArray } } :=
   I1.laid (t':=s.toks) (λb o e=>zU _ e) (yN _) (show eH X.prog X.w _ _ _ (.tup ys) from ⟨hz,its,r',rK.new _ _⟩)
  exact⟨.ref h'.objs.size,_,I2,rfl,q _ (I1.UC.fresh (yN _))⟩
 ·let⟨its,r',pl,hz⟩:=I.tuple hq;exact call_tuple_same pl ⟨.ref p,H,I,rfl,q⟩
def TH(K:W.Frag)(T:String)(x:V)(H:Hp):Prop:=match x with
 | .str _=>T="str"
 | .int _=>T="int"
 | .ref p=>(T="list"/\∃xs,iM K H p xs)\/(T="tuple"/\∃xs,ku K H p xs) \/
   (T="dict"/\((∃U1,H p=some (.dK U1))\/∃U1,H p=some (.dT U1)))\/(T="set"/\∃S n,H p=some (.set S n))
 | _=>False
def NV(I:Inv X pins σ H s)(r:RelV x v)(ty:TH X.K T x H) :
  s.TypeIs v T/\∀a,v=.ref a->∃ob,s.heap.get? a=some ob/\ob.dict=none:=by
 cases x with
 | str z =>
  let⟨t,rfl⟩:=r;cases (show T="str" from ty);exact⟨typeIs_str s z t,λ_ e=>nomatch e⟩
 | int i =>
  let⟨t,rfl⟩:=r;cases (show T="int" from ty);exact⟨Zc s i t,λ_ e=>nomatch e⟩
 | ref p =>
  cases r;rcases ty with ⟨rfl,xs,hq⟩|⟨rfl,xs,hq⟩|⟨rfl,hk⟩|⟨rfl,S,n,hk⟩
  ·let⟨its,_,pl,_⟩:=I.list hq;refine⟨pl.isList.typeIs,λa e=>?_⟩;cases e;let⟨o,n,e,c,hd,_⟩:=pl;exact⟨o,e,hd⟩
  ·rcases hq with hq|⟨o,its,n,hk,hc,hd,_⟩
   ·let⟨_,_,_,⟨o,e1,e2,_⟩,o2,e3,e4⟩:=hq.ok I.UC;exact⟨⟨o,e1,e2⟩,λa e=>by cases e;exact⟨o2,e3,e4⟩⟩
   ·exact⟨⟨o,I.V6 p o hk,hc⟩,λa e=>by cases e;exact⟨o,I.V6 _ o hk,hd⟩⟩
  ·have z:∃o,s.heap.get? p=some o/\o.ExactDict:=by
    rcases hk with ⟨U1,hk⟩|⟨U1,hk⟩
    ·let⟨_,_,_,_,o,_,_,e,ex,_⟩:=I.UC p _ hk;exact⟨o,e,ex⟩
    ·let⟨_,_,_,_,o,_,_,e,ex,_⟩:=I.UC p _ hk;exact⟨o,e,ex⟩
   let⟨o,e,ex⟩:=z;refine⟨⟨o,e,ex.1⟩,λa e2=>?_⟩;cases e2;exact⟨o,e,ex.2.1⟩
  ·let⟨o,_,_,_,e,ex,_⟩:=I.UC p _ hk;refine⟨⟨o,e,ex.1⟩,λa e2=>?_⟩;cases e2;exact⟨o,e,ex.2.1⟩
 | _=>exact False.elim ty
def T1(K:W.Frag)(T:String)(r:V->List V->Hp->VK->Prop)(to:TE)(t:TA):TE:=λσ H Q=>to σ H λx H1=>TH K T x H1/\t σ H1 λxs H2=>r x xs H2 Q
variable {T id:String}
def sZ(pa:PlainAttrs T)(slot:Slot T name id)(hty:typeOf (.builtin id)=pure (.type "method_descriptor"))(hm:TJ X id r)(ho:PE X o to)(ha:PA X (e::es) t)
  (V0:attributeBase o name X.env (eval o X.env)=eval o X.env:=by rfl)
  (VC:((backTo cpos (starEach (e::es) X.env)).all (λx=>!x.1)&&(backToKw cpos (keywordEach [] X.env)).all (λx=>x.1.isSome)
   &&decide ((e::es).length+([]:List Keyword).length+(if ([]:List Keyword).isEmpty then 0 else 1) < 30))=true:=by rfl)
  (UR:(apos.endLine == cpos.line)=true:=by rfl) (hs:starEach (e::es) X.env=(false,eval e X.env)::starEach es X.env:=by rfl) (Z0:(backTo cpos (starEach es X.env)).any (·.1)=false:=by rfl) :
  PE X (.Call (.Attribute o name apos) (e::es) [] cpos) (T1 X.K T r to t):=by
 intro pins s σ H Q I h;refine wpAny_Call_method_late V0 VC UR rfl (ck (ho pins s σ H _ I h) λv s1 ⟨x,H1,I1,r1,ty,q1⟩=>?_);let⟨h1,h2⟩:=NV I1 r1 ty;refine⟨T,id,pa,slot,hty,h1,h2,?_⟩;have hA:=ha cpos pins s1 σ H1 _ I1 q1;rw[hs] at hA ⊢;refine Calls.callWith_builtin (by show (false||(backTo cpos (starEach es X.env)).any (·.1))=false;rw[Z0]<;>rfl) (Calls.evalArgs_plain ?_);exact ck hA λus s2 ⟨vs,H2,I2,r2,q2⟩=>hm pins s2 σ H2 x vs v us Q I2 r1 r2 q2
/- xs.append(e),list.index on a aa4 tuple .. are TJ facts of 06m -/
end
def Pu(X:Cx)(id:String)(r:V->List V->Hp->VK->Prop):Prop :=
 ∀ (pins:List (Addr×Obj)) (s:Shared) (σ:St) (H:Hp) (x:V) (xs:List V) (v:Value) (us:List Value) (Q:VK),Inv X pins σ H s->RelV x v->aN xs us->r x xs H Q ->
  wpAny (model X.prog X.w) X.A (call (.builtin id) (v::us)) (EP X pins σ Q) X.xe s
def aN.one:∀ {x:V}{us:List Value},aN [x] us->∃u,us=[u]/\RelV x u
 | _,_,.cons r .nil=>⟨_,rfl,r⟩
def aN.two:∀ {x y:V}{us:List Value},aN [x,y] us->∃u v,us=[u,v]/\RelV x u/\RelV y v
 | _,_,_,.cons r (.cons q .nil)=>⟨_,_,rfl,r,q⟩
def aN.rep(h:aN xs us):∀k:Nat,aN (List.replicate k xs).flatten (List.replicate k us).flatten
 | 0=>.nil
 | k+1=>by
  rw[xG,xG,qP,qP];exact aN.append h (aN.rep h k)
def foldl_rep(its:List Value):∀ (k:Nat) (acc:List Value),
  List.foldl (λx1 x2=>x1++x2) acc.toArray (List.replicate k its.toArray)=(acc++(List.replicate k its).flatten).toArray
 | 0,acc=>by simp
 | k+1,acc=>by
  have e:acc.toArray++its.toArray=(acc++its).toArray:=by simp
  have e2:(acc++its)++(List.replicate k its).flatten=acc++(List.replicate (k+1) its).flatten:=by
   rw[xG,qP,List.append_assoc]
  rw[<- e2,<- foldl_rep its k (acc++its),<- e,xG,yJ]
section
variable {xs ys zs:List V}
def Inv.Z6{its its':List Value}{n:Nat}{f:Array Value->Array Value}{t':Nat}(I:Inv X pins σ H s)(hH:H l=some (.lst xs))
  (e:s.heap.get? l=some { cls:=.type "list",data:=.seq its.toArray n }) (hf:f its.toArray=its'.toArray) (hv:aN ys its') (hz:ys.length<=sizeLine) :
  Inv X pins σ (upd H l (.lst ys)) { s with heap:=s.heap.update l (Obj.mapSeq f),toks:=t' }:=by
 have q:=PySem.IsL.update e f;rw[hf] at q;refine I.write (x:=l) (e:=l) (by rw[hH];exact trivial) (.inl rfl) (λb' u hb hu=>(xP s.heap (Obj.mapSeq f) (jP hb)).trans hu) ⟨_,q⟩ ?_;exact⟨hz,its',_,hv,q⟩
def Inv.Yh{t':Nat}(I:Inv X pins σ H s)(hv:aN ys its)(hz:ys.length<=sizeLine) :
  Inv X pins σ (upd H s.heap.objs.size (.lst ys)) { s with heap:=s.heap.push { cls:=.type "list",data:=.seq its.toArray },toks:=t' } :=
 I.laid (λ_ _ q=>zU _ q) (yN _) ⟨hz,its,0,hv,zX _ rfl⟩
def Inv.fresh(I:Inv X pins σ H s):H s.heap.objs.size=none:=I.UC.fresh (yN _)
def Inv.Xu(I:Inv X pins σ H s)(hH:H l=some (.lst xs)):xs.length<=sizeLine/\∃ (its:List Value) (n:Nat),aN xs its/\xs.length=its.length/\s.heap.get? l=some { cls:=.type "list",data:=.seq its.toArray n }:=by
 let⟨z,its,n,r,e⟩:=I.UC l _ hH;exact⟨z,its,n,r,r.length,e⟩
def AX(h:n<=sizeLine):Builtin.List.listTooLong n=false:=by
 unfold Builtin.List.listTooLong;exact zZ (by lia)
end
def Ln:V->List V->Hp->VK->Prop:=λx vs H Q=>∃l xs y,x=.ref l/\vs=[y]/\H l=some (.lst xs)/\xs.length < sizeLine/\Q .Ux (upd H l (.lst (xs++[y])))
def uY:Pu X "list.append" Ln:=by
 intro pins s σ H x vs v us Q I rx rv h;let⟨l,xs,y,rfl,rfl,hH,hz,q⟩:=h;cases rx;let⟨u,rfl,ru⟩:=rv.one;let⟨z,its,n,r,hl,e⟩:=I.Xu hH;refine qZ F.slot_list_append ⟨_,e,rfl⟩ F.entry_list_append (F.args_list_append_2 _ _) (PySem.list_append l its.toArray n u (by rw[zH];lia)) ⟨e,?_⟩;refine⟨.Ux,_,I.Z6 (its':=its++[u]) hH e (by simp) (r.append (.cons ru .nil)) ?_,rfl,q⟩;rw[zN,xD];lia
def Mr:V->List V->Hp->VK->Prop:=λx vs H Q=>∃l b xs zs,x=.ref l/\vs=[.ref b]/\H l=some (.lst xs)/\H b=some (.lst zs)/\xs.length+zs.length<=sizeLine/\Q .Ux (upd H l (.lst (xs++zs)))
def Fn:Pu X "list.extend" Mr:=by
 intro pins s σ H x vs v us Q I rx rv h;let⟨l,b,xs,zs,rfl,rfl,hH,hB,hz,q⟩:=h;cases rx;let⟨u,rfl,ru⟩:=rv.one;cases ru;let⟨z,its,n,r,hl,e⟩:=I.Xu hH;let⟨z2,Vu,n2,r2,hl2,e2⟩:=I.Xu hB;have WU:its.toArray.size+Vu.toArray.size<=sizeLine:=by rw[zH,zH];lia
 have Xv:¬ (!its.toArray.isEmpty&&Builtin.List.listTooLong (its.toArray.size+Vu.toArray.size))=true:=by
  rw[AX WU,vG];exact xA
 refine qZ F.slot_list_extend ⟨_,e,rfl⟩ F.entry_list_extend (F.args_list_extend_2 _ _)
  (AutoSeq1.list_extend_list_list_0 l its.toArray n b Vu.toArray n2 Xv (by rw[zH];lia) (by lia)) ⟨e,e2,?_⟩
 refine⟨.Ux,_,I.Z6 (its':=its++Vu) hH e (by simp) (r.append r2) ?_,rfl,q⟩;rw[zN];lia
def R8:R2:=λx y H Q=>∃l k xs,x=.ref l/\y=.int k/\H l=some (.lst xs)/\-(2 ^ 63)<=k/\k < 2 ^ 63/\xs.length * k.toNat<=sizeLine /\
 ∀p,H p=none->Q (.ref p) (upd H p (.lst (List.replicate k.toNat xs).flatten))
def len_rep(xs:List α)(k:Nat):(List.replicate k xs).flatten.length=k * xs.length:=by
 induction k with
 | zero=>simp
 | succ k ih=>rw[xG,qP,zN,ih,Nat.succ_mul,Nat.add_comm]
def NM:jj X (binaryOp .Mult) R8:=by
 intro pins s σ H x y v u Q I rx ry h;let⟨l,k,xs,rfl,rfl,hH,h1,h2,hz,q⟩:=h;cases rx;let⟨t,rfl⟩:=ry;let⟨z,its,n,r,hl,e⟩:=I.Xu hH;have hlen:its.toArray.size * k.toNat<=sizeLine:=by rw[zH,<- hl];exact hz
 have Xw:¬ its.toArray.size * k.toNat > (2 ^ 63 - 1) / 8:=by
  have:(sizeLine:Nat)<=(2 ^ 63 - 1) / 8:=by decide
  lia
 have Wz:¬ (!Builtin.List.listFitsIndex k)=true:=by
  rw[fitsIndex_both h1 h2];exact xA
 have Xv:¬ Builtin.List.listTooLong (its.toArray.size * k.toNat)=true:=by
  rw[AX hlen];exact xA
 have ad3:List.foldl (λx1 x2=>x1++x2) #[] (List.replicate (if its.toArray.isEmpty=true then 0 else k.toNat) its.toArray)=(List.replicate k.toNat its).flatten.toArray:=by
  have f0:∀m:Nat,List.foldl (λx1 x2=>x1++x2) #[] (List.replicate m its.toArray)=(List.replicate m its).flatten.toArray:=λm=>by
   have:=foldl_rep its m [];rw[xQ] at this;exact this
  rw[f0];cases its with
  | nil=>simp
  | cons a r'=>rw[yO (by simp)]
 refine wpAny_binaryOp_repeat_ref (T:="list") (U:="int") (by decide) ⟨_,e,rfl⟩ (λs'=>Zc s' k t) noFill_list_mul F.fills_int_mul wK repeat_list F.slot_int_index.lookup
  (qZ wK (Zc s k t) F.entry_int_rmul (F.args_int_rmul_2 _ _) (int___rmul___int_list k t l its.toArray n)
   ⟨e,rfl,⟨_,e,rfl⟩,qZ F.slot_list_mul ⟨_,e,rfl⟩ F.entry_list_mul (F.args_list_mul_2 _ _) (AutoListH.list___mul___list_int_3 l its.toArray n k t Wz Xw Xv) ⟨e,?_⟩⟩)
 rw[ad3];exact⟨.ref _,_,I.Yh (t':=s.toks) (r.rep k.toNat) (by rw[len_rep,Nat.mul_comm];exact hz),rfl,q _ I.fresh⟩
end L2
namespace Att
open PySem PySem.W PySem.Calls PyProof.Rows
variable {n:Nat}
def VD:∀ (ns:List Int) (vs:List Value),WellAll P h vs (ns.map WData.int)->IntsAre vs ns:=by
 intro ns
 induction ns with
 | nil =>
  intro vs w;rw[yV] at w;cases w;exact .nil
 | cons n ns ih =>
  intro vs w;rw[zI] at w;cases w with
  | cons a b =>
   cases a;exact .cons _ _ (ih _ b)
def W6{l:OpenLaw}(hn:l.most=some n){P:Params}{h:Heap}{args:List WData}{vals:List Value}
  (Yi:l.row.toRowW.claim.pre args=true) (YH:WellAll P h vals args) :
  ∃a vs ns,vals=[Value.ref a]/\args=[WData.list (ns.map WData.int)]/\h.get? a=some { cls:=.type "list",data:=.seq vs.toArray }/\IntsAre vs ns/\ns.length<=n:=by
 have hsh:WShape.hasAll [] args [.list .int]=true:=(pre_splitW Yi).1;have hc:l.pre.holds [] { args:=args }=true:=(pre_splitW Yi).2;let⟨d,r,rfl,h1,h2⟩:=hasAllW_cons hsh;obtain rfl:=hasAllW_nil h2;let⟨xs,rfl,h3⟩:=hasW_list h1;let⟨ns,rfl⟩:=items_int h3;have hlen:ns.length<=n:=by
  unfold OpenLaw.pre at hc;have h4:(WTm.not (.lt (.lit (.int (n:Int))) (.len (.arg 0)))).holds [] { args:=[.list (ns.map .int)] }=true:=by
   have h4:=(holds_andW hc).1;rw[hn] at h4;exact h4
  have h5:=condW_of h4 (w_not (w_lt w_lit (w_len_list (w_arg rfl))));rw[zD] at h5;refine Nat.le_of_not_lt λq=>?_;have q':(n:Int) < ((ns.length:Nat):Int):=by lia
  first
   | (rw[yA q'] at h5;exact absurd h5 (by decide))
   | (simp at h5;lia)
 cases YH with
 | cons w1 w2 =>
  cases w2;cases w1 with
  | list ho U8=>exact⟨_,_,ns,rfl,rfl,ho,VD ns _ U8,hlen⟩
def W7(l:OpenLaw)(args:List WData):l.row.toRowW.claim.post args (.bool true) args=true :=
 postW_of (r:=l.row.toRowW) (X:=(true == true))
  (show WShape.has [] (.bool true) .bool=true by first|rfl|decide|simp[WShape.has,WShape.arms,WShape.armsAll])
  (show (WTm.eq .res (.lit (.bool true))).value [] { args:=args,res:=some (.bool true),after:=args }=some (.bool (true == true)) from w_eq_bool (w_res rfl) w_lit) rfl
def Wi{l:OpenLaw}{q:Program}{loose:List Str}{XP:(Str->Option Value)->Heap->Prop}{YP:World->Heap->Prop}{d:DefRec}
  (hn:l.most=some n) (hdf:d.params.defaults=[])
  (call:∀ (w:World) (UG UD:Shared) (mg mb:Str->Option Value) (fa:Addr) (o:Obj) (pm cd doc:Value) (a:Addr) (vs:List Value) (ns:List Int),
   Ground q loose [] XP w UG mg mb UD.heap->YP w UD.heap ->
   UD.heap.get? fa=some o->o.data=.func (docDef d.name d.params d.body d.scope pm cd doc)->UD.heap.CodeRec cd d.name->mg d.name=some (.ref fa) ->
   UD.heap.get? a=some { cls:=.type "list",data:=.seq vs.toArray }->IntsAre vs ns->ns.length<=n->UD.gens=#[] ->
   codeAny (model l.prog w) callerA (.call (.ref fa) ⟨[.ref a],[]⟩) (λr s'=>r=.ok (.ret (.bool true))/\OldK UD.heap s'.heap/\s'.os=UD.os/\AllBare s'.gens) UD) :
  WalkO q loose XP YP l.row.toRowW d [] (λf vs=>PySem.call f vs):=by
 intro w UG UD mg mb G Y fa o pm cd doc dV kV ho hd Vd hD hmg hg args vals as Yi agN hrd YH hlo;obtain rfl:dV=.none:=Dflts.none hD hdf;obtain rfl:kV=.none:=Dflts.noKw hD;let⟨a,vs,ns,rfl,rfl,Z7,hints,hlen⟩:=W6 hn Yi YH;refine enter_call (jU (call w UG UD mg mb fa o pm cd doc a vs ns G Y ho (fd_plain hd) Vd hmg Z7 hints hlen hg) λr s' hq=>?_);let⟨rfl,h2,h3,h4⟩:=hq;exact⟨.inl ⟨.bool true,.bool true,[],rfl,λ_=>rfl,.bool true,W7 l _,λ_=>⟨List.Pairwise.nil,λ_ hm=>(nomatch hm)⟩⟩,h2,h3,h4⟩
section
variable {K:Frag}
end
end Att
namespace L2
open PySem PySem.Spec PyProof.Rows
variable {B:Prop}
def uw:∀ {vs:List Value}{ns:List Int},IntsAre vs ns->aN (ns.map V.int) vs
 | _,_,.nil=>.nil
 | _,_,.cons n t h=>.cons ⟨t,rfl⟩ (uw h)
abbrev HC:Kk:=λ_ _ _ _ _ _=>False
abbrev E0:XK:=λ_ _ _=>False
def MO:eu HC X E0:=λ_ _ _ _ _ _ _ h=>h.elim
structure Hu(K:W.Frag)(x qual:Str)(st:Stmt)(f:Addr)(fd:FuncData):Prop where
 ex:∃ (oc:Value) (od:Option Addr) (kV doc pm:Value) (an:Option Addr) (UT ct:Value) (Wx:Array (Option Value)),
  fd=W.fnOf x qual (gy st) (bx st) (ai st) .none kV doc pm an UT ct/\K.lookup f=some ⟨oc,od,.func fd,Wx⟩/\W.codeIn K UT qual=true
 kp:W.keepIn K (.ref f)=true
section
variable {K:W.Frag}
def Hu.binds{st:Stmt}(F:Hu K x qual st f fd)
  (h:∀ (kV doc pm:Value) (an:Option Addr) (UT ct:Value) (us:List Value),us.length=ps.length->bindArgs (W.fnOf x qual (gy st) (bx st) (ai st) .none kV doc pm an UT ct) ⟨us,[]⟩=pure (ps.zip us)):Binds K fd ps []:=by
 let⟨oc,od,kV,doc,pm,an,UT,ct,Wx,rfl,lk,Vd⟩:=F.ex;exact .all (h kV doc pm an UT ct)
def yv{st:Stmt}{kV:Value}(l:K.lookup f=some ⟨oc,od,.func (W.fnOf x qual (gy st) (bx st) (ai st) .none kV doc pm an UT ct),Wx⟩)
  (c:W.codeIn K UT qual=true) (k:W.keepIn K (.ref f)=true):Hu K x qual st f (W.fnOf x qual (gy st) (bx st) (ai st) .none kV doc pm an UT ct):=⟨⟨oc,od,kV,doc,pm,an,UT,ct,Wx,rfl,l,c⟩,k⟩
end
def qd{A B:Prop}(h:B):if false=true then A else B:=by
 rw[yO xA];exact h
def uq{A B:Prop}(h:A):if true=true then A else B:=by
 rw[yM rfl];exact h
def aS(H H':Hp):Prop:=∀b o,H b=some o->H' b=some o
def aS.refl(H:Hp):aS H H:=λ_ _ h=>h
def aS.trans(a:aS H H1)(b:aS H1 H2):aS H H2:=λc o h=>b c o (a c o h)
def aS.free(e:aS H H')(h:H' l=Option.none):H l=Option.none:=by
 cases q:H l with
 | none=>rfl
 | some o =>
  rw[e l o q] at h;cases h
def aS.seq{K:W.Frag}(e:aS H H')(h:iM K H a xs):iM K H' a xs:=by
 rcases h with (h|⟨o,h⟩)|h
 ·exact .inl (.inl (e _ _ h))
 ·exact .inl (.inr ⟨o,e _ _ h⟩)
 ·exact .inr h
def cg:∀ (names:List (Str×NameKind)) (n:Nat) (acc:List (Str×Addr)),cellsFrom n names acc=cellsFrom n names []++acc
 | [],_,_=>rfl
 | (name,kind)::r,n,acc=>by
  unfold cellsFrom;split
  ·rw[cg r (n+1) ((name,n)::acc),cg r (n+1) [(name,n)]];simp
  ·exact cg r n acc
def kj:∀ {l m:List (Str×α)},(l++m).lookup x=some c->l.lookup x=some c\/(l.lookup x=none/\m.lookup x=some c)
 | [],_,h=>.inr ⟨rfl,h⟩
 | (k,v)::r,m,h=>by
  have ih:=@kj α x c r m;rw[xH,yB] at h;rw[yB];cases e:x == k with
  | true=>rw[e] at h;exact .inl h
  | false=>rw[e] at h;exact ih h
def kq:∀ {l m:List (Str×α)},l.lookup x=some c->(l++m).lookup x=some c
 | [],_,h=>by cases h
 | (k,v)::r,m,h=>by
  have ih:=@kq α x c r m;rw[yB] at h;rw[xH,yB];cases e:x == k with
  | true=>rw[e] at h;exact h
  | false=>rw[e] at h;exact ih h
def iU:∀ {l m:List (Str×α)},l.lookup x=none->(l++m).lookup x=m.lookup x
 | [],_,_=>rfl
 | (k,v)::r,m,h=>by
  have ih:=@iU α x r m;rw[yB] at h;rw[xH,yB];cases e:x == k with
  | true=>rw[e] at h;cases h
  | false=>rw[e] at h;exact ih h
def gV:∀ (names:List (Str×NameKind)) (n:Nat) (x:Str) (c:Addr),(x,c)∈cellsFrom n names []->(x,NameKind.cell)∈names
 | [],_,_,_,h=>by cases h
 | (name,kind)::r,n,x,c,h=>by
  unfold cellsFrom at h;split at h
  ·rename_i hk;rw[cg] at h;rcases List.mem_append.mp h with h|h
   ·exact zC _ (gV r _ x c h)
   ·have:(x,c)=(name,n):=by simpa using h
    cases this;have:kind=.cell:=by simpa using hk
    subst this;exact zE
  ·exact zC _ (gV r n x c h)
def eR(env:Env):List (Str×NameKind)->List (Str×Addr)->List (Str×Addr)
 | [],acc=>acc
 | (n,k)::r,acc=>if k == .free then eR env r ((n,(env.cells.lookup n).getD 0)::acc) else eR env r acc
def mI(env:Env):∀ (names:List (Str×NameKind)) (acc:List (Str×Addr)),(∀x∈names,x.2=.free->∃c,env.cells.lookup x.1=some c) ->
  (forIn names acc (λ(p:Str×NameKind) (cs:List (Str×Addr))=>(if p.2 == .free then (do let a <- cellOf env p.1;pure (.yield ((p.1,a)::cs))) else pure (.yield cs):Sem (ForInStep (List (Str×Addr))))))=pure (eR env names acc)
 | [],acc,_=>rfl
 | (n,k)::r,acc,h=>by
  rw[List.forIn_cons];have hr:=λx hx=>h x (zC _ hx);unfold eR;by_cases hk:k=.free
  ·let⟨c,hc⟩:=h (n,k) zE hk;subst hk;have e1:cellOf env n=pure c:=by
    have VF:env.cells.lookup n=some c:=hc;unfold cellOf;rw[VF]
   have VF:env.cells.lookup n=some c:=hc;simp?[beq_self_eq_true,xJ,e1,pure_bind,VF,qJ];exact mI env r _ hr
  ·have hb:(k == NameKind.free)=false:=by simpa using hk
   simp?[hb,yP,qS,pure_bind];exact mI env r _ hr
def j7{env:Env}(h:∀x∈scope.names,x.2=.free->∃c,env.cells.lookup x.1=some c):closureFor scope env=pure (eR env scope.names []):=by
 have:=mI env scope.names [] h;unfold closureFor;exact (bind_pure _).trans this
def lU{env:Env}:∀ {names:List (Str×NameKind)}{acc:List (Str×Addr)},(∀x∈names,x.2=.free->∃c,env.cells.lookup x.1=some c)->(∀x c,(x,c)∈acc->env.cells.lookup x=some c) ->
  ∀x c,(x,c)∈eR env names acc->env.cells.lookup x=some c
 | [],acc,_,ha,x,c,hm=>ha x c hm
 | (n,k)::r,acc,h,ha,x,c,hm=>by
  unfold eR at hm;have hr:=λx hx=>h x (zC _ hx);split at hm
  ·rename_i hk;have U0:k=.free:=by simpa using hk
   let⟨c',hc⟩:=h (n,k) zE U0;have hc:env.cells.lookup n=some c':=hc;refine lU hr (λy d hy=>?_) x c hm;rcases List.mem_cons.mp hy with e|hy
   ·cases e;rw[hc];rfl
   ·exact ha y d hy
  ·exact lU hr ha x c hm
def gK{env:Env}:∀ {names:List (Str×NameKind)}{acc:List (Str×Addr)}{x:Str},(names.lookup x=some .free\/∃c,acc.lookup x=some c)->∃c,(eR env names acc).lookup x=some c
 | [],acc,x,h=>by
  rcases h with h|h
  ·cases h
  ·exact h
 | (n,k)::r,acc,x,h=>by
  unfold eR;split
  ·rename_i hk;refine gK ?_;rcases h with h|⟨c,h⟩
   ·rw[yB] at h;cases e:x == n with
    | true=>exact .inr ⟨_,by rw[yB,e]⟩
    | false=>rw[e] at h;exact .inl h
   ·refine .inr ?_;rw[yB];cases e:x == n with
    | true=>exact⟨_,rfl⟩
    | false=>exact⟨c,h⟩
  ·rename_i hk;refine gK ?_;rcases h with h|h
   ·rw[yB] at h;cases e:x == n with
    | true =>
     rw[e] at h;cases h;exact absurd rfl hk
    | false=>rw[e] at h;exact .inl h
   ·exact .inr h
def nU{env:Env}:∀ {names:List (Str×NameKind)}{x:Str}{k:NameKind},names.lookup x=some k ->
  (names.map λ(n,k)=>if (k == NameKind.free&&env.scope.kind == .function&&env.kindOf n == some .cell) then (n,NameKind.cell) else (n,k)).lookup x=some (if (k == NameKind.free&&env.scope.kind == .function&&env.kindOf x == some .cell) then NameKind.cell else k)
 | [],_,_,h=>by cases h
 | (n,k)::r,x,k',h=>by
  have ih:=@nU env r x k';rw[zI];dsimp only;cases hx:x == n with
  | true =>
   have e:x=n:=by simpa using hx
   subst e;rw[yB,hx] at h;cases h;split<;>simp[yB, *]
  | false =>
   rw[yB,hx] at h;have ih:=ih h;split
   ·rw[yB,hx];exact ih
   ·rw[yB,hx];exact ih
def p5{env:Env}:∀ {names:List (Str×NameKind)}{x:Str},names.lookup x=none ->
  (names.map λ(n,k)=>if (k == NameKind.free&&env.scope.kind == .function&&env.kindOf n == some .cell) then (n,NameKind.cell) else (n,k)).lookup x=none
 | [],_,h=>rfl
 | (n,k)::r,x,h=>by
  have ih:=@p5 env r x;rw[zI];dsimp only;cases hx:x == n with
  | true=>rw[yB,hx] at h;cases h
  | false =>
   rw[yB,hx] at h;split
   ·rw[yB,hx];exact ih h
   ·rw[yB,hx];exact ih h
def fN(X:Cx)(scope:Scope)(C:Addr):Env :=
 { scope:=relabel scope X.env,locals:=C,globals:=X.env.globals,cells:=cellsFrom (C+1) scope.names (eR X.env scope.names []),qual:=X.env.qual,func:=none,code:=X.env.code,frame:=X.env.frame,builtins:=X.env.builtins }
def aX(X:Cx)(scope:Scope)(N:List Str)(fp:List Addr)(s:Shared)(H:Hp):Cx :=
 { X with N:=N,UG:=s,Uz:=H,env:=fN X scope s.heap.objs.size,outer:=X.stack,ex:=fp,fn:=λx=>decide (scope.names.lookup x=some .cell),pn:=[],xe:=λ_ _=>False }
def Ce{M:Model}{A:Around}{E:Value->Shared->Prop}{globals:Addr}{cl:List (Str×Addr)}{qual:Str}{env:Env}
  (hQ:∀h',h'.Ns s.heap.objs.size (λ_=>none)->(∀b o,s.heap.get? b=some o->h'.get? b=some o)->CellsOk h' (s.heap.objs.size+1) (cellsFrom (s.heap.objs.size+1) scope.names []) ->
   Q { scope:=scope,locals:=s.heap.objs.size,globals:=globals,cells:=cellsFrom (s.heap.objs.size+1) scope.names cl,qual:=qual,func:=none,code:=env.code,frame:=env.frame,builtins:=env.builtins } { s with heap:=h' }) :
  wpAny M A (newFunctionEnv scope globals cl [] qual none .none (some env)) Q E s:=by
 simp?[newFunctionEnv,Option.isSome_some,xJ];refine zV (wpAny_alloc ?_);refine zV (wpAny_layCells _ (λname kind cells=>by cases hkc:kind == NameKind.cell<;>simp[hkc]) _ _ _ _ ?_);have ok:=cellsFrom_ok scope.names (s.heap.push { cls:=.type "dict",data:=.dict #[] }) (s.heap.objs.size+1) [] ⟨λ_ _ hm=>(nomatch hm),List.Pairwise.nil⟩ (by rw[xM];exact yN _);rw[xM] at ok;rw[show ({ s with heap:=s.heap.push { cls:=.type "dict",data:=.dict #[] } }:Shared).heap.objs.size=s.heap.objs.size+1 from xM ..];rw[List.forIn_nil];refine zV (zW (zW ?_));exact hQ _ ((Heap.Ns.new s.heap (.type "dict")).keeps (pushCells_keeps _ _)) (λb o e=>pushCells_keeps _ _ b o (zU _ e)) ok
section
variable {X:Cx}{pins:List (Addr×Obj)}{σ σ':St}{H:Hp}{s:Shared}{fp:List Addr}{scope:Scope}{N:List Str}{h4:Heap}
def je(ok:X.Ok)(Vn:∀x∈scope.names,x.2=.free->X.env.kindOf x.1=some .cell\/X.env.kindOf x.1=some .free):∀x∈scope.names,x.2=.free->∃c,X.env.cells.lookup x.1=some c :=
 λx hx hk=>ok.has x.1 (Vn x hx hk)
def oX(h:scope.names.lookup x=some k):(fN X scope C).kindOf x=some k\/(k=.free/\(fN X scope C).kindOf x=some .cell):=by
 have q:=nU (env:=X.env) h;have q':(fN X scope C).kindOf x=some (if (k == NameKind.free&&X.env.scope.kind == .function&&X.env.kindOf x == some .cell) then NameKind.cell else k):=q;rw[q'];split
 ·rename_i hc;have:k=.free:=by
   simp?[zF,vV] at hc;exact hc.1.1
  exact .inr ⟨this,rfl⟩
 ·exact .inl rfl
def mq(h:(fN X scope C).kindOf x=some k):scope.names.lookup x=some k\/(k=.cell/\scope.names.lookup x=some .free):=by
 cases e:scope.names.lookup x with
 | none =>
  have q:(fN X scope C).kindOf x=none:=p5 (env:=X.env) e;rw[q] at h;cases h
 | some k' =>
  rcases oX (X:=X) (C:=C) e with q|⟨q,q'⟩
  ·rw[q] at h;cases h;exact .inl rfl
  ·rw[q'] at h;cases h;subst q;exact .inr ⟨rfl,rfl⟩
def GB(I:Inv X pins σ H s)(hf:∀b∈fp,cN X pins H b)(Vv:∀b∈fp,b < s.heap.objs.size)(hk:scope.kind=.function)
  (Vn:∀x∈scope.names,x.2=.free->X.env.kindOf x.1=some .cell\/X.env.kindOf x.1=some .free)
  (V1:h4.Ns s.heap.objs.size (λ_=>none)) (Vo:∀b o,s.heap.get? b=some o->h4.get? b=some o) (WW:CellsOk h4 (s.heap.objs.size+1) (cellsFrom (s.heap.objs.size+1) scope.names []))
  (Z8:∀ {x:Str},(x,NameKind.cell)∈scope.names->(x,NameKind.free)∈scope.names->False) (Xw:∀ (i:Nat) (x:Str) (v:V),N[i]?=some x->σ'[i]?=some (some v)->scope.names.lookup x=some .free/\∃j:Nat,X.N[j]?=some x/\σ[j]?=some (some v)) (hlen:σ'.length=N.length) (t':Nat) :
  Inv (aX X scope N fp s H) [] σ' H { s with heap:=h4,toks:=t' }:=by
 have Vp:=je I.ok Vn;have YI:∀x c,(eR X.env scope.names []).lookup x=some c->X.env.cells.lookup x=some c:=λx c e=>lU Vp (λ_ _ z=>by cases z) x c (mem_of_lookup e);have look:∀x c,(fN X scope s.heap.objs.size).cells.lookup x=some c->(x,c)∈cellsFrom (s.heap.objs.size+1) scope.names []\/X.env.cells.lookup x=some c:=λx c e=>by
  have e:(cellsFrom (s.heap.objs.size+1) scope.names (eR X.env scope.names [])).lookup x=some c:=e;rw[cg] at e;rcases kj e with q|⟨_,q⟩
  ·exact .inl (mem_of_lookup q)
  ·exact .inr (YI x c q)
 have old:∀x c,X.env.cells.lookup x=some c->c < s.heap.objs.size:=λx c e=>let ⟨_,q⟩:=I.cell x c e;q.lt;have new:∀x c,(x,c)∈cellsFrom (s.heap.objs.size+1) scope.names []->s.heap.objs.size < c:=λx c e=>(WW.empty x c e).2;refine⟨⟨I.ok.mod,?_,I.ok.glob,I.ok.blt,yN _,?_,?_,?_,I.ok.hd,I.ok.frames,.inl rfl,?_,I.bs,yD I.ok.Xn I.sz,?_,?_,I.stack,I.Vm⟩,rfl,I.bare,Un.kept Vo,⟨_,V1,?_⟩,?_,I.UC.fresh (yN _),?_,
  λp hp=>absurd (show p∈([]:List (Addr×Obj)) from hp) (by simp),I.UC.kept Vo,hlen⟩
 ·show (relabel scope X.env).kind=_;exact hk
 ·intro x y c e1 e2;rcases look x c e1 with a|a<;>rcases look y c e2 with b|b
  ·exact name_of_addr WW.apart a b
  ·exact absurd (Zm (new x c a) (old y c b)) (qG _)
  ·exact absurd (Zm (new y c b) (old x c a)) (qG _)
  ·exact I.ok.inj x y c a b
 ·intro x hx;show ∃c,(cellsFrom (s.heap.objs.size+1) scope.names (eR X.env scope.names [])).lookup x=some c;refine Option.isSome_iff_exists.mp (W.cellsFrom_some _ _ _ ?_);rcases hx with hx|hx
  ·rcases mq hx with q|⟨_,q⟩
   ·exact .inl q
   ·exact .inr (Option.isSome_iff_exists.mpr (gK (.inl q)))
  ·rcases mq hx with q|⟨q,_⟩
   ·exact .inr (Option.isSome_iff_exists.mpr (gK (.inl q)))
   ·cases q
 ·intro x c Xo e;have Xo:scope.names.lookup x=some .cell:=yR Xo;have e:(cellsFrom (s.heap.objs.size+1) scope.names (eR X.env scope.names [])).lookup x=some c:=e;let⟨c',VF⟩:=rS (n:=s.heap.objs.size+1) Xo;rw[cg,kq VF] at e;cases e;exact jV (new x c (mem_of_lookup VF))
 ·intro b hb;refine⟨yS (Vv b hb),λx c e z=>?_⟩;rcases look x c e with a|a
  ·exact absurd (Zm (new x c a) (by rw[z];exact Vv b hb)) (qG _)
  ·exact (hf b hb).2.2.2.2.1 x c a z
 ·intro b o e hb;let⟨f0,f1,f2,f3,f4,f5⟩:=hf b hb;rcases f3 with z|z
  ·exact I.ok.Wf b o e z
  ·exact absurd (zP (zY (I.ok.bs b o e).1) z) (qG _)
 ·intro b hb hz;let⟨f0,f1,f2,f3,f4,f5⟩:=hf b hb;rcases List.mem_cons.mp (I.Wv b hz) with z|z
  ·exact f1 z
  ·exact f2 z
 ·intro i x v e1 e2 e3;let⟨Xi,j,hj,hv⟩:=Xw i x v e1 e2;have hm:(x,NameKind.free)∈scope.names:=mem_of_lookup Xi;let⟨m,hn,hl⟩:=I.loc;have kx:=Vn _ hm rfl;let⟨u,ru,lk⟩:=hl j x v hj hv (kx.elim (λk=>.inr (.inl k)) λk=>.inr (.inr k));refine⟨u,ru,.inr ⟨?_,?_⟩⟩
  ·rcases oX (X:=X) (C:=s.heap.objs.size) Xi with q|⟨_,q⟩
   ·exact .inr q
   ·exact .inl q
  ·rcases lk with ⟨k,_⟩|⟨_,c,ec,ic⟩
   ·have k:X.env.kindOf x=some .local:=k;rcases kx with k'|k'<;>· rw[k] at k';cases k'
   ·let⟨c',VF⟩:=gK (env:=X.env) (acc:=[]) (.inl Xi);have e':=YI x c' VF;rw[ec] at e';cases e';refine⟨c,?_,ic.keeps Vo⟩;show (cellsFrom (s.heap.objs.size+1) scope.names (eR X.env scope.names [])).lookup x=some c;rw[cg];cases eo:(cellsFrom (s.heap.objs.size+1) scope.names []).lookup x with
    | none=>rw[iU eo];exact VF
    | some d =>
     have hcm:=gV _ _ _ _ (mem_of_lookup eo);exact (Z8 hcm hm).elim
 ·intro x c e;rcases look x c e with a|a
  ·exact⟨_,(WW.empty x c a).1⟩
  ·let⟨v,q⟩:=I.cell x c a;exact⟨v,q.keeps Vo⟩
 ·intro x c e;rcases look x c e with a|a
  ·exact I.UC.fresh (jV (new x c a))
  ·exact I.UH x c a
end
abbrev Ar(ifs:List Expr)(env:Env):Sem Bool:=forIn ifs true λc r=>if r=true then do let ok <- isTrue c env (eval c env);pure (ForInStep.yield ok) else pure (ForInStep.yield r)
def PU(X:Cx)(ifs:List Expr)(t:TT):Prop :=
 ∀ (pins:List (Addr×Obj)) (s:Shared) (σ:St) (H:Hp) (Q:Bool->Hp->Prop),Inv X pins σ H s->t σ H Q->wpAny (model X.prog X.w) X.A (Ar ifs X.env) (TP X pins σ Q) X.xe s
def K5:PU X [] (λ_ H Q=>Q true H):=λ_ _ _ H _ I h=>wpAny_tests_nil ⟨H,I,h⟩
def Ke(h:PT X c t):PU X [c] t:=λpins s σ H Q I q=>wpAny_tests_one (h pins s σ H Q I q)
def xk{R:Result->Shared->Prop}{elt target iter:Expr}{ifs:List Expr}{scope:Scope}{pos:Pos}{acc:Value}{env:Env}(I:Nat->Shared->Prop)
  (turn:∀n s,I n s->wpAny (model prog w) A (pyNext it) (λr UD=>match r with
   | none=>R (.ok .next) UD
   | some v=>wpAny (model prog w) A (letOwnedTupleGo target it v) (λ_ YJ=>wpAny (model prog w) A (assign target env v) (λ_ Yd =>
     wpAny (model prog w) A (Ar ifs env) (λok Xx =>
      if ok=true then wpAny (model prog w) A (eval elt env) (λx Yj =>
       wpAny (model prog w) A (call (.builtin "list.append") [acc,x]) (λ_ aa7=>∃m,m < n/\I m aa7) (λ_ _=>False) Yj) (λ_ _=>False) Xx
      else ∃m,m < n/\I m Xx) (λ_ _=>False) Yd) (λ_ _=>False) YJ) (λ_ _=>False) UD) (λ_ _=>False) s)
  (n:Nat) (h:I n s) :
  codeAny (model prog w) A (.compLoop (.ListComp elt [⟨target,iter,ifs,0⟩] scope pos) 0 it acc env) R s:=by
 refine codeAny_loop rfl I (λn s hI=>?_) n h;show wpAny _ A ((compTurn (.ListComp elt [⟨target,iter,ifs,0⟩] scope pos) 0 it acc env).onRaise (λx=>do noteFrame x env;theTreesLotGoes x)) _ _ s;refine wpAny_noted ?_;rw[compTurn_list];refine zV (vM (zV (xB (turn n s hI) (λr UD aa8=>?_) λ_ _ h'=>h'.elim)));cases r with
 | none=>exact zW aa8
 | some v =>
  refine zV (xB aa8 (λ_ YJ aa9=>?_) λ_ _ h'=>h'.elim);refine zV (xB aa9 (λ_ Yd ad5=>zV (xB ad5 (λok Xx aba=>?_) λ_ _ h'=>h'.elim)) λ_ _ h'=>h'.elim);cases ok with
  | false=>exact zW ⟨rfl,aba⟩
  | true =>
   exact zV (zV (xB aba (λx Yj ad6=>zV (xB ad6 (λ_ aa7 ad7=>zW (zW ⟨rfl,ad7⟩)) λ_ _ h'=>h'.elim)) λ_ _ h'=>h'.elim))
def EH(X:Cx)(pins:List (Addr×Obj))(σ:St)(Q:VK)(acc:Value)(C:Addr)(r:Result)(s5:Shared):Prop :=
 ∃ (D:Addr) (H5:Hp) (m:Str->Option Value),acc=.ref D/\r=.ok .next/\Inv X pins σ H5 s5/\s5.heap.Ns C m/\cN X pins H5 C/\Q (.ref D) H5
def Gm(J:It)(g:TG)(tt:TT)(te:TE)(D:Addr)(σ0:St)(H0:Hp)(Q:VK):Prop :=
 ∃W:Nat->Nat->St->Hp->Prop,(∃m,W 0 m σ0 H0)/\∀i m σ H,W i m σ H ->
  (J.stop i H/\Q (.ref D) H)\/(J.go i H/\∀x H',J.YF i H x H'->g x σ H' λWS H2=>tt WS H2 λb H3 =>
   if b=true then te WS H3 λv H4=>∃ys,H4 D=some (.lst ys)/\ys.length < sizeLine/\∃m',m' < m/\W (i+1) m' WS (upd H4 D (.lst (ys++[v])))
   else ∃m',m' < m/\W (i+1) m' WS H3)
section
variable {X:Cx}{pins:List (Addr×Obj)}{σ σ':St}{H:Hp}{s:Shared}{scope:Scope}{N:List Str}
 {tg iter elt:Expr}{ifs:List Expr}{pos:Pos}{g:TG}{tt:TT}{te:TE}
def uC(hc:X.calm=true)(I:Inv X pins σ H s)(T:Turn X.prog X.w X.K tg J fp it tn)(st:tn 0 s.heap)(hf:∀b∈fp,cN X pins H b)(hk:scope.kind=.function)
  (Vn:∀x∈scope.names,x.2=.free->X.env.kindOf x.1=some .cell\/X.env.kindOf x.1=some .free) (Z8:∀ {x:Str},(x,NameKind.cell)∈scope.names->(x,NameKind.free)∈scope.names->False)
  (Xw:∀ (i:Nat) (x:Str) (v:V),N[i]?=some x->σ'[i]?=some (some v)->scope.names.lookup x=some .free/\∃j:Nat,X.N[j]?=some x/\σ[j]?=some (some v)) (hlen:σ'.length=N.length)
  (hY:∀fp s H,PG (aX X scope N fp s H) tg g/\PU (aX X scope N fp s H) ifs tt/\PE (aX X scope N fp s H) elt te)
  (hrd:∀D,H D=none->Gm J g tt te D σ' (upd H D (.lst [])) Q) {E:Value->Shared->Prop} :
  wpAny (model X.prog X.w) X.A (newList []) (λacc Xx=>wpAny (model X.prog X.w) X.A (newFunctionEnv scope X.env.globals (eR X.env scope.names []) [] X.env.qual none .none (some X.env)) (λXy Yj =>
   codeAny (model X.prog X.w) X.A (.compStart (.ListComp elt [⟨tg,iter,ifs,0⟩] scope pos) 0 (.ref it) acc { Xy with scope:=relabel scope X.env }) (EH X pins σ Q acc Xy.locals) Yj) E Xx) E s:=by
 refine qN ?_;have Vv:∀b∈fp,b < s.heap.objs.size:=λb hb=>let ⟨o,e,_⟩:=T.obj _ _ st b hb;zY e;have I3:=I.Yh (ys:=[]) (its:=[]) (t':=s.toks) .nil (xX _);have hD:H s.heap.objs.size=none:=I.fresh;let⟨W,⟨m0,w0⟩,turn⟩:=hrd _ hD;generalize e3:({ s with heap:=s.heap.push { cls:=.type "list",data:=.seq ([]:List Value).toArray },toks:=s.toks }:Shared)=s3 at I3;have e3h:s3.heap=s.heap.push { cls:=.type "list",data:=.seq ([]:List Value).toArray }:=by rw[<- e3]
 generalize hH3:upd H s.heap.objs.size (.lst [])=H3 at I3 w0 turn;have UQ:s.heap.objs.size < s3.heap.objs.size:=by rw[e3h,xM];exact kZ _
 have hk3:∀b o,s.heap.get? b=some o->s3.heap.get? b=some o:=λb o e=>by rw[e3h];exact zU _ e
 generalize s.heap.objs.size=D at *;have f3:∀b∈fp,cN X pins H3 b:=λb hb=>by
  let⟨f0,f⟩:=hf b hb;refine⟨?_,f⟩;rw[<- hH3,aD (yS (Vv b hb))];exact f0
 have ZU:tn 0 s3.heap:=T.keep _ _ _ st λb _ o e=>hk3 b o e;refine Ce λh4 V1 hkp WW=>?_;dsimp only;have I4:=GB (N:=N) (σ':=σ') (fp:=fp) I3 f3 (λb hb=>Zm (Vv b hb) UQ) hk Vn V1 hkp WW Z8 Xw hlen s3.toks;have fC:∀H',H' s3.heap.objs.size=none->cN X pins H' s3.heap.objs.size:=λH' hn=>I3.Vt (yN _) hn;let⟨hg,Z9,Yk⟩:=hY fp s3 H3;have efp:∀b∈fp,∀H':Hp,H' b=none->cN (aX X scope N fp s3 H3) [] H' b:=λb hb H' hn=>by
  refine⟨hn,(I4.ok.exf b hb).1,I4.ok.Wu b hb,.inl hb,(I4.ok.exf b hb).2,λp hp=>?_⟩;cases hp
 have loop:codeAny (model X.prog X.w) X.A (.compLoop (.ListComp elt [⟨tg,iter,ifs,0⟩] scope pos) 0 (.ref it) (.ref D) (fN X scope s3.heap.objs.size)) (EH X pins σ Q (.ref D) s3.heap.objs.size) { s3 with heap:=h4 }:=by
  refine xk (λn s'=>∃i σ' H',Inv (aX X scope N fp s3 H3) [] σ' H' s'/\tn i s'.heap/\(∀b∈fp,H' b=none)/\W i n σ' H') ?_ m0
   ⟨0,σ',H3,I4,T.keep _ _ _ ZU λb _ o e=>hkp b o e,λb hb=>(f3 b hb).1,w0⟩
  rintro n s5 ⟨i,σ5,H5,I5,st5,fr5,w5⟩;rcases turn i n σ5 H5 w5 with ⟨stop,q⟩|⟨go,step⟩
  ·refine ck (T.done (aX X scope N fp s3 H3) rfl rfl rfl hc i [] s5 σ5 H5 _ I5 (λb hb=>efp b hb H5 (fr5 b hb)) st5 stop) λr s6 ⟨hr,I6⟩=>?_;subst hr;let⟨m,hn6,_⟩:=I6.loc;refine⟨D,H5,m,rfl,rfl,I3.Xp I6.os I6.base I6.UC I6.bare (λb hb=>?_),hn6,fC H5 I6.free,q⟩;let⟨f0,f1,f2,f4,f5,f6⟩:=f3 b hb;exact⟨f4,f1,f5,f6⟩
  ·refine ck (T.item (aX X scope N fp s3 H3) rfl rfl rfl hc i [] s5 σ5 H5 _ I5 (λb hb=>efp b hb H5 (fr5 b hb)) st5 go) λr s6 ⟨u,hr,h6⟩=>?_;subst hr;refine ck h6 λ_ s7 ⟨x,H7,I7,r7,y7,st7,fr7⟩=>?_;have I7':=I7.pinned (λb hb=>efp b hb H7 (fr7 b hb)) (T.obj _ _ st7);have again:∀ {pl:List (Addr×Obj)}{σ9:St}{H9:Hp}{s9:Shared}{n':Nat},Inv (aX X scope N fp s3 H3) ([]++pb fp s7.heap) σ9 H9 s9->W (i+1) n' σ9 H9->∃i σ' H',Inv (aX X scope N fp s3 H3) [] σ' H' s9/\tn i s9.heap/\(∀b∈fp,H' b=none)/\W i n' σ' H':=λ{pl σ9 H9 s9 n'} I9 w9=>by
    refine⟨i+1,σ9,H9,I9.UP,T.keep _ _ _ st7 λb hb o e=>(I9.pin (b,o) (yE _ (yE _ (dP hb e)))).1,λb hb=>?_,w9⟩;let⟨o,e,d⟩:=T.obj _ _ st7 b hb;exact (I9.pin (b,o) (yE _ (yE _ (dP hb e)))).2.1
   refine ck (hg _ s7 σ5 H7 x u _ I7' r7 (step x H7 y7)) λ_ s8 ⟨σ8,H8,I8,q8⟩=>?_;refine ck (Z9 _ s8 σ8 H8 _ I8 q8) λok s9 ⟨H9,I9,q9⟩=>?_;cases ok with
   | false =>
    rw[yO (by decide)] at q9;rw[yO (by decide)];let⟨m',hm,w9⟩:=q9;exact⟨m',hm,again (pl:=[]) I9 w9⟩
   | true =>
    rw[yM rfl] at q9;rw[yM rfl];refine ck (Yk _ s9 σ8 H9 _ I9 q9) λy s10 ⟨v,H10,I10,r10,ys,aeb,hz,m',hm,w10⟩=>?_;refine ck (uY (X:=aX X scope N fp s3 H3) _ s10 σ8 H10 (.ref D) [v] (.ref D) [y] (λ_ H'=>W (i+1) m' σ8 H') I10 rfl (.cons r10 .nil) ⟨D,ys,v,rfl,rfl,aeb,hz,w10⟩) λ_ s11 ⟨_,H11,I11,_,w11⟩=>?_;exact⟨m',hm,again (pl:=[]) I11 w11⟩
 exact codeAny_compStart_list loop (T.self _ 0 _ _ _ (T.keep _ _ _ ZU λb _ o e=>hkp b o e) loop)
end
def JV(wi:TI)(g:TG)(tt:TT)(te:TE)(U2:St->St):TE:=λσ H Q=>wi σ H λJ H1=>∀D,H1 D=none->Gm J g tt te D (U2 σ) (upd H1 D (.lst [])) Q
structure gO(X:Cx)(scope:Scope)(N:List Str)(U2:St->St):Prop where
 kind:scope.kind=.function
 free:∀x∈scope.names,x.2=.free->X.env.kindOf x.1=some .cell\/X.env.kindOf x.1=some .free
 dup:∀ {x:Str},(x,NameKind.cell)∈scope.names->(x,NameKind.free)∈scope.names->False
 loc:∀x∈scope.names,x.2=.local -> scope.names.lookup x.1=some .local
 cap:∀ (σ:St) (i:Nat) (x:Str) (v:V),N[i]?=some x->(U2 σ)[i]?=some (some v)->scope.names.lookup x=some .free/\∃j:Nat,X.N[j]?=some x/\σ[j]?=some (some v)
 len:∀σ:St,(U2 σ).length=N.length
section
variable {X:Cx}{scope:Scope}{N:List Str}{U2:St->St}{tg iter elt:Expr}{ifs:List Expr}{pos:Pos}{wi:TI}{g:TG}{tt:TT}{te:TE}
def Lb(hc:X.calm=true)(S:gO X scope N U2)(hi:PI X tg iter wi)
  (hY:∀fp s H,PG (aX X scope N fp s H) tg g/\PU (aX X scope N fp s H) ifs tt/\PE (aX X scope N fp s H) elt te)
  (hs:∀x,foldedSetIterable iter X.env x=pure x:=by intro _;rfl):PE X (.ListComp elt [⟨tg,iter,ifs,0⟩] scope pos) (JV wi g tt te U2):=by
 intro pins s σ H Q I h;rw[eval_ListComp];refine wpAny_comprehension_free (use:=none) rfl hs (j7 (je I.ok S.free)) S.kind S.loc (ck (hi pins s σ H _ I h) λv s1 h1=>ck h1 λitv s2 h2=>?_);let⟨it,fp,tn,J,H2,e,I2,T,XX,f2,rd⟩:=h2;subst e;refine ck (uC (iter:=iter) (pos:=pos) (E:=X.xe) hc I2 T XX f2 S.kind S.free S.dup (S.cap σ) (S.len σ) hY rd) λacc s3 h3=>ck h3 λXy s4 h4=>?_;refine jU h4 λr s5 h5=>?_;let⟨D,H5,m,rfl,rfl,I5,hn,fC,q⟩:=h5;refine⟨m,hn,λh' sb=>?_⟩;let⟨f0,f1,WA,f3,f4,f5⟩:=fC;exact⟨.ref D,H5,I5.turned (t':=s5.toks) (λb o hb e=>(sb.2 b hb).trans e) f0 f1 f3 f4 f5,rfl,q⟩
def Dt(hc:X.calm=true)(S:gO X scope N U2)(hi:PI X tg iter wi)
  (hY:∀fp s H,PG (aX X scope N fp s H) tg g/\PU (aX X scope N fp s H) ifs tt/\PE (aX X scope N fp s H) elt te)
  (hN:X.N.Nodup) (hiy:X.N[i]?=some y) (hy:X.env.scope.names.lookup y=some .local)
  (hsw:swapsWith (.ListComp elt [⟨tg,iter,ifs,0⟩] scope pos) (some (.Name y py)) Vw.line X.env=pure true)
  (hs:∀x,foldedSetIterable iter X.env x=pure x:=by intro _;rfl):PS X (.Assign [.Name y py] (.ListComp elt [⟨tg,iter,ifs,0⟩] scope pos) Vw) (Fd (JV wi g tt te U2) (uz i)):=by
 intro pins s σ H D I h;rw[exec_Assign_Name_used _ _ _ _ hsw];refine zV (vM (zV ?_));show wpAny _ X.A (do let _ <- comprehension (.ListComp elt [⟨tg,iter,ifs,0⟩] scope pos) scope X.env _ (newList []) false (eval iter X.env) (some (assign (.Name y py) X.env))) _ _ s;refine zV (xB (wpAny_comprehension_free (use:=some (assign (.Name y py) X.env)) (Q:=λ_ s'=>SP X pins D .next s') rfl hs (j7 (je I.ok S.free)) S.kind S.loc
  (ck (hi pins s σ H _ I h) λv s1 h1=>ck h1 λitv s2 h2=>?_)) (λ_ s' hq=>zW (zW hq)) λ_ _ e=>e)
 let⟨it,fp,tn,J,H2,e,I2,T,XX,f2,rd⟩:=h2;subst e;refine ck (uC (iter:=iter) (pos:=pos) (E:=X.xe) hc I2 T XX f2 S.kind S.free S.dup (S.cap σ) (S.len σ) hY rd) λacc s3 h3=>ck h3 λXy s4 h4=>?_;refine jU h4 λr s5 h5=>?_;let⟨D',H5,m,rfl,rfl,I5,hn,fC,q⟩:=h5;show wpAny _ X.A (assign (.Name y py) X.env (.ref D')) _ _ _;refine wpAny_assign_Name (o8 (v:=.ref D') I5 hN hiy (.inl hy) rfl (λs6 I6 ⟨a,sa,ha⟩=>?_) (.inr hy));let⟨f0,f1,WA,f3,f4,f5⟩:=fC;have UN:Xy.locals≠a:=by
  rcases ha with z|z
  ·rw[z];exact f1
  ·exactλw=>f4 y a z w.symm
 refine⟨m,hn.sameBut sa UN,λh' sb=>?_⟩;exact⟨_,H5,I6.turned (t':=s6.toks) (λb o hb e=>(sb.2 b hb).trans e) f0 f1 f3 f4 f5,q⟩
end
abbrev Se(X:Cx)(qual:Str)(scope:Scope)(f c L:Addr):Env:=W.envX qual scope L f (.ref c) (eR X.env scope.names [])
def iu(X:Cx)(A:Around)(qual:Str)(scope:Scope)(N:List Str)(f c:Addr)(s:Shared)(H:Hp):Cx where
 prog:=X.prog
 w:=X.w
 K:=X.K
 mg:=X.mg
 base:=X.base
 A:=A.deeper (Se X qual scope f c s.heap.objs.size)
 N:=N
 UG:=s
 Uz:=H
 env:=Se X qual scope f c s.heap.objs.size
 outer:=X.stack
 stack:=Se X qual scope f c s.heap.objs.size::X.stack
 ex:=[]
 fn:=λ_=>false
 calm:=true
 pn:=[]
 xe:=λ_ _=>False
def Lg(I:Inv X pins σ H s)(hd:A.handled=none)(hA:A.frames=some X.stack)(S:gO X scope N U2)(X0:∀x∈scope.names,x.2≠.cell)(YK:N[0]?=some p)(hp:scope.names.lookup p=some .local)(hNd:N.Nodup)(r:RelV v u)
  (V1:h1.Ns s.heap.objs.size (λx=>[(p,u)].reverse.lookup x)) (Vo:∀b o,s.heap.get? b=some o->h1.get? b=some o) (t':Nat) :
  Inv (iu X A qual scope N f c s H) [] ((U2 σ).set 0 (some v)) H { s with heap:=h1,toks:=t' }:=by
 have Vp:=je I.ok S.free;have YI:∀x c,(eR X.env scope.names []).lookup x=some c->X.env.cells.lookup x=some c:=λx c e=>lU Vp (λ_ _ z=>by cases z) x c (mem_of_lookup e);have XY:∀b:Addr,b∉(iu X A qual scope N f c s H).ex:=λb z=>absurd (show b∈([]:List Addr) from z) (by simp);refine⟨⟨I.ok.mod,S.kind,rfl,rfl,yN _,λx y d e1 e2=>I.ok.inj x y d (YI x d e1) (YI y d e2),λx hx=>?_,λx d z=>?_,λ_=>hd,Around.frames_deeper hA,.inr ⟨rfl,rfl⟩,λb z=>absurd z (XY b),I.bs,yD I.ok.Xn I.sz,λb _ _=>XY b,λb z=>absurd z (XY b),I.stack,I.Vm⟩,
  rfl,I.bare,Un.kept Vo,⟨_,V1,λi x w e1 e2 e3=>?_⟩,λx d e=>?_,I.UC.fresh (yN _),λx d e=>I.UH x d (YI x d e),λq hq=>absurd (show q∈([]:List (Addr×Obj)) from hq) (by simp),I.UC.kept Vo,?_⟩
 ·rcases hx with hx|hx
  ·exact absurd rfl (X0 _ (mem_of_lookup (show scope.names.lookup x=some .cell from hx)))
  ·exact gK (.inl hx)
 ·cases z
 ·cases i with
  | zero =>
   have e1:N[0]?=some x:=e1;rw[YK] at e1;cases e1;have hl:0 < (U2 σ).length:=by rw[S.len];exact (List.getElem?_eq_some_iff.mp YK).1
   rw[vZ hl] at e2;cases e2;exact⟨u,r,.inl ⟨hp,by simp⟩⟩
  | succ i =>
   have e2':(U2 σ)[i+1]?=some (some w):=by
    rw[vC (by lia)] at e2;exact e2
   let⟨Xi,j,hj,hv⟩:=S.cap σ (i+1) x w e1 e2';have hm:(x,NameKind.free)∈scope.names:=mem_of_lookup Xi;let⟨m,hn,hl⟩:=I.loc;have kx:=S.free _ hm rfl;let⟨u',ru,lk⟩:=hl j x w hj hv (kx.elim (λk=>.inr (.inl k)) λk=>.inr (.inr k));refine⟨u',ru,.inr ⟨.inr Xi,?_⟩⟩;rcases lk with ⟨k,_⟩|⟨_,c',ec,ic⟩
   ·have k:X.env.kindOf x=some .local:=k;rcases kx with k'|k'<;>· rw[k] at k';cases k'
   ·let⟨c'',VF⟩:=gK (env:=X.env) (acc:=[]) (.inl Xi);have e':=YI x c'' VF;rw[ec] at e';cases e';exact⟨c',VF,ic.keeps Vo⟩
 ·let⟨w,q⟩:=I.cell x d (YI x d e);exact⟨w,q.keeps Vo⟩
 ·rw[yC];exact S.len σ
def Bb(I:Inv X pins σ H s)(hr:ej (k+1) A)(hA:A.frames=some X.stack)(S:gO X scope N U2)(X0:∀x∈scope.names,x.2≠.cell)
  (YK:N[0]?=some p) (hp:scope.names.lookup p=some .local) (hNd:N.Nodup) (WW:scope.isCoroutine=false) (Xz:scope.isGenerator=false)
  (hf:s.heap.get? f=some (W.kla_obj name qual params body scope (eR X.env scope.names []) pm c VR)) (XA:H c=some (.WR qual)) (hb:bindArgs (W.kla_fn name qual params body scope (eR X.env scope.names []) pm (.ref c) VR) ⟨[u],[]⟩=pure [(p,u)])
  (r:RelV v u) (hY:PE (iu X A qual scope N f c s H) body te) (q:te ((U2 σ).set 0 (some v)) H Q) :
  wpAny (model X.prog X.w) A (call (.ref f) [u]) (EP X pins σ Q) (λ_ _=>False) s:=by
 have Vd:s.heap.CodeRec (.ref c) qual:=I.UC c _ XA;refine vU (W.kla_callFunE hr.depth hf rfl WW Xz rfl Vd ?_);rw[hb];refine zW (wpAny_newFunctionEnv X0 (λy hy=>?_) (λh1 V1 hsb=>⟨?_,?_⟩) S.kind)
 ·rw[List.mem_singleton.mp hy];exact hp
 ·exact I.nolimit.fresh _ hsb
 ·have hk1:∀b o,s.heap.get? b=some o->h1.get? b=some o:=λb o e=>hsb.extBut b o (yS (zY e)) (zU _ e);have I1:=Lg (qual:=qual) (f:=f) (c:=c) I hr.hd hA S X0 YK hp hNd r V1 hk1 (s.toks+[(p,u)].length);refine W.kla_codeExpr (xB (hY [] _ _ H Q I1 q) (λw s' ⟨v',H',I',r',q'⟩=>?_) λe s' h=>False.elim h);exact⟨v',H',I.Xp I'.os I'.base I'.UC I'.bare (λb z=>absurd (show b∈([]:List Addr) from z) (by simp)),r',q'⟩
def B0{pos:Pos}(l:List Value)(h:TriplesOk l)(e:codeAmong pos' (l++[rawInt pos.line,rawInt pos.col,c])=some v):codeAmong pos' l=some v\/v=c:=by
 fun_induction TriplesOk l with
 | case1 =>
  simp?[xQ,codeAmong,rawInt] at e;split at e
  ·cases e;exact .inr rfl
  ·cases e
 | case2 a t b u x rest ih =>
  simp?[xH,codeAmong] at e ⊢;split at e
  ·rename_i hc;rw[yM hc];exact .inl e
  ·rename_i hc;rw[yO hc];exact ih h e
 | case3 l h1 h2=>exact h.elim
def A5(I:Inv X pins σ H s)(S:gO X scope N U2)(hq:X.env.qual++"<lambda>"=qual)(V2:X.env.code=.ref c)(C:W.CodeHd X.base c P)(hT:H P=some (.tab qual))(hB:RE X.mg X.base)
  (XB:defaultsOf params X.env=([],[]))
  (h:∀ (f c':Addr) (pm VR:Value) (s':Shared) (H':Hp),Inv X pins σ H' s'->s'.heap.get? f=some (W.kla_obj "<lambda>" qual params body scope (eR X.env scope.names []) pm c' VR)->H' f=none->H' c'=some (.WR qual)->aS H H'->cN X pins H' f->(∀b,H' b≠none->H b≠none\/H' b=some (.WR qual))->Q (.ref f) s') :
  wpAny (model X.prog X.w) X.A (eval (.Lambda params body scope U9) X.env) Q X.xe s:=by
 have Vp:=j7 (je I.ok S.free);have hCs:=C.keeps I.bk;have hg:s.heap.Ns mainGlobals X.mg:=by
  let⟨o,es,ep,e,r⟩:=I.ok.mod.glob;exact⟨o,es,ep,I.bk _ _ e,r⟩
 have hPn:X.base.get? P=none:=by
  cases e:X.base.get? P with
  | none=>rfl
  | some o=>rw[(I.bs P o e).2] at hT;cases hT
 let⟨ps,hP,ht,WW⟩:=I.UC P _ hT;have hb:s.heap.BuiltinsAt X.mg P:=by
  let⟨bm,o,b1,b2,b3,b4,b5⟩:=hB;exact⟨bm,o,b1,b2,b3,(λz=>by rw[z,hPn] at b4;cases b4),I.bk _ _ b4,b5⟩
 refine W.kla_eval XB ?_;rw[hq];cases hf:codeAmong U9 ps.toList with
 | some cv =>
  let⟨c',rfl,VF⟩:=WW U9 cv hf;refine W.kla_makeFunctionHit Vp I.ok.glob hg V2 hCs hP ht hf hb λVR h' tk kp hz=>?_;have kp2:∀b o,s.heap.get? b=some o->(h'.push (W.kla_obj "<lambda>" qual params body scope (eR X.env scope.names []) ((X.mg "__name__").getD .none) c' VR)).get? b=some o:=λb o e=>zU _ (kp b o e);have hn:H h'.objs.size=none:=I.UC.fresh hz;exact h _ c' _ VR _ H (I.kept (t':=tk) kp2) (zX _ rfl) hn VF (.refl _) (I.Vt hz hn) λb z=>.inl z
 | none =>
  have hgP:mainGlobals≠P:=λz=>by
   let⟨o,es,ep,e,r⟩:=I.ok.mod.glob;rw[z,hPn] at e;cases e
  refine W.kla_makeFunction Vp I.ok.glob hg V2 hCs hP ht hf hgP hb λc' VR h' tk hx hc1 W5 hcr hP'=>?_;have hn:H c'=none:=I.UC.fresh hc1;have hz:s.heap.objs.size<=h'.objs.size:=jV (jB hc1 W5);have nP:∀ {b:Addr}{u:HO},H b=some u->(∀q,u≠.tab q)->b≠P:=λ{b u} e UN z=>by subst z;rw[hT] at e;cases e;exact UN _ rfl
  have kp:∀b o,b≠P->s.heap.get? b=some o->(h'.push (W.kla_obj "<lambda>" qual params body scope (eR X.env scope.names []) ((X.mg "__name__").getD .none) c' VR)).get? b=some o:=λb o hb e=>zU _ (hx b o hb e);have hPc:P≠c':=λz=>by rw[<- z,hT] at hn;cases hn
  have up:∀b u,H b=some u->upd H c' (.WR qual) b=some u:=λb u e=>by rw[aD (aU e hn)];exact e
  have un:Un X.fs [] H (upd H c' (.WR qual)) s.heap (h'.push (W.kla_obj "<lambda>" qual params body scope (eR X.env scope.names []) ((X.mg "__name__").getD .none) c' VR)):=by
   refine⟨λb o e n _ _=>kp b o (λz=>by rw[z,hT] at n;cases n) e,λb o e n _ _=>⟨o.slots,kp b o (λz=>by rw[z,hT] at n;cases n) e⟩,λb o e n _=>?_,λb o e _=>?_,λb xs e=>up b _ e,λb o u e=>up b _ e,⟨λb u e _=>up b u e,λb q ps' e z=>?_⟩⟩
   ·rw[aD (yS (zP (zY e) hc1))];exact n
   ·by_cases hb:b=P
    ·subst hb;exact⟨_,zU _ hP'⟩
    ·exact⟨o,kp b o hb e⟩
   ·by_cases hb:b=P
    ·subst hb;rw[hP] at z;cases z;exact⟨_,zU _ hP'⟩
    ·exact⟨#[],by rw[Array.append_empty];exact kp b _ hb z⟩
  have UC:oI X.prog X.w (upd H c' (.WR qual)) (h'.push (W.kla_obj "<lambda>" qual params body scope (eR X.env scope.names []) ((X.mg "__name__").getD .none) c' VR)):=by
   intro b u e;by_cases hbc:b=c'
   ·subst hbc;rw[aH] at e;cases e;let⟨c0,oc,vs,t,e0,e1,r⟩:=hcr;exact⟨c0,oc,vs,t,e0,zU _ e1,r⟩
   ·rw[aD hbc] at e;by_cases hb:b=P
    ·subst hb;rw[hT] at e;cases e;refine⟨_,zU _ hP',?_,λpos v hv=>?_⟩
     ·have:=TriplesOk_snoc U9.line U9.col (.ref c') ps.toList ht;simpa using this
     ·have hv':codeAmong pos (ps.toList++[rawInt U9.line,rawInt U9.col,.ref c'])=some v:=by simpa using hv
      rcases B0 ps.toList ht hv' with z|z
      ·let⟨c0,z1,z2⟩:=WW pos v z;exact⟨c0,z1,up _ _ z2⟩
      ·exact⟨c',z,aH⟩
    ·exact (I.UC b u e).Vb (λd o hd eo=>kp d o (by
      rcases hd with rfl|hd
      ·exact hb
      ·exact nP hd λq z=>by cases z) eo) (λd hd=>up d _ hd) λd o hd _=>up d _ hd
  have I':=I.un (t':=tk) un UC;have hnf:upd H c' (.WR qual) h'.objs.size=none:=by
   rw[aD (jK W5)];exact I.UC.fresh hz
  refine h _ c' _ VR _ _ I' (zX _ rfl) hnf aH up (I.Vt hz hnf) λb z=>?_;by_cases hbc:b=c'
  ·subst hbc;exact .inr aH
  ·rw[aD hbc] at z;exact .inl z
end L2
namespace Dl
open PySem L2 PySem.Spec PyProof.Rows
abbrev D:=PyData
mutual
def Rep(K:W.Frag)(H:Hp):D->V->Prop
 | .none,v=>v=.Ux
 | .bool b,v=>v=.bl b
 | .int i,v=>v=.int i
 | .str x,v=>v=.str x
 | .tuple ds,v=>∃a vs,v=.ref a/\ku K H a vs/\ax K H ds vs
 | .list ds,v=>∃a vs,v=.ref a/\iM K H a vs/\ax K H ds vs
 | .dict _,_=>False
def ax(K:W.Frag)(H:Hp):List D->List V->Prop
 | [],vs=>vs=[]
 | d::ds,vs=>∃v r,vs=v::r/\Rep K H d v/\ax K H ds r
end
def aK{K:W.Frag}(e:aS H H')(h:ku K H a xs):ku K H' a xs:=by
 rcases h with (h|⟨o,h⟩)|h
 ·exact .inl (.inl (e _ _ h))
 ·exact .inl (.inr ⟨o,e _ _ h⟩)
 ·exact .inr h
mutual
theorem Rep.mono{K:W.Frag}{H H':Hp}(e:aS H H'):∀ {d:D}{v:V},Rep K H d v->Rep K H' d v
 | .none,_,h=>h
 | .bool _,_,h=>h
 | .int _,_,h=>h
 | .str _,_,h=>h
 | .tuple ds,_,h=>by
  simp?[Rep] at h ⊢;let⟨a,vs,rfl,q,r⟩:=h;exact⟨a,vs,rfl,aK e q,ax.mono e r⟩
 | .list ds,_,h=>by
  simp?[Rep] at h ⊢;let⟨a,vs,rfl,q,r⟩:=h;exact⟨a,vs,rfl,e.seq q,ax.mono e r⟩
 | .dict _,_,h=>h
theorem ax.mono{K:W.Frag}{H H':Hp}(e:aS H H'):∀ {ds:List D}{vs:List V},ax K H ds vs->ax K H' ds vs
 | [],_,h=>h
 | d::ds,_,h=>by
  simp?[ax] at h ⊢;let⟨v,r,rfl,a,b⟩:=h;exact⟨v,r,rfl,Rep.mono e a,ax.mono e b⟩
end
section
variable {K:W.Frag}
def ax.nil:ax K H [] []:=by simp[ax]
def ax.cons(a:Rep K H d v)(b:ax K H ds vs):ax K H (d::ds) (v::vs):=by
 simp?[ax];exact⟨v,vs,rfl,a,b⟩
def ax.cons_inv(h:ax K H (d::ds) vs):∃v r,vs=v::r/\Rep K H d v/\ax K H ds r:=by simpa only[ax] using h
def ax.nil_inv(h:ax K H [] vs):vs=[]:=by simpa only[ax] using h
def ax.length:∀ {ds:List D}{vs:List V},ax K H ds vs->vs.length=ds.length
 | [],_,h=>by rw[h.nil_inv];rfl
 | d::ds,_,h=>by let⟨v,r,rfl,_,b⟩:=h.cons_inv;simp[ax.length b]
def ax.get:∀ {ds:List D}{vs:List V}{i:Nat}{v:V},ax K H ds vs->vs[i]?=some v->∃d,ds[i]?=some d/\Rep K H d v
 | [],_,i,v,h,e=>by rw[h.nil_inv] at e;simp at e
 | d::ds,_,i,v,h,e=>by
  let⟨v',r,rfl,a,b⟩:=h.cons_inv;cases i with
  | zero=>simp at e;subst e;exact⟨d,rfl,a⟩
  | succ i=>simp at e;let⟨d',h1,h2⟩:=ax.get b e;exact⟨d',by simpa using h1,h2⟩
def ax.getD:∀ {ds:List D}{vs:List V}{i:Nat}{d:D},ax K H ds vs->ds[i]?=some d->∃v,vs[i]?=some v/\Rep K H d v
 | [],_,i,d,h,e=>by simp at e
 | d::ds,_,i,d',h,e=>by
  let⟨v',r,rfl,a,b⟩:=h.cons_inv;cases i with
  | zero=>simp at e;subst e;exact⟨v',rfl,a⟩
  | succ i=>simp at e;let⟨v,h1,h2⟩:=ax.getD b e;exact⟨v,by simpa using h1,h2⟩
def ax.append:∀ {ds es:List D}{vs us:List V},ax K H ds vs->ax K H es us->ax K H (ds++es) (vs++us)
 | [],_,_,_,h,g=>by rw[h.nil_inv];exact g
 | d::ds,_,_,_,h,g=>by let⟨v,r,rfl,a,b⟩:=h.cons_inv;exact ax.cons a (ax.append b g)
def ax.take:∀ {ds:List D}{vs:List V}(n:Nat),ax K H ds vs->ax K H (ds.take n) (vs.take n)
 | [],_,n,h=>by rw[h.nil_inv];simp[ax]
 | d::ds,_,0,h=>by simp[ax]
 | d::ds,_,n+1,h=>by let⟨v,r,rfl,a,b⟩:=h.cons_inv;exact ax.cons a (ax.take n b)
def ax.drop:∀ {ds:List D}{vs:List V}(n:Nat),ax K H ds vs->ax K H (ds.drop n) (vs.drop n)
 | [],_,n,h=>by rw[h.nil_inv];simp[ax]
 | d::ds,_,0,h=>h
 | d::ds,_,n+1,h=>by let⟨v,r,rfl,a,b⟩:=h.cons_inv;exact ax.drop n b
end
structure bG(HF H UA H':Hp):Prop where
 hh:aS H H'
 ff:aS HF UA
 fh:aS UA H'
 nw:∀a o,UA a=some o->HF a=some o\/H a=none
def bG.refl(s:aS HF H):bG HF H HF H:=⟨.refl _,.refl _,s,λ_ _ e=>.inl e⟩
def bG.trans(a:bG HF H UB H1)(b:bG UB H1 UL H2):bG HF H UL H2 :=
 ⟨a.hh.trans b.hh,a.ff.trans b.ff,b.fh,λx o e=>(b.nw x o e).elim (λz=>a.nw x o z) λz=>.inr (a.hh.free z)⟩
def eA(h:H p=none):aS H (upd H p o):=λb u e=>by rw[aD (aU e h)];exact e
def bG.new(s:aS HF H)(h:H p=none):bG HF H (upd HF p o) (upd H p o):=by
 have hf:HF p=none:=s.free h;refine⟨eA h,eA hf,λb u e=>?_,λb u e=>?_⟩
 ·by_cases hb:b=p
  ·subst hb;rw[aH] at e ⊢;exact e
  ·rw[aD hb] at e ⊢;exact s b u e
 ·by_cases hb:b=p
  ·subst hb;exact .inr h
  ·rw[aD hb] at e;exact .inl e
def bG.own(s:aS HF H)(h:H p=none):bG HF H HF (upd H p o) :=
 ⟨eA h,.refl _,λb u e=>by rw[aD (aU (s b u e) h)];exact s b u e,λ_ _ e=>.inl e⟩
def bG.freeze(g:bG HF H UB H1)(h:H p=none)(h1:H1 p=some o)(hf:UB p=none):bG HF H (upd UB p o) H1 :=
 ⟨g.hh,g.ff.trans (eA hf),λb u e=>by
  by_cases hb:b=p
  ·subst hb;rw[aH] at e;rw[h1,<- e]
  ·rw[aD hb] at e;exact g.fh b u e,λb u e=>by
  by_cases hb:b=p
  ·subst hb;exact .inr h
  ·rw[aD hb] at e;exact g.nw b u e⟩
def lg:List Str:=["ways_of","turned_order","fairest"]
def eS(K:W.Frag)(HF:Hp):Prop:=∀ (f:Addr) (oc:Value) (od:Option Addr) (fd:FuncData) (sl:Array (Option Value)) (c P:Addr),K.lookup f=some ⟨oc,od,.func fd,sl⟩->fd.qualname∈lg->fd.code=.ref c->W.codeHdIn K c P=true->HF P=some (.tab (fd.qualname++".<locals>."++"<lambda>"))
def eS.mono{K:W.Frag}(h:eS K HF)(e:aS HF UA):eS K UA:=λf oc od fd sl c P a b d q=>e _ _ (h f oc od fd sl c P a b d q)
abbrev Env:=List (Option D)
structure cM(K:W.Frag)(HF:Hp)(ρ:Env)(σ:L2.St):Prop where
 get:∀ (i:Nat) (d:D),ρ[i]?=some (some d)->∃v,σ[i]?=some (some v)/\Rep K HF d v
 len:ρ.length<=σ.length
 tb:eS K HF
def cM.mono{K:W.Frag}(h:cM K HF ρ σ)(e:aS HF UA):cM K UA ρ σ:=⟨λi d q=>let ⟨v,a,b⟩:=h.get i d q;⟨v,a,b.mono e⟩,h.len,h.tb.mono e⟩
def tD(K:W.Frag)(f:Env->Option D):TE:=λσ H Q=>∃HF ρ d,aS HF H/\cM K HF ρ σ/\f ρ=some d/\∀v H' UA,bG HF H UA H'->Rep K UA d v->Q v H'
def DE(X:Cx)(e:Expr)(f:Env->Option D):Prop:=PE X e (tD X.K f)
def tF(K:W.Frag)(f:Env->Option (List D)):TE:=λσ H Q=>∃HF ρ ds,aS HF H/\cM K HF ρ σ/\f ρ=some ds /\
 ∀a vs H' UA,bG HF H UA H'->H a=none->UA a=none->H' a=some (.lst vs)->ax K UA ds vs->Q (.ref a) H'
def DF(X:Cx)(e:Expr)(f:Env->Option (List D)):Prop:=PE X e (tF X.K f)
def MC(K:W.Frag)(f:Env->Option Bool):TT:=λσ H Q=>∃HF ρ b,aS HF H/\cM K HF ρ σ/\f ρ=some b/\∀H' UA,bG HF H UA H'->Q b H'
def DT(X:Cx)(e:Expr)(f:Env->Option Bool):Prop:=PT X e (MC X.K f)
def R1(K:W.Frag)(f:Env->Option (List D)):TA:=λσ H Q=>∃HF ρ ds,aS HF H/\cM K HF ρ σ/\f ρ=some ds/\∀vs H' UA,bG HF H UA H'->ax K UA ds vs->Q vs H'
def DA(X:Cx)(es:List Expr)(f:Env->Option (List D)):Prop:=PA X es (R1 X.K f)
def bb(h:PE X e t)(i:∀σ H Q,t' σ H Q->t σ H Q):PE X e t':=λpins s σ H Q I q=>h pins s σ H Q I (i σ H Q q)
def xu(h:PT X e t)(i:∀σ H Q,t' σ H Q->t σ H Q):PT X e t':=λpins s σ H Q I q=>h pins s σ H Q I (i σ H Q q)
def xc(h:PA X e t)(i:∀σ H Q,t' σ H Q->t σ H Q):PA X e t':=λpos pins s σ H Q I q=>h pos pins s σ H Q I (i σ H Q q)
def bs(h:x.bind f=some b):∃a,x=some a/\f a=some b:=by
 cases x with
 | none=>cases h
 | some a=>exact⟨a,rfl,h⟩
def DF.de(h:DF X e f):DE X e (λρ=>(f ρ).map PyData.list):=bb h λσ H Q ⟨HF,ρ,d,sm,eo,hf,q⟩=>by
 have hf:(f ρ).map PyData.list=some d:=hf;cases e1:f ρ with
 | none=>rw[e1] at hf;cases hf
 | some ds =>
  rw[e1] at hf;obtain rfl:PyData.list ds=d:=xE hf;refine⟨HF,ρ,ds,sm,eo,e1,λa vs H' UA g ha X1 h' r=>q _ _ (upd UA a (.lst vs)) (g.freeze ha h' X1) ?_⟩;simp?[Rep];exact⟨a,vs,rfl,.inl (.inl aH),r.mono (eA X1)⟩
def ae(i:Nat):Env->Option D:=λρ=>(ρ[i]?).getD none
def Px(i:Nat)(hN:X.N[i]?=some x)(hv:Kr X.env.scope x)(hd:(x == ("__debug__":Str))=false:=by decide)(Vd:(x == ("__classdict__":Str))=false:=by decide):DE X (.Name x pos) (ae i) :=
 bb (ll hN hv hd Vd) λσ H Q ⟨HF,ρ,d,sm,eo,hf,q⟩=>by
  have hf:(ρ[i]?).getD none=some d:=hf;cases e:ρ[i]? with
  | none=>rw[e] at hf;cases hf
  | some o =>
   rw[e] at hf;have hf:o=some d:=hf;subst hf;let⟨v,a,b⟩:=eo.get i d e;exact⟨v,a,q v H HF (.refl sm) b⟩
def fC(d:D):Env->Option D:=λ_=>some d
def NG{i j pos}:DE X (.Constant (.int i) j pos) (fC (.int i)):=bb JL λσ H Q ⟨HF,ρ,d,sm,eo,hf,q⟩=>by cases hf;exact q _ H HF (.refl sm) (by simp[Rep])
def QJ{b j pos}:DE X (.Constant (.bool b) j pos) (fC (.bool b)):=bb IJ λσ H Q ⟨HF,ρ,d,sm,eo,hf,q⟩=>by cases hf;exact q _ H HF (.refl sm) (by simp[Rep])
def Ni{j pos}:DE X (.Constant .none j pos) (fC .none):=bb OH λσ H Q ⟨HF,ρ,d,sm,eo,hf,q⟩=>by cases hf;exact q _ H HF (.refl sm) (by simp[Rep])
def O4{x j pos}:DE X (.Constant (.str x) j pos) (fC (.str x)):=bb Ij λσ H Q ⟨HF,ρ,d,sm,eo,hf,q⟩=>by cases hf;exact q _ H HF (.refl sm) (by simp[Rep])
def L4(hg:Gl X x)(hm:X.mg x=some (.int i t))(hd:(x == ("__debug__":Str))=false:=by decide):DE X (.Name x pos) (fC (.int i)) :=
 bb (Er (v:=.int i) hg hm ⟨t,rfl⟩ hd) λσ H Q ⟨HF,ρ,d,sm,eo,hf,q⟩=>by cases hf;exact q _ H HF (.refl sm) (by simp[Rep])
def gD(K:W.Frag)(r:R2)(g:D->D->Option D):Prop:=∀HF H x y v1 v2 d Q,aS HF H->Rep K HF x v1->Rep K HF y v2->g x y=some d->(∀v H' UA,bG HF H UA H'->Rep K UA d v->Q v H')->r v1 v2 H Q
def f2(g:D->D->Option D)(f1 f2:Env->Option D):Env->Option D:=λρ=>(f1 ρ).bind λx=>(f2 ρ).bind λy=>g x y
def Lm{X:Cx}{fa fb:Env->Option D}(hr:gD X.K r g):∀σ H Q,tD X.K (f2 g fa fb) σ H Q->Qg r (tD X.K fa) (tD X.K fb) σ H Q:=λσ H Q ⟨HF,ρ,d,sm,eo,hf,q⟩=>by
 let⟨x,hx,hf⟩:=bs hf;let⟨y,hy,hg⟩:=bs hf;exact⟨HF,ρ,x,sm,eo,hx,λv1 H1 UB g1 r1=>⟨UB,ρ,y,g1.fh,eo.mono g1.ff,hy,λv2 H2 UL g2 r2=>hr UL H2 x y v1 v2 d Q g2.fh (r1.mono g2.ff) r2 hg λv H' UA g3 r3=>q v H' UA ((g1.trans g2).trans g3) r3⟩⟩
def AC(ho:jj X (binaryOp op) r)(hr:gD X.K r g)(ha:DE X a fa)(hb:DE X b fb):DE X (.BinOp a op b pos) (f2 g fa fb):=bb (C0 ho ha hb) (Lm hr)
def m5(ho:jj X (compareOp op) r)(hr:gD X.K r g)(ha:DE X a fa)(hb:DE X b fb)(hm:behindInMarks op b=false):DE X (.Compare a [op] [b] pos) (f2 g fa fb):=bb (LR ho ha hb hm) (Lm hr)
def zt(C:Int->Int->Prop)[∀i j,Decidable (C i j)](g:Int->Int->D):D->D->Option D
 | .int i,.int j=>if C i j then some (g i j) else none
 | _,_=>none
def Ig{K:W.Frag}{C:Int->Int->Prop}[∀i j,Decidable (C i j)]{gi:Int->Int->Int}:gD K (rI C λi j=>.int (gi i j)) (zt C λi j=>.int (gi i j)):=by
 intro HF H x y v1 v2 d Q sm r1 r2 hg q;cases x<;>cases y<;>simp?[zt] at hg<;>try cases hg
 rename_i i j;simp?[Rep] at r1 r2;by_cases hc:C i j
 ·rw[yM hc] at hg;cases hg;exact⟨i,j,r1,r2,hc,q _ H HF (.refl sm) (by simp[Rep])⟩
 ·rw[yO hc] at hg;cases hg
def Gx{K:W.Frag}{gi:Int->Int->Int}:gD K (Ko λi j=>.int (gi i j)) (zt (λ_ _=>True) λi j=>.int (gi i j)):=by
 intro HF H x y v1 v2 d Q sm r1 r2 hg q;cases x<;>cases y<;>simp?[zt] at hg<;>try cases hg
 rename_i i j;simp?[Rep] at r1 r2;exact⟨i,j,r1,r2,q _ H HF (.refl sm) (by simp[Rep])⟩
def lH{K:W.Frag}{gi:Int->Int->Bool}:gD K (Ko λi j=>.bl (gi i j)) (zt (λ_ _=>True) λi j=>.bool (gi i j)):=by
 intro HF H x y v1 v2 d Q sm r1 r2 hg q;cases x<;>cases y<;>simp?[zt] at hg<;>try cases hg
 rename_i i j;simp?[Rep] at r1 r2;exact⟨i,j,r1,r2,q _ H HF (.refl sm) (by simp[Rep])⟩
noncomputable instance (i j:Int):Decidable (yj i j):=by unfold yj;infer_instance
noncomputable instance (i j:Int):Decidable (KH i j):=by unfold KH;infer_instance
section
variable {X:Cx}{a b c:Expr}{fa fb fc:Env->Option D}{pos:Pos}{rest:List Expr}
def mf(fa fb:Env->Option D):Env->Option D:=λρ=>(fa ρ).bind fun|.bool true=>fb ρ|.bool false=>some (.bool false)|_=>none
def SL(fa fb:Env->Option D):Env->Option D:=λρ=>(fa ρ).bind fun|.bool true=>some (.bool true)|.bool false=>fb ρ|_=>none
def QT:D->Option D|.bool b=>some (.bool (!b))|_=>none
def SF(fa:Env->Option D):Env->Option D:=λρ=>(fa ρ).bind QT
def Nd{op}(h:DE X a fa):DE X (.BoolOp op [a] pos) fa:=N0 h
def OR(ha:DE X a fa)(hb:DE X (.BoolOp .And (b::rest) pos) fb):DE X (.BoolOp .And (a::b::rest) pos) (mf fa fb):=bb (Na ha hb) λσ H Q ⟨HF,ρ,d,sm,eo,hf,q⟩=>by
 let⟨x,hx,hf⟩:=bs hf;refine⟨HF,ρ,x,sm,eo,hx,λv1 H1 UB g1 r1=>?_⟩;cases x<;>try cases hf
 rename_i k;simp?[Rep] at r1;refine⟨k,r1,?_⟩;cases k with
 | true=>exact uq ⟨UB,ρ,d,g1.fh,eo.mono g1.ff,hf,λv H' UA g r=>q v H' UA (g1.trans g) r⟩
 | false=>cases hf;exact qd (q _ H1 UB g1 (by simp[Rep]))
def QP(ha:DE X a fa)(hb:DE X (.BoolOp .Or (b::rest) pos) fb):DE X (.BoolOp .Or (a::b::rest) pos) (SL fa fb):=bb (IM ha hb) λσ H Q ⟨HF,ρ,d,sm,eo,hf,q⟩=>by
 let⟨x,hx,hf⟩:=bs hf;refine⟨HF,ρ,x,sm,eo,hx,λv1 H1 UB g1 r1=>?_⟩;cases x<;>try cases hf
 rename_i k;simp?[Rep] at r1;refine⟨k,r1,?_⟩;cases k with
 | false=>exact qd ⟨UB,ρ,d,g1.fh,eo.mono g1.ff,hf,λv H' UA g r=>q v H' UA (g1.trans g) r⟩
 | true=>cases hf;exact uq (q _ H1 UB g1 (by simp[Rep]))
def gB:D->Option Bool|.bool b=>some b|_=>none
def fB(f:Env->Option D):Env->Option Bool:=λρ=>(f ρ).bind gB
def Cj:∀σ H (Q:Bool->Hp->Prop),MC X.K (fB f) σ H Q->tD X.K f σ H λx H1=>∃c,x=.bl c/\Q c H1:=λσ H Q ⟨HF,ρ,k,sm,eo,hf,q⟩=>by
 let⟨x,hx,hf⟩:=bs hf;refine⟨HF,ρ,x,sm,eo,hx,λv1 H1 UB g1 r1=>?_⟩;cases x<;>try cases hf
 simp?[Rep] at r1;exact⟨_,r1,q H1 UB g1⟩
def Pz(h:DE X a f)(he:∀whole,isTrue a X.env whole=(do let v <- whole;standAt a.pos;holding [v] (truthy v)):=by intro _;rfl):DT X a (fB f):=xu (Jr h he) Cj
def mJ(ho:jj X (compareOp op) r)(hr:gD X.K r g)(ha:DE X a fa)(hb:DE X b fb)(hm:behindInMarks op b=false):DT X (.Compare a [op] [b] pos) (fB (f2 g fa fb)) :=
 xu (DQ ho ha hb hm) λσ H Q h=>Lm hr σ H _ (Cj σ H Q h)
def eE(fa fb:Env->Option Bool):Env->Option Bool:=λρ=>(fa ρ).bind fun|true=>fb ρ|false=>some false
def ua(fa fb:Env->Option Bool):Env->Option Bool:=λρ=>(fa ρ).bind fun|true=>some true|false=>fb ρ
def cC(fa:Env->Option Bool):Env->Option Bool:=λρ=>(fa ρ).map (!·)
variable {ta tb:Env->Option Bool}
def DW(X:Cx)(e:Expr)(f:Env->Option Bool):Prop:=PW X e (MC X.K f)
def Gp(h:PW X e t)(i:∀σ H Q,t' σ H Q->t σ H Q):PW X e t':=λwh pins s σ H Q I q=>h wh pins s σ H Q I (i σ H Q q)
def DW.dt(h:DW X a ta):DT X a ta:=PW.pt h
def Kc(ha:DT X a ta):DW X (.BoolOp .And [a] pos) ta:=Lv ha
def Ny(ha:DT X a ta):DW X (.BoolOp .Or [a] pos) ta:=HS ha
def N9(ha:DT X a ta)(hb:DW X (.BoolOp .And (b::rest) pos) tb):DW X (.BoolOp .And (a::b::rest) pos) (eE ta tb):=Gp (Oe ha hb) λσ H Q ⟨HF,ρ,d,sm,eo,hf,q⟩=>by
 let⟨x,hx,hf⟩:=bs hf;refine⟨HF,ρ,x,sm,eo,hx,λH1 UB g1=>?_⟩;cases x with
 | true=>exact uq ⟨UB,ρ,d,g1.fh,eo.mono g1.ff,hf,λH' UA g=>q H' UA (g1.trans g)⟩
 | false=>cases hf;exact qd (q H1 UB g1)
def Qi(ha:DT X a ta)(hb:DW X (.BoolOp .Or (b::rest) pos) tb):DW X (.BoolOp .Or (a::b::rest) pos) (ua ta tb):=Gp (MR ha hb) λσ H Q ⟨HF,ρ,d,sm,eo,hf,q⟩=>by
 let⟨x,hx,hf⟩:=bs hf;refine⟨HF,ρ,x,sm,eo,hx,λH1 UB g1=>?_⟩;cases x with
 | false=>exact qd ⟨UB,ρ,d,g1.fh,eo.mono g1.ff,hf,λH' UA g=>q H' UA (g1.trans g)⟩
 | true=>cases hf;exact uq (q H1 UB g1)
def NI(ha:DT X a ta):DT X (.UnaryOp .Not a pos) (cC ta):=xu (G8 ha) λσ H Q ⟨HF,ρ,d,sm,eo,hf,q⟩=>by
 have hf:(ta ρ).map (!·)=some d:=hf;cases e:ta ρ with
 | none=>rw[e] at hf;cases hf
 | some k=>rw[e] at hf;cases hf;exact⟨HF,ρ,k,sm,eo,e,λH1 UB g1=>q H1 UB g1⟩
def My(tc:Env->Option Bool)(fa fb:Env->Option D):Env->Option D:=λρ=>(tc ρ).bind fun|true=>fa ρ|false=>fb ρ
def Rp(hc:DT X c ta)(ha:DE X a fa)(hb:DE X b fb):DE X (.IfExp c a b pos) (My ta fa fb):=bb (Ay hc ha hb) λσ H Q ⟨HF,ρ,d,sm,eo,hf,q⟩=>by
 let⟨x,hx,hf⟩:=bs hf;refine⟨HF,ρ,x,sm,eo,hx,λH1 UB g1=>?_⟩;cases x with
 | true=>exact uq ⟨UB,ρ,d,g1.fh,eo.mono g1.ff,hf,λv H' UA g r=>q v H' UA (g1.trans g) r⟩
 | false=>exact qd ⟨UB,ρ,d,g1.fh,eo.mono g1.ff,hf,λv H' UA g r=>q v H' UA (g1.trans g) r⟩
def lG(g g':D->D->Option D)(fa fb fc:Env->Option D):Env->Option D:=λρ=>(fa ρ).bind λx=>(fb ρ).bind λy=>(g x y).bind fun|.bool true=>(fc ρ).bind λz=>g' y z|.bool false=>some (.bool false)|_=>none
def Ed(hr:gD X.K r g)(Vr:gD X.K r' g'):∀σ H Q,tD X.K (lG g g' fa fb fc) σ H Q->BU r r' (tD X.K fa) (tD X.K fb) (tD X.K fc) σ H Q:=λσ H Q ⟨HF,ρ,d,sm,eo,hf,q⟩=>by
 let⟨x,hx,hf⟩:=bs hf;let⟨y,hy,hf⟩:=bs hf;let⟨z,hz,hf⟩:=bs hf;refine⟨HF,ρ,x,sm,eo,hx,λv1 H1 UB g1 r1=>⟨UB,ρ,y,g1.fh,eo.mono g1.ff,hy,λv2 H2 UL g2 r2=>hr UL H2 x y v1 v2 z _ g2.fh (r1.mono g2.ff) r2 hz λv3 H3 U3 g3 r3=>?_⟩⟩;cases z<;>try cases hf
 rename_i k;simp?[Rep] at r3;refine⟨k,r3,?_⟩;have G:=(g1.trans g2).trans g3;cases k with
 | false=>cases hf;exact qd (q _ H3 U3 G (by simp[Rep]))
 | true =>
  let⟨w,hw,hg⟩:=bs hf;exact uq ⟨U3,ρ,w,G.fh,eo.mono G.ff,hw,λv4 H4 Vy g4 r4=>Vr Vy H4 y w v2 v4 d Q g4.fh (r2.mono (g3.ff.trans g4.ff)) r4 hg λv H' UA g5 r5=>q v H' UA ((G.trans g4).trans g5) r5⟩
def JO(ho:jj X (compareOp op) r)(hr:gD X.K r g)(VX:jj X (compareOp WT) r')(Vr:gD X.K r' g')(ha:DE X a fa)(hb:DE X b fb)(hc:DE X c fc)
  (hm:lastMarks [op,WT] [b,c]=false:=by with_unfolding_all rfl):DE X (.Compare a [op,WT] [b,c] pos) (lG g g' fa fb fc):=bb (IK ho VX ha hb hc hm) (Ed hr Vr)
def GV(ho:jj X (compareOp op) r)(hr:gD X.K r g)(VX:jj X (compareOp WT) r')(Vr:gD X.K r' g')(ha:DE X a fa)(hb:DE X b fb)(hc:DE X c fc)
  (hm:lastMarks [op,WT] [b,c]=false:=by with_unfolding_all rfl):DT X (.Compare a [op,WT] [b,c] pos) (fB (lG g g' fa fb fc)) :=
 xu (IZ ho VX ha hb hc hm) λσ H Q h=>Ed hr Vr σ H _ (Cj σ H Q h)
def ag:Env->Option (List D):=λ_=>some []
def aa(f:Env->Option D)(g:Env->Option (List D)):Env->Option (List D):=λρ=>(f ρ).bind λx=>(g ρ).map (x::·)
def Iv:DA X [] ag:=xc dB λσ H Q ⟨HF,ρ,d,sm,eo,hf,q⟩=>by cases hf;exact q [] H HF (.refl sm) ax.nil
def Ea(he:DE X e f)(hs:DA X es g)(VZ:starEach (e::es) X.env=(false,eval e X.env)::starEach es X.env:=by rfl):DA X (e::es) (aa f g) :=
 xc (bO he hs VZ) λσ H Q ⟨HF,ρ,d,sm,eo,hf,q⟩=>by
  let⟨x,hx,hf⟩:=bs hf;have hf:(g ρ).map (x::·)=some d:=hf;cases e1:g ρ with
  | none=>rw[e1] at hf;cases hf
  | some xs =>
   rw[e1] at hf;cases hf;exact⟨HF,ρ,x,sm,eo,hx,λv1 H1 UB g1 r1=>⟨UB,ρ,xs,g1.fh,eo.mono g1.ff,e1,λvs H2 UL g2 r2=>q (v1::vs) H2 UL (g1.trans g2) (ax.cons (r1.mono g2.ff) r2)⟩⟩
variable {es:List Expr}{fs:Env->Option (List D)}
def small(ds:List D):Option (List D):=if ds.length<=sizeLine then some ds else none
def e8{ds es:List D}(h:small ds=some es):es=ds/\ds.length<=sizeLine:=by
 unfold small at h;split at h
 ·cases h;exact⟨rfl,‹_›⟩
 ·cases h
def aJ(g:Env->Option (List D)):Env->Option D:=λρ=>(g ρ).bind λds=>(small ds).map PyData.tuple
def eX(g:Env->Option (List D)):Env->Option (List D):=λρ=>(g ρ).bind small
def NN{x1}(h:DA X es fs):DE X (.Tuple es x1 pos) (aJ fs):=bb (GZ h) λσ H Q ⟨HF,ρ,d,sm,eo,hf,q⟩=>by
 let⟨ds,hx,hf⟩:=bs hf;have hf:(small ds).map PyData.tuple=some d:=hf;cases e:small ds with
 | none=>rw[e] at hf;cases hf
 | some es' =>
  rw[e] at hf;cases hf;let⟨rfl,hz⟩:=e8 e;refine⟨HF,ρ,_,sm,eo,hx,λvs H1 UB g1 r1=>⟨by rw[r1.length];exact hz,λp hp=>q _ _ (upd UB p (.tup vs)) (g1.trans (.new g1.fh hp)) ?_⟩⟩;simp?[Rep];exact⟨p,vs,rfl,.inl (.inl aH),r1.mono (eA (g1.fh.free hp))⟩
def NR(h:DA X es fs):DF X (.List es pos) (eX fs):=bb (zd h) λσ H Q ⟨HF,ρ,d,sm,eo,hf,q⟩=>by
 let⟨ds,hx,hf⟩:=bs hf;let⟨rfl,hz⟩:=e8 hf;exact⟨HF,ρ,_,sm,eo,hx,λvs H1 UB g1 r1=>⟨by rw[r1.length];exact hz,λp hp=>q p vs _ UB (g1.trans (.own g1.fh hp)) (g1.hh.free hp) (g1.fh.free hp) aH r1⟩⟩
def ay:D->D->Option D
 | .tuple ds,.int i=>qa ds i
 | .list ds,.int i=>qa ds i
 | _,_=>none
def Bl{K:W.Frag}(r:ax K HF ds vs)(h:qa ds i=some d):∃v,qa vs i=some v/\Rep K HF d v:=by
 unfold qa at h ⊢;rw[r.length];let⟨j,hj,h⟩:=bs h;let⟨v,a,b⟩:=r.getD h;exact⟨v,by rw[hj];exact a,b⟩
def Pr{K:W.Frag}:gD K (Tz K) ay:=by
 intro HF H x y v1 v2 d Q sm r1 r2 hg q;cases x<;>cases y<;>simp?[ay] at hg<;>try cases hg
 ·simp?[Rep] at r1 r2;let⟨a,vs,rfl,hs,r⟩:=r1;let⟨v,hv,rv⟩:=Bl r hg;exact .inl ⟨a,vs,_,v,rfl,r2,sm.seq hs,hv,q v H HF (.refl sm) rv⟩
 ·simp?[Rep] at r1 r2;let⟨a,vs,rfl,hs,r⟩:=r1;let⟨v,hv,rv⟩:=Bl r hg;exact .inr (.inl ⟨a,vs,_,v,rfl,r2,aK sm hs,hv,q v H HF (.refl sm) rv⟩)
def P8(ha:DE X a fa)(hb:DE X b fb)(hs:l5 b:=by intro _ _;rfl):DE X (.Subscript a b pos) (f2 ay fa fb):=bb (MG O8 ha hb hs) (Lm Pr)
mutual
theorem eh{pins:List (Addr×Obj)}{σ:L2.St}{H HF:Hp}{s:Shared}(I:Inv X pins σ H s)(sm:aS HF H):∀ {d:D}{v:V}{u:Value},Rep X.K HF d v->RelV v u->∃as,Reads s.heap u d as
 | .none,_,_,h,r=>by simp?[Rep] at h;subst h;cases r;exact⟨_,.none⟩
 | .bool b,_,_,h,r=>by simp?[Rep] at h;subst h;cases r;exact⟨_,.bool b⟩
 | .int i,_,_,h,r=>by simp?[Rep] at h;subst h;let⟨t,rfl⟩:=r;exact⟨_,.int i t⟩
 | .str i,_,_,h,r=>by simp?[Rep] at h;subst h;let⟨t,rfl⟩:=r;exact⟨_,.str i t⟩
 | .tuple ds,_,_,h,r=>by
  simp?[Rep] at h;let⟨a,vs,rfl,hs,rr⟩:=h;cases r;let⟨its,rv,⟨o,ho,hc,n,hd⟩,_⟩:=I.tuple (aK sm hs);let⟨as,q⟩:=pE I sm rr rv;exact⟨as,.tuple ho hc hd (by simpa using q)⟩
 | .list ds,_,_,h,r=>by
  simp?[Rep] at h;let⟨a,vs,rfl,hs,rr⟩:=h;cases r;let⟨its,rv,pl,_⟩:=I.list (sm.seq hs);let⟨o,ho,hc,n,hd⟩:=pl.isList;let⟨as,q⟩:=pE I sm rr rv;exact⟨_,.list ho hc hd (by simpa using q)⟩
 | .dict _,_,_,h,r=>by simp?[Rep] at h
theorem pE{pins:List (Addr×Obj)}{σ:L2.St}{H HF:Hp}{s:Shared}(I:Inv X pins σ H s)(sm:aS HF H):∀ {ds:List D}{vs:List V}{us:List Value},ax X.K HF ds vs->aN vs us->∃as,ReadsAll s.heap us ds as
 | [],_,_,h,r=>by rw[h.nil_inv] at r;cases r;exact⟨_,.nil⟩
 | d::ds,_,_,h,r=>by
  let⟨v,vr,rfl,a,b⟩:=h.cons_inv;cases r with
  | cons r rr =>
   let⟨as,q⟩:=eh I sm a r;let⟨bs,p⟩:=pE I sm b rr;exact⟨_,.cons q p⟩
end
def SD(K:W.Frag)(g:D->D->Option Bool):R2:=λv1 v2 H Q=>∃HF x y k,aS HF H/\Rep K HF x v1/\Rep K HF y v2/\g x y=some k/\Q (.bl k) H
def zl{K:W.Frag}:gD K (SD K g) (λx y=>(g x y).map PyData.bool):=by
 intro HF H x y v1 v2 d Q sm r1 r2 hg q;have hg:(g x y).map PyData.bool=some d:=hg;cases e:g x y with
 | none=>rw[e] at hg;cases hg
 | some k=>rw[e] at hg;cases hg;exact⟨HF,x,y,k,sm,r1,r2,e,q _ H HF (.refl sm) (by simp[Rep])⟩
def Lf(x y:D):Option Bool:=if SeqAt.shaped x=true/\SeqAt.shaped y=true then some (PyData.eqv x y) else none
def Kt(x y:D):Option Bool:=if SeqAt.shaped x=true/\SeqAt.shaped y=true then some (!PyData.eqv x y) else none
def Je(hu:X.A.units+64 < cLine):jj X (compareOp .Eq) (SD X.K Lf):=by
 intro pins s σ H v1 v2 u1 u2 Q I rx ry h;let⟨HF,x,y,k,sm,r1,r2,hg,q⟩:=h;unfold Lf at hg;split at hg<;>cases hg;rename_i hh;let⟨as,ra⟩:=eh I sm r1 rx;let⟨bs,rb⟩:=eh I sm r2 ry;exact eq_dataH ra rb hh.1 hh.2 hu ⟨.bl _,H,I,rfl,q⟩
def JT(hu:X.A.units+64 < cLine):jj X (compareOp .NotEq) (SD X.K Kt):=by
 intro pins s σ H v1 v2 u1 u2 Q I rx ry h;let⟨HF,x,y,k,sm,r1,r2,hg,q⟩:=h;unfold Kt at hg;split at hg<;>cases hg;rename_i hh;let⟨as,ra⟩:=eh I sm r1 rx;let⟨bs,rb⟩:=eh I sm r2 ry;exact ne_dataH ra rb hh.1 hh.2 hu ⟨.bl _,H,I,rfl,q⟩
def items:D->Option (List D)|.tuple ds=>some ds|.list ds=>some ds|_=>none
end
def Pq(K:W.Frag)(n:Nat)(m:List D->Option D):Sp:=λvs H Q _=>∃HF ds d,aS HF H/\eS K HF/\ax K HF ds vs/\ds.length=n/\m ds=some d/\∀v H' UA,bG HF H UA H'->Rep K UA d v->Q v H'
structure Gb(P:Program)(w:World)(K:W.Frag)(mg:Str->Option Value)(base:Heap)(k:Nat)(x:Str)(n:Nat)(m:List D->Option D):Prop where
 ex:∃ (f:Addr) (fd:FuncData) (ps:List Str),nK P w K mg base HC k f fd ps (Pq K n m)/\mg x=some (.ref f)/\W.keepIn K (.ref f)=true/\Binds K fd ps []
def Gb.mono{K:W.Frag}(F:Gb P w K mg base k x n m)(h:k<=j):Gb P w K mg base j x n m:=by
 let⟨f,fd,ps,a,b,c,d⟩:=F.ex;exact⟨f,fd,ps,a.mono h,b,c,d⟩
def aj(n:Nat)(m:List D->Option D)(fs:Env->Option (List D)):Env->Option D:=λρ=>(fs ρ).bind λds=>if ds.length=n then m ds else none
def LY(F:Gb X.prog X.w X.K X.mg X.base k x n m)(hr:ej k X.A)(hg:Gl X x)(ha:DA X (e::es) fs)(Vi:(x == ("__debug__":Str))=false:=by decide)
  (he:starEach (e::es) X.env=(false,eval e X.env)::starEach es X.env:=by rfl) (U7:(backTo pos (starEach es X.env)).any (·.1)=false:=by rfl):DE X (.Call (.Name x p) (e::es) [] pos) (aj n m fs):=by
 let⟨f,fd,ps,ok,hm,hk,hb⟩:=F.ex;refine bb (DB (E:=E0) ok hr hg hm hk hb .nil MO ha Vi he U7) λσ H Q ⟨HF,ρ,d,sm,eo,hf,q⟩=>?_;let⟨ds,hx,hf⟩:=bs hf;split at hf
 ·rename_i hl;exact⟨HF,ρ,ds,sm,eo,hx,λvs H1 UB g1 r1=>⟨UB,ds,d,g1.fh,eo.tb.mono g1.ff,by rw[qH];exact r1,hl,hf,λv H' UA g r=>q v H' UA (g1.trans g) r⟩⟩
 ·cases hf
def GE(K:W.Frag)(r:List V->Hp->VK->Prop)(g:List D->Option D):Prop:=∀HF H ds vs d Q,aS HF H->ax K HF ds vs->g ds=some d->(∀v H' UA,bG HF H UA H'->Rep K UA d v->Q v H')->r vs H Q
def bD(g:List D->Option D)(fs:Env->Option (List D)):Env->Option D:=λρ=>(fs ρ).bind g
def Qz{X:Cx}{fs:Env->Option (List D)}(hs:GE X.K r g):∀σ H Q,tD X.K (bD g fs) σ H Q->RH r (R1 X.K fs) σ H Q:=λσ H Q ⟨HF,ρ,d,sm,eo,hf,q⟩=>by
 let⟨ds,hx,hf⟩:=bs hf;exact⟨HF,ρ,ds,sm,eo,hx,λvs H1 UB g1 r1=>hs UB H1 ds vs d Q g1.fh r1 hf λv H' UA g2 r2=>q v H' UA (g1.trans g2) r2⟩
def MW(K:W.Frag)(r:List V->Hp->VK->Prop)(g:List D->Option (List D)):Prop:=∀HF H ds vs es Q,aS HF H->ax K HF ds vs->g ds=some es ->
 (∀a us H' UA,bG HF H UA H'->H a=none->UA a=none->H' a=some (.lst us)->ax K UA es us->Q (.ref a) H')->r vs H Q
def um(g:List D->Option (List D))(fs:Env->Option (List D)):Env->Option (List D):=λρ=>(fs ρ).bind g
def Q2{X:Cx}{fs:Env->Option (List D)}(hs:MW X.K r g):∀σ H Q,tF X.K (um g fs) σ H Q->RH r (R1 X.K fs) σ H Q:=λσ H Q ⟨HF,ρ,d,sm,eo,hf,q⟩=>by
 let⟨ds,hx,hf⟩:=bs hf;exact⟨HF,ρ,ds,sm,eo,hx,λvs H1 UB g1 r1=>hs UB H1 ds vs d Q g1.fh r1 hf λa us H' UA g2 ha X1 h' r2=>q a us H' UA (g1.trans g2) (g1.hh.free ha) X1 h' r2⟩
structure p8(X:Cx)(x:Str)(v:Value):Prop where
 gl:Gl X x
 mg:X.mg x=none
 bt:bootBuiltins x=some v
def lE{id:String}(hc:f9 X (.builtin id) r)(hs:GE X.K r g)(B:p8 X x (.builtin id))(ha:DA X (e::es) fs)(hn:x≠"__name__":=by decide)(Vi:(x == ("__debug__":Str))=false:=by decide)
  (he:starEach (e::es) X.env=(false,eval e X.env)::starEach es X.env:=by rfl) (U7:(backTo pos (starEach es X.env)).any (·.1)=false:=by rfl):DE X (.Call (.Name x p) (e::es) [] pos) (bD g fs) :=
 bb (lL hc B.gl B.mg B.bt ha hn Vi he U7) (Qz hs)
def JB{id:String}(hc:f9 X (.builtin id) r)(hs:MW X.K r g)(B:p8 X x (.builtin id))(ha:DA X (e::es) fs)(hn:x≠"__name__":=by decide)(Vi:(x == ("__debug__":Str))=false:=by decide)
  (he:starEach (e::es) X.env=(false,eval e X.env)::starEach es X.env:=by rfl) (U7:(backTo pos (starEach es X.env)).any (·.1)=false:=by rfl):DF X (.Call (.Name x p) (e::es) [] pos) (um g fs) :=
 bb (lL hc B.gl B.mg B.bt ha hn Vi he U7) (Q2 hs)
def Fk(hc:f9 X (.type T) r)(hs:GE X.K r g)(B:p8 X x (.type T))(ha:DA X (e::es) fs)(hn:x≠"__name__":=by decide)(Vi:(x == ("__debug__":Str))=false:=by decide)
  (he:starEach (e::es) X.env=(false,eval e X.env)::starEach es X.env:=by rfl) (U7:(backTo pos (starEach es X.env)).any (·.1)=false:=by rfl):DE X (.Call (.Name x p) (e::es) [] pos) (bD g fs) :=
 bb (o9 hc B.gl B.mg B.bt ha hn Vi he U7) (Qz hs)
def gf:D->Option (List D)|.tuple ds=>some ds|.list ds=>some ds|_=>none
def oneOf:List D->Option D|[d]=>some d|_=>none
def gW(h:oneOf ds=some d):ds=[d]:=by
 cases ds with
 | nil=>cases h
 | cons x r=>cases r with
  | nil=>cases h;rfl
  | cons _ _=>cases h
def mO(h:gf d=some ds):d=.tuple ds\/d=.list ds:=by
 cases d<;>cases h
 ·exact .inr rfl
 ·exact .inl rfl
def eO:List D->Option (List D):=λds=>(oneOf ds).bind gf
def lJ{ds es:List D}(h:eO ds=some es):ds=[.tuple es]\/ds=[.list es]:=by
 let⟨d,h1,h2⟩:=bs h;rw[gW h1];rcases mO h2 with rfl|rfl
 ·exact .inl rfl
 ·exact .inr rfl
def bZ:List D->Option D:=λds=>(eO ds).map λes=>.int es.length
def ah{α β:Type}{x:Option α}{f:α->β}{b:β}(h:x.map f=some b):∃a,x=some a/\f a=b:=by
 cases x with
 | none=>cases h
 | some a=>exact⟨a,rfl,xE h⟩
def Mf{K:W.Frag}:GE K (λxs H Q=>∃p ys,xs=[.ref p]/\(iM K H p ys\/ku K H p ys)/\Q (.int ys.length) H) bZ:=by
 intro HF H ds vs d Q sm r hg q;let⟨es,h1,rfl⟩:=ah hg;rcases lJ h1 with rfl|rfl
 all_goals
  let⟨v,r',rfl,a,b⟩:=r.cons_inv;rw[b.nil_inv];simp?[Rep] at a;let⟨p,us,rfl,h,rr⟩:=a
 ·exact⟨p,us,rfl,.inr (aK sm h),q _ H HF (.refl sm) (by simp[Rep,rr.length])⟩
 ·exact⟨p,us,rfl,.inl (sm.seq h),q _ H HF (.refl sm) (by simp[Rep,rr.length])⟩
def OC(B:p8 X "len" (.builtin "len"))(ha:DA X [e] fs)(he:starEach [e] X.env=(false,eval e X.env)::starEach [] X.env:=by rfl):DE X (.Call (.Name "len" p) [e] [] pos) (bD bZ fs) :=
 lE xn Mf B ha (by decide) (by decide) he rfl
def eY{K:W.Frag}(h:HF l=none)(r:ax K HF ds vs):Rep K (upd HF l (.tup vs)) (.tuple ds) (.ref l):=by
 simp?[Rep];exact⟨l,vs,rfl,.inl (.inl aH),r.mono (eA h)⟩
def Fj{K:W.Frag}:GE K (λxs H Q=>∃p ys,xs=[.ref p]/\((iM K H p ys/\∀l,H l=none->Q (.ref l) (upd H l (.tup ys)))\/(ku K H p ys/\Q (.ref p) H))) (λds=>(eO ds).map PyData.tuple):=by
 intro HF H ds vs d Q sm r hg q;let⟨es,h1,rfl⟩:=ah hg;rcases lJ h1 with rfl|rfl
 all_goals
  let⟨v,r',rfl,a,b⟩:=r.cons_inv;rw[b.nil_inv];have a':=a;simp?[Rep] at a;let⟨p,us,rfl,h,rr⟩:=a
 ·exact⟨p,us,rfl,.inr ⟨aK sm h,q _ H HF (.refl sm) a'⟩⟩
 ·exact⟨p,us,rfl,.inl ⟨sm.seq h,λl hl=>q _ _ _ (.new sm hl) (eY (sm.free hl) rr)⟩⟩
def Hq(B:p8 X "tuple" (.type "tuple"))(ha:DA X [e] fs)(he:starEach [e] X.env=(false,eval e X.env)::starEach [] X.env:=by rfl):DE X (.Call (.Name "tuple" p) [e] [] pos) (bD (λds=>(eO ds).map PyData.tuple) fs) :=
 Fk uu Fj B ha (by decide) (by decide) he rfl
def iD:D->String|.none=>"NoneType" | .bool _=>"bool" | .int _=>"int" | .str _=>"str" | .tuple _=>"tuple" | .list _=>"list" | .dict _=>"dict"
def xi(a b:String):Option Bool:=if ((Value.type a) == (Value.type b))=true then some true else if W.kitMeta b=true then (fastBuiltinMro a).map (·.contains (Value.type b)) else none
def Mc:∀a∈["NoneType","bool","int","str","tuple","list"],xi a "int"=some (a == "int"||a == "bool"):=by decide +kernel
def JR:∀a∈["NoneType","bool","int","str","tuple","list"],xi a "bool"=some (a == "bool"):=by decide +kernel
def kit_tuple:∀a∈["NoneType","bool","int","str","tuple","list"],xi a "tuple"=some (a == "tuple"):=by decide +kernel
def Hv{A:Around}{E:Value->Shared->Prop}(I:Inv X pins σ H s)(sm:aS HF H)(r:Rep X.K HF d v)(rv:RelV v u)
  (e:xi (iD d) T=some k) (h:∀tk,Q (.bool k) { s with toks:=tk }):wpAny (model X.prog X.w) A (call (.builtin "isinstance") [u,.type T]) Q E s:=by
 have e':W.kitOne X.K (.type (iD d)) (.type T)=some k:=e;cases d<;>simp?[Rep] at r
 ·subst r;cases rv;exact W.kia_one W.kitx_none I.V6 True.intro e' (λz=>nomatch z) h
 ·subst r;cases rv;exact W.kia_one W.kitx_bool I.V6 True.intro e' (λz=>nomatch z) h
 ·subst r;let⟨t,rfl⟩:=rv;exact W.kia_one W.kitx_int I.V6 True.intro e' (λz=>nomatch z) h
 ·subst r;let⟨t,rfl⟩:=rv;exact W.kia_one W.kitx_str I.V6 True.intro e' (λz=>nomatch z) h
 ·let⟨a,vs,rfl,hs,rr⟩:=r;cases rv;let⟨its,rv,pl,_⟩:=I.list (sm.seq hs);let⟨o,ho,hc,n,hd⟩:=pl.isList;exact W.kia_one W.kitx_list I.V6 ⟨o,ho,hc⟩ e' (λz=>nomatch z) h
 ·let⟨a,vs,rfl,hs,rr⟩:=r;cases rv;let⟨its,rv,⟨o,ho,hc,n,hd⟩,_⟩:=I.tuple (aK sm hs);exact W.kia_one W.kitx_tuple I.V6 ⟨o,ho,hc⟩ e' (λz=>nomatch z) h
def MQ(T:String)(f:Env->Option D):Env->Option D:=λρ=>(f ρ).bind λd=>(xi (iD d) T).map PyData.bool
def P1(B:p8 X "isinstance" (.builtin "isinstance"))(C:p8 X xT (.type T))(h:DE X e f)(hn:xT≠"__name__":=by decide)(hd:(xT == ("__debug__":Str))=false:=by decide)
  (he:starEach [e,.Name xT pT] X.env=(false,eval e X.env)::starEach [.Name xT pT] X.env:=by rfl):DE X (.Call (.Name "isinstance" p) [e,.Name xT pT] [] pos) (MQ T f):=by
 have hc:f9 X (.builtin "isinstance") (λxs H Q=>∃HF d v k,xs=[v,.ty T]/\aS HF H/\Rep X.K HF d v/\xi (iD d) T=some k/\Q (.bl k) H):=by
  intro pins s σ H xs us Q I r h;let⟨HF,d,v,k,rfl,sm,rp,hk,q⟩:=h;cases r with
  | cons ra rr =>
   cases rr with
   | cons rb rn =>
    cases rn;cases rb;exact Hv I sm rp ra hk λtk=>⟨.bl k,H,I.tok _,rfl,q⟩
 refine bb (lL hc B.gl B.mg B.bt (bO h (bO (K9 (v:=.ty T) C.gl C.mg C.bt rfl hn hd) dB) he) (by decide) (by decide) he rfl) λσ H Q ⟨HF,ρ,d,sm,eo,hf,q⟩=>?_;let⟨x,hx,hf⟩:=bs hf;let⟨k,hk,rfl⟩:=ah hf;exact⟨HF,ρ,x,sm,eo,hx,λv1 H1 UB g1 r1=>⟨UB,x,v1,k,rfl,g1.fh,r1,hk,q _ H1 UB g1 (by simp[Rep])⟩⟩
def L9:D->D->Option D
 | .tuple xs,.tuple ys=>(small (xs++ys)).map PyData.tuple
 | _,_=>none
def Dv(K:W.Frag):R2:=λx y H Q=>∃a b xs ys,x=.ref a/\y=.ref b/\ku K H a xs/\ku K H b ys/\xs.length+ys.length<=sizeLine /\
 (xs=[]->Q (.ref b) H)/\(ys=[]->Q (.ref a) H)/\(∀p,H p=none->Q (.ref p) (upd H p (.tup (xs++ys))))
def Fy:jj X (binaryOp .Add) (Dv X.K):=by
 intro pins s σ H x y v u Q I rx ry h;let⟨a,b,xs,ys,rfl,rfl,ha,hb,hz,q0,q1,q2⟩:=h;by_cases hx:xs=[]
 ·cases rx;cases ry;let⟨its,r1,p1,_⟩:=I.tuple ha;let⟨Vu,r2,p2,_⟩:=I.tuple hb;let⟨⟨cls,dd,data,sl⟩,ho,hc,n,hd⟩:=id p1;let⟨⟨aa3,dd2,data2,YG⟩,XZ,W5,n2,hd2⟩:=id p2;simp only at hc hd W5 hd2;subst hc hd W5 hd2;have e:its=[]:=(L2.aN.VH r1).mpr hx;exact Zl ⟨_,ho,rfl⟩ ⟨_,XZ,rfl⟩ noFill_tuple_add seq_tuple_add vX vR (vO _ _)
   (tuple_addW0 a b its.toArray Vu.toArray n n2 dd dd2 sl YG (by simp[e])) ⟨ho,XZ,⟨.ref b,H,I,rfl,q0 hx⟩⟩
 ·exact K1 pins s σ H _ _ v u Q I rx ry ⟨a,b,xs,ys,rfl,rfl,ha,hb,hx,hz,q1,λ_ p hp=>q2 p hp⟩
def L6{K:W.Frag}:gD K (Dv K) L9:=by
 intro HF H x y v1 v2 d Q sm r1 r2 hg q;cases x<;>cases y<;>simp?[L9] at hg<;>try cases hg
 rename_i xs ys;let⟨es,h1,rfl⟩:=ah hg;let⟨rfl,hz⟩:=e8 h1;have r1':=r1;have r2':=r2;simp?[Rep] at r1 r2;let⟨a,vs,rfl,ha,ra⟩:=r1;let⟨b,us,rfl,hb,rb⟩:=r2;refine⟨a,b,vs,us,rfl,rfl,aK sm ha,aK sm hb,by rw[ra.length,rb.length,<- zN];exact hz,λe=>?_,λe=>?_,λp hp=>q _ _ _ (.new sm hp) (eY (sm.free hp) (ra.append rb))⟩
 ·have:xs=[]:=by have:=ra.length;rw[e] at this;exact List.length_eq_zero_iff.mp this.symm
  subst this;exact q _ H HF (.refl sm) r2'
 ·have:ys=[]:=by have:=rb.length;rw[e] at this;exact List.length_eq_zero_iff.mp this.symm
  subst this;rw[qH] at q;exact q _ H HF (.refl sm) r1'
structure uB(K:W.Frag)(J:It)(HF:Hp)(ds:List D):Prop where
 go:∀i d U4 UI,ds[i]?=some d->aS HF UI->aS UI U4->J.go i U4/\∀x WB,J.YF i U4 x WB->∃YL,bG UI U4 YL WB/\Rep K YL d x
 stop:∀U4 UI,aS HF UI->aS UI U4->J.stop ds.length U4
def TB(K:W.Frag)(f:Env->Option (List D)):TI:=λσ H R=>∃HF ρ ds,aS HF H/\cM K HF ρ σ/\f ρ=some ds/\∀J H' UA,bG HF H UA H'->uB K J UA ds->R J H'
def DI(X:Cx)(tg iter:Expr)(f:Env->Option (List D)):Prop:=PI X tg iter (TB X.K f)
def EV{K:W.Frag}(h:iM K HF a vs)(r:ax K HF ds vs):uB K (RY K a) HF ds where
 go:=λi d U4 UI e s1 s2=>by
  let⟨v,hv,rv⟩:=r.getD e;have q:=s2.seq (s1.seq h);refine⟨⟨vs,v,q,hv⟩,λx WB ⟨e2,hy⟩=>⟨UI,by rw[e2];exact .refl s2,?_⟩⟩;have:=hy vs q;rw[hv] at this;cases this;exact rv.mono s1
 stop:=λU4 UI s1 s2=>⟨vs,s2.seq (s1.seq h),by rw[r.length];exact yN _⟩
def HX{K:W.Frag}(h:ku K HF a vs)(r:ax K HF ds vs):uB K (SJ K a) HF ds where
 go:=λi d U4 UI e s1 s2=>by
  let⟨v,hv,rv⟩:=r.getD e;have q:=aK s2 (aK s1 h);refine⟨⟨vs,v,q,hv⟩,λx WB ⟨e2,hy⟩=>⟨UI,by rw[e2];exact .refl s2,?_⟩⟩;have:=hy vs q;rw[hv] at this;cases this;exact rv.mono s1
 stop:=λU4 UI s1 s2=>⟨vs,aK s2 (aK s1 h),by rw[r.length];exact yN _⟩
def Cm{K:W.Frag}{lo:Int}:uB K (RC lo n) HF ((List.range n).map λi=>PyData.int (lo+(i:Nat))) where
 go:=λi d U4 UI e s1 s2=>by
  rw[zO] at e;let⟨j,hj,rfl⟩:=ah e;let⟨hi,Wt⟩:=List.getElem?_eq_some_iff.mp hj;have U5:i < n:=by simpa using hi
  have:j=i:=by rw[<- Wt];simp
  subst this;exact⟨U5,λx WB ⟨e2,hx⟩=>⟨UI,by rw[e2];exact .refl s2,by simp[Rep,hx]⟩⟩
 stop:=λU4 UI s1 s2=>by
  show n<=_;simp
section
variable {X:Cx}{tg l e:Expr}{f:Env->Option D}{fs:Env->Option (List D)}{pos p:Pos}
def xy(h:PI X tg l t)(i:∀σ H R,t' σ H R->t σ H R):PI X tg l t':=λpins s σ H R I q=>h pins s σ H R I (i σ H R q)
def OU(hl:PE X l tl):PI X tg l (λσ H R=>tl σ H λx H1=>∃a,x=.ref a/\((∃xs,iM X.K H1 a xs/\R (RY X.K a) H1)\/∃xs,ku X.K H1 a xs/\R (SJ X.K a) H1)):=by
 intro pins s σ H R I h;refine ck (hl pins s σ H _ I h) λv s1 ⟨x,H1,I1,r1,q1⟩=>?_;let⟨a,e,q⟩:=q1;subst e;cases r1;rcases q with ⟨xs,hq,q⟩|⟨xs,hq,q⟩
 ·let⟨its,rv,pl,hz⟩:=I1.list hq;refine qM pl.isList ⟨s1.heap.objs.size,[s1.heap.objs.size],_,_,H1,rfl,I1.kept (t':=s1.toks) λb o e=>zU _ e,FC a _,⟨_,zX _ rfl,rfl,rfl⟩,λb hb=>?_,q⟩;cases List.mem_singleton.mp hb;exact I1.Vt (yN _) I1.fresh
 ·let⟨its,rv,pl,hz⟩:=I1.tuple hq;refine xU (show s1.heap.IsTuple a its.toArray from pl) ⟨s1.heap.objs.size,[s1.heap.objs.size],_,_,H1,rfl,I1.kept (t':=s1.toks) λb o e=>zU _ e,CH a _,⟨_,zX _ rfl,rfl,rfl⟩,λb hb=>?_,q⟩;cases List.mem_singleton.mp hb;exact I1.Vt (yN _) I1.fresh
def aO(f:Env->Option D):Env->Option (List D):=λρ=>(f ρ).bind gf
def JQ(h:DE X l f):DI X tg l (aO f):=xy (OU h) λσ H R ⟨HF,ρ,ds,sm,eo,hf,q⟩=>by
 let⟨x,hx,hf⟩:=bs hf;refine⟨HF,ρ,x,sm,eo,hx,λv1 H1 UB g1 r1=>?_⟩;rcases mO hf with rfl|rfl
 ·simp?[Rep] at r1;let⟨a,vs,rfl,hs,rr⟩:=r1;exact⟨a,rfl,.inr ⟨vs,aK g1.fh hs,q _ H1 UB g1 (HX hs rr)⟩⟩
 ·simp?[Rep] at r1;let⟨a,vs,rfl,hs,rr⟩:=r1;exact⟨a,rfl,.inl ⟨vs,g1.fh.seq hs,q _ H1 UB g1 (EV hs rr)⟩⟩
def Bx(i:Int):Bool:=decide (-(2 ^ 62)<=i)&&decide (i < 2 ^ 62)
def mG:List D->Option (List D)
 | [.int j]=>if Bx j then some ((List.range j.toNat).map λi=>PyData.int ((i:Nat):Int)) else none
 | _=>none
def Ai(h:mG ds=some es):∃j,ds=[.int j]/\Bx j=true/\es=(List.range j.toNat).map λi=>PyData.int ((i:Nat):Int):=by
 unfold mG at h;split at h
 ·split at h
  ·cases h;exact⟨_,rfl,‹_›,rfl⟩
  ·cases h
 ·cases h
def bh(fs:Env->Option (List D)):Env->Option (List D):=λρ=>(fs ρ).bind mG
def HE(B:p8 X "range" (.type "range"))(h:DA X [e] fs)(hs:starEach [e] X.env=[(false,eval e X.env)]:=by rfl):DI X tg (.Call (.Name "range" p) [e] [] pos) (bh fs) :=
 xy (F6 B.gl B.mg h hs) λσ H R ⟨HF,ρ,ds,sm,eo,hf,q⟩=>by
  let⟨x,hx,hf⟩:=bs hf;let⟨j,rfl,hj,rfl⟩:=Ai hf;refine⟨HF,ρ,_,sm,eo,hx,λvs H1 UB g1 r1=>?_⟩;let⟨v,r,rfl,a,b⟩:=r1.cons_inv;rw[b.nil_inv];simp?[Rep] at a;subst a;unfold Bx at hj;rw[zF] at hj;refine⟨j,rfl,yR hj.1,yR hj.2,q _ H1 UB g1 ?_⟩;have:=Cm (K:=X.K) (HF:=UB) (lo:=0) (n:=j.toNat);simpa using this
def Rr(K:W.Frag)(f:Env->D->Option Env):TG:=λv σ H Q=>∃HF ρ d ρ',aS HF H/\cM K HF ρ σ/\Rep K HF d v/\f ρ d=some ρ'/\∀σ',cM K HF ρ' σ'->cM K HF ρ σ'->Q σ' H
def DG(X:Cx)(tg:Expr)(f:Env->D->Option Env):Prop:=PG X tg (Rr X.K f)
def r8(h:PG X tg t)(i:∀v σ H Q,t' v σ H Q->t v σ H Q):PG X tg t':=λpins s σ H v u Q I r q=>h pins s σ H v u Q I r (i v σ H Q q)
def isFree(ρ:Env)(i:Nat):Bool:=((ρ[i]?).getD none).isNone
def jw{K:W.Frag}(eo:cM K HF ρ σ)(r:Rep K HF d v):cM K HF (ρ.set i (some d)) (σ.set i (some v)):=by
 refine⟨λj e h=>?_,by rw[yC,yC];exact eo.len,eo.tb⟩;rw[xK] at h ⊢;by_cases UU:i=j
 ·rw[yM UU] at h ⊢;by_cases hl:i < ρ.length
  ·rw[yM hl] at h;cases h;rw[yM (zP hl eo.len)];exact⟨v,rfl,r⟩
  ·rw[yO hl] at h;cases h
 ·rw[yO UU] at h ⊢;exact eo.get j e h
def ma{K:W.Frag}(eo:cM K HF ρ σ)(hf:isFree ρ i=true):cM K HF ρ (σ.set i (some v)):=by
 refine⟨λj e h=>?_,by rw[yC];exact eo.len,eo.tb⟩;have UU:i≠j:=by
  intro z;subst z;unfold isFree at hf;rw[h] at hf;cases hf
 rw[xK,yO UU];exact eo.get j e h
def fG(i:Nat):Env->D->Option Env:=λρ d=>if isFree ρ i=true then some (ρ.set i (some d)) else none
def LD(i:Nat)(hN:X.N.Nodup)(hi:X.N[i]?=some x)(hx:Loc X.env.scope x)(hf:X.fn x=true\/X.env.scope.names.lookup x=some .local:=by first|exact .inl rfl|exact .inr rfl|assumption):DG X (.Name x pos) (fG i) :=
 r8 (dN hN hi hx hf) λv σ H Q ⟨HF,ρ,d,ρ',sm,eo,r,hf,q⟩=>by
  unfold fG at hf;split at hf
  ·cases hf;exact q _ (jw eo r) (ma eo ‹_›)
  ·cases hf
def gh(i j:Nat):Env->D->Option Env:=λρ d=>match d with
 | .tuple [x,y]=>if isFree ρ i=true/\isFree ρ j=true then some ((ρ.set i (some x)).set j (some y)) else none
 | _=>none
def O2(i j:Nat){px py:Pos}{k:Nat}(hc:X.calm=true)(hN:X.N.Nodup)(hi:X.N[i]?=some x)(hx:Loc X.env.scope x)(hj:X.N[j]?=some y)(hy:Loc X.env.scope y)
  (hf:X.fn x=true\/X.env.scope.names.lookup x=some .local:=by first|exact .inl rfl|exact .inr rfl|assumption) (X1:X.fn y=true\/X.env.scope.names.lookup y=some .local:=by first|exact .inl rfl|exact .inr rfl|assumption) :
  DG X (.Tuple [.Name x px,.Name y py] k pos) (gh i j) :=
 r8 (yp hc (dH (dN hN hi hx hf) (dH (dN hN hj hy X1) qx))) λv σ H Q ⟨HF,ρ,d,ρ',sm,eo,r,hf,q⟩=>by
  unfold gh at hf;split at hf
  ·rename_i x' y';split at hf
   ·rename_i hh;cases hf;simp?[Rep] at r;let⟨a,vs,rfl,hs,rr⟩:=r;let⟨v1,r1,rfl,a1,b1⟩:=rr.cons_inv;let⟨v2,r2,rfl,a2,b2⟩:=b1.cons_inv;rw[b2.nil_inv] at hs;exact⟨a,_,rfl,aK sm hs,rfl,v1,_,rfl,v2,_,rfl,rfl,q _ (jw (jw eo a1) a2) (ma (ma eo hh.1) hh.2)⟩
   ·cases hf
  ·cases hf
def cD(tgt:Env->D->Option Env)(tt:Env->Option Bool)(te:Env->Option D)(ρ:Env):List D->Option (List D)
 | []=>some []
 | d::ds=>(tgt ρ d).bind λρ'=>(tt ρ').bind λb=>if b=true then (te ρ').bind λx=>(cD tgt tt te ρ ds).map (x::·) else cD tgt tt te ρ ds
def PM(X:Cx)(ifs:List Expr)(f:Env->Option Bool):Prop:=PU X ifs (MC X.K f)
def LJ:PM X [] (λ_=>some true):=λpins s σ H Q I ⟨HF,ρ,b,sm,eo,hf,q⟩=>K5 pins s σ H Q I (by cases hf;exact q H HF (.refl sm))
def LV(h:DT X c t):PM X [c] t:=Ke h
def kn(t:Nat)(cs:List Nat)(σ:L2.St):L2.St:=List.replicate t none++cs.map λj=>(σ[j]?).getD none
def eL(t:Nat)(cs:List Nat)(ρ:Env):Env:=List.replicate t none++cs.map λj=>(ρ[j]?).getD none
def Eg{K:W.Frag}{cs:List Nat}(eo:cM K HF ρ σ):cM K HF (eL t cs ρ) (kn t cs σ):=by
 refine⟨λi d h=>?_,by simp[eL,kn],eo.tb⟩;unfold eL at h;unfold kn;by_cases hi:i < t
 ·rw[yT (by simpa using hi),yY,yM hi] at h;cases h
 ·rw[yU (by simpa using hi),zO,xO] at h;rw[yU (by simpa using hi),zO,xO];let⟨j,hj,h⟩:=ah h;rw[hj];cases e:ρ[j]? with
  | none=>rw[e] at h;cases h
  | some o =>
   rw[e] at h;have h:o=some d:=h;subst h;let⟨v,a,b⟩:=eo.get j d e;exact⟨v,by show some ((σ[j]?).getD none)=_;rw[a];rfl,b⟩
def aq(t:Nat)(cs:List Nat)(fi:Env->Option (List D))(tgt:Env->D->Option Env)(tt:Env->Option Bool)(te:Env->Option D):Env->Option (List D):=λρ=>(fi ρ).bind λds=>(cD tgt tt te (eL t cs ρ) ds).bind small
variable {elt iter:Expr}{ifs:List Expr}{scope:Scope}{N:List Str}{t:Nat}{cs:List Nat}{fi:Env->Option (List D)}{tgt:Env->D->Option Env}{tt:Env->Option Bool}{te:Env->Option D}
def CA:∀σ H Q,tF X.K (aq t cs fi tgt tt te) σ H Q->JV (TB X.K fi) (Rr X.K tgt) (MC X.K tt) (tD X.K te) (kn t cs) σ H Q:=λσ H Q ⟨HF,ρ,out,sm,eo,hf,q⟩=>by
 let⟨ds,hx,hf⟩:=bs hf;let⟨ag8,ho,hf⟩:=bs hf;let⟨rfl,hz⟩:=e8 hf;refine⟨HF,ρ,ds,sm,eo,hx,λJ H1 UB g1 it Dn hD=>?_⟩;have eo1:=Eg (t:=t) (cs:=cs) (eo.mono g1.ff);have hFD:UB Dn=none:=g1.fh.free hD;refine⟨λi m σ' H'=>m+i=ds.length/\∃UA xs ys rest,bG UB H1 UA H'/\UA Dn=none/\H' Dn=some (.lst ys)/\ax X.K UA xs ys/\cM X.K UA (eL t cs ρ) σ'/\cD tgt tt te (eL t cs ρ) (ds.drop i)=some rest/\xs++rest=out,
  ⟨ds.length,rfl,UB,[],[],out,.own g1.fh hD,hFD,aH,ax.nil,eo1,ho,rfl⟩,?_⟩
 rintro i m σ' H' ⟨hm,UA,xs,ys,rest,G,abg,hHD,rr,eo',hc,XC⟩;by_cases hi:i < ds.length
 ·refine .inr ?_;have hd:ds.drop i=ds[i]::ds.drop (i+1):=vJ hi;have he:ds[i]?=some ds[i]:=List.getElem?_eq_some_iff.mpr ⟨hi,rfl⟩;generalize ds[i]=d at hd he;rw[hd] at hc;unfold cD at hc;let⟨ρ',h1,hc⟩:=bs hc;let⟨b,h2,hc⟩:=bs hc;let⟨go,YF⟩:=it.go i d H' UA he G.ff G.fh;refine⟨go,λx H2 y=>?_⟩;let⟨UL,G2,rx⟩:=YF x H2 y;refine⟨UL,_,d,ρ',G2.fh,eo'.mono G2.ff,rx,h1,λWS eo2 abh=>?_⟩;refine⟨UL,ρ',b,G2.fh,eo2,h2,λH3 U3 G3=>?_⟩;have nof:∀Vy H4,bG UA H' Vy H4->Vy Dn=none:=λVy H4 G4=>by
   cases e4:Vy Dn with
   | none=>rfl
   | some o =>
    rcases G4.nw Dn o e4 with z|z
    ·rw[abg] at z;cases z
    ·rw[hHD] at z;cases z
  cases b with
  | false =>
   refine qd ⟨m - 1,by lia,by lia,U3,xs,ys,rest,(G.trans G2).trans G3,nof _ _ (G2.trans G3),(G2.trans G3).hh _ _ hHD,rr.mono (G2.trans G3).ff,abh.mono G3.ff,by simpa using hc,XC⟩
  | true =>
   rw[yM rfl] at hc;let⟨z,h3,hc⟩:=bs hc;let⟨YM,h4,rfl⟩:=ah hc;refine uq ⟨U3,ρ',z,G3.fh,eo2.mono G3.ff,h3,λv H4 Vy G4 rv=>?_⟩;have GG:=(G2.trans G3).trans G4;have n4:=nof _ _ GG;have h4D:=GG.hh _ _ hHD;have hlen:ys.length < sizeLine:=by
    have e1:=rr.length;have e2:out.length=xs.length+(YM.length+1):=by rw[<- XC];simp
    lia
   refine⟨ys,h4D,hlen,m - 1,by lia,by lia,Vy,xs++[z],ys++[v],YM,?_,n4,aH,(rr.mono GG.ff).append (ax.cons rv ax.nil),abh.mono (G3.ff.trans G4.ff),h4,by simp[<- XC]⟩;have G5:=G.trans GG;refine⟨λb o e=>?_,G5.ff,λb o e=>?_,G5.nw⟩
   ·rw[aD (aU e hD)];exact G5.hh b o e
   ·rw[aD (aU e n4)];exact G5.fh b o e
 ·have U5:i=ds.length:=by lia
  subst U5;rw[List.drop_length] at hc;cases hc;rw[qH] at XC;subst XC;exact .inl ⟨it.stop H' UA G.ff G.fh,q Dn ys H' UA (g1.trans G) (g1.hh.free hD) abg hHD rr⟩
def L8(hc:X.calm=true)(S:gO X scope N (kn t cs))(hi:DI X tg iter fi)
  (hY:∀fp s H,DG (aX X scope N fp s H) tg tgt/\PM (aX X scope N fp s H) ifs tt/\DE (aX X scope N fp s H) elt te)
  (hs:∀x,foldedSetIterable iter X.env x=pure x:=by intro _;rfl):DF X (.ListComp elt [⟨tg,iter,ifs,0⟩] scope pos) (aq t cs fi tgt tt te):=bb (Lb (g:=Rr X.K tgt) (tt:=MC X.K tt) (te:=tD X.K te) hc S hi hY hs) CA
end
inductive Slot where
 | Ux|val (d:D)|own (ds:List D)
abbrev au:=List Slot
def Slot.all:Slot->Option D|.Ux=>none|.val d=>some d|.own ds=>some (.list ds)
def Slot.Vh:Slot->Option D|.val d=>some d|_=>none
def Slot.VS:Slot->Slot|.own ds=>.val (.list ds)|s=>s
def aG(ρ:au):Env:=ρ.map Slot.all
def bJ(ρ:au):Env:=ρ.map Slot.Vh
def hand(fz:List Nat):Nat->au->au
 | _,[]=>[]
 | k,s::r=>(if fz.contains k=true then s.VS else s)::hand fz (k+1) r
def iV(fz:List Nat):∀ (ρ:au) (k i:Nat),(hand fz k ρ)[i]?=(ρ[i]?).map λs=>if fz.contains (k+i)=true then s.VS else s
 | [],k,i=>by simp[hand]
 | s::r,k,0=>by simp[hand]
 | s::r,k,i+1=>by
  simp?[hand,yZ];rw[iV fz r (k+1) i,Nat.add_assoc,Nat.add_comm 1 i]
def Bi(fz:List Nat):∀ (ρ:au) (k:Nat),(hand fz k ρ).length=ρ.length
 | [],k=>rfl
 | s::r,k=>by simp[hand,Bi fz r (k+1)]
structure ki(K:W.Frag)(Uy Uz HF H:Hp)(ρ:au)(σ:L2.St):Prop where
 gr:bG Uy Uz HF H
 val:∀ (i:Nat) (d:D),ρ[i]?=some (.val d)->∃v,σ[i]?=some (some v)/\Rep K HF d v
 own:∀ (i:Nat) (ds:List D),ρ[i]?=some (.own ds)->∃a vs,σ[i]?=some (some (.ref a))/\H a=some (.lst vs)/\HF a=none/\Uz a=none/\ax K HF ds vs
 inj:∀ (i j:Nat) (ds es:List D) (a:Addr),ρ[i]?=some (.own ds)->ρ[j]?=some (.own es)->σ[i]?=some (some (.ref a))->σ[j]?=some (some (.ref a))->i=j
 len:ρ.length<=σ.length
 tb:eS K HF
section
variable {K:W.Frag}
def ki.all(S:ki K Uy Uz HF H ρ σ):cM K H (aG ρ) σ:=by
 refine⟨λi d h=>?_,by simpa [aG] using S.len,S.tb.mono S.gr.fh⟩;unfold aG at h;rw[zO] at h;let⟨s,hs,h⟩:=ah h;cases s with
 | Ux=>cases h
 | val e=>cases h;let⟨v,a,b⟩:=S.val i _ hs;exact⟨v,a,b.mono S.gr.fh⟩
 | own ds =>
  cases h;let⟨a,vs,e1,e2,e3,_,e4⟩:=S.own i ds hs;exact⟨.ref a,e1,by simp?[Rep];exact⟨a,vs,rfl,iM.of e2,e4.mono S.gr.fh⟩⟩
def ki.Vh(S:ki K Uy Uz HF H ρ σ):cM K HF (bJ ρ) σ:=by
 refine⟨λi d h=>?_,by simpa [bJ] using S.len,S.tb⟩;unfold bJ at h;rw[zO] at h;let⟨s,hs,h⟩:=ah h;cases s with
 | Ux=>cases h
 | val e=>cases h;exact S.val i _ hs
 | own ds=>cases h
def ki.grow(S:ki K Uy Uz HF H ρ σ)(g:bG HF H UA H'):ki K Uy Uz UA H' ρ σ where
 gr:=S.gr.trans g
 val:=λi d h=>let ⟨v,a,b⟩:=S.val i d h;⟨v,a,b.mono g.ff⟩
 own:=λi ds h=>by
  let⟨a,vs,e1,e2,e3,e5,e4⟩:=S.own i ds h;refine⟨a,vs,e1,g.hh _ _ e2,?_,e5,e4.mono g.ff⟩;cases e:UA a with
  | none=>rfl
  | some o =>
   rcases g.nw a o e with z|z
   ·rw[e3] at z;cases z
   ·rw[e2] at z;cases z
 inj:=S.inj
 len:=S.len
 tb:=S.tb.mono g.ff
def ki.step(S:ki K Uy Uz HF H ρ σ)(g:aS H H'):ki K Uy Uz HF H' ρ σ:=S.grow ⟨g,.refl _,S.gr.fh.trans g,λ_ _ e=>.inl e⟩
def ki.hand(S:ki K Uy Uz HF H ρ σ)(fz:List Nat):∃UB,aS HF UB/\ki K Uy Uz UB H (hand fz 0 ρ) σ:=by
 let P:Addr->Prop:=λa=>∃i ds,fz.contains i=true/\ρ[i]?=some (.own ds)/\σ[i]?=some (some (.ref a));have cl:=Classical.propDecidable;let UB:Hp:=λa=>if P a then H a else HF a
 have hP:∀a,P a->HF a=none/\Uz a=none:=λa ⟨i,ds,_,h1,h2⟩=>by
  let⟨a',vs,e1,e2,e3,e5,e4⟩:=S.own i ds h1;rw[h2] at e1;cases e1;exact⟨e3,e5⟩
 have s1:aS HF UB:=λb o e=>by
  show (if P b then H b else HF b)=some o;by_cases h:P b
  ·rw[(hP b h).1] at e;cases e
  ·rw[yO h];exact e
 have s2:aS UB H:=λb o e=>by
  have e:(if P b then H b else HF b)=some o:=e;by_cases h:P b
  ·rw[yM h] at e;exact e
  ·rw[yO h] at e;exact S.gr.fh b o e
 refine⟨UB,s1,⟨S.gr.hh,S.gr.ff.trans s1,s2,λb o e=>?_⟩,λi d h=>?_,λi ds h=>?_,λi j ds es a h1 h2=>?_,by rw[Bi];exact S.len,S.tb.mono s1⟩
 ·have e:(if P b then H b else HF b)=some o:=e;by_cases h:P b
  ·exact .inr (hP b h).2
  ·rw[yO h] at e;exact S.gr.nw b o e
 ·rw[iV] at h;let⟨s,hs,h⟩:=ah h;rw[jF] at h;cases s with
  | Ux=>split at h<;>cases h
  | val e =>
   have:Slot.val e=Slot.val d:=by split at h<;>exact h
   cases this;let⟨v,a,b⟩:=S.val i _ hs;exact⟨v,a,b.mono s1⟩
  | own ds =>
   split at h
   ·rename_i hc;cases h;let⟨a,vs,e1,e2,e3,e5,e4⟩:=S.own i ds hs;refine⟨.ref a,e1,?_⟩;simp?[Rep];refine⟨a,vs,rfl,.inl (.inl ?_),e4.mono s1⟩;show (if P a then H a else HF a)=_;rw[yM ⟨i,ds,hc,hs,e1⟩];exact e2
   ·cases h
 ·rw[iV] at h;let⟨s,hs,h⟩:=ah h;rw[jF] at h;cases s with
  | Ux=>split at h<;>cases h
  | val e=>split at h<;>cases h
  | own es =>
   split at h
   ·cases h
   ·rename_i hc;cases h;let⟨a,vs,e1,e2,e3,e5,e4⟩:=S.own i ds hs;refine⟨a,vs,e1,e2,?_,e5,e4.mono s1⟩;show (if P a then H a else HF a)=none;rw[yO ?_]
    ·exact e3
    ·rintro⟨j,es,hj,h1,h2⟩;have:=S.inj i j ds es a hs h1 e1 h2;subst this;exact hc hj
 ·rw[iV] at h1 h2;let⟨s,hs,h1⟩:=ah h1;let⟨s',VN,h2⟩:=ah h2;rw[jF] at h1 h2;cases s with
  | Ux=>split at h1<;>cases h1
  | val e=>split at h1<;>cases h1
  | own xs =>
   cases s' with
   | Ux=>split at h2<;>cases h2
   | val e=>split at h2<;>cases h2
   | own ys=>exact S.inj i j _ _ a hs VN
def ki.VE(S:ki K Uy Uz HF H ρ σ)(r:Rep K HF d v):ki K Uy Uz HF H (ρ.set i (.val d)) (σ.set i (some v)):=by
 have ne:∀ {j:Nat}{s:Slot},(ρ.set i (.val d))[j]?=some s->(∀e,s≠.val e)->i≠j/\ρ[j]?=some s:=λ{j s} h hn=>by
  rw[xK] at h;by_cases UU:i=j
  ·rw[yM UU] at h;split at h
   ·cases h;exact absurd rfl (hn _)
   ·cases h
  ·rw[yO UU] at h;exact⟨UU,h⟩
 refine⟨S.gr,λj e h=>?_,λj ds h=>?_,λj k ds es a h1 h2 h3 h4=>?_,by rw[yC,yC];exact S.len,S.tb⟩
 ·rw[xK] at h ⊢;by_cases UU:i=j
  ·rw[yM UU] at h ⊢;split at h
   ·rename_i hl;cases h;rw[yM (zP hl S.len)];exact⟨v,rfl,r⟩
   ·cases h
  ·rw[yO UU] at h ⊢;exact S.val j e h
 ·let⟨UU,h⟩:=ne h λe z=>by cases z
  rw[xK,yO UU];exact S.own j ds h
 ·let⟨n1,h1⟩:=ne h1 λe z=>by cases z
  let⟨n2,h2⟩:=ne h2 λe z=>by cases z
  rw[xK,yO n1] at h3;rw[xK,yO n2] at h4;exact S.inj j k ds es a h1 h2 h3 h4
def ki.abi(S:ki K Uy Uz HF H ρ σ)(hs:aS H H')(h1:H' a=some (.lst vs))(h2:HF a=none)(h3:Uz a=none)(r:ax K HF ds vs)
  (fr:∀j es,i≠j->ρ[j]?=some (.own es)->σ[j]?≠some (some (.ref a))):ki K Uy Uz HF H' (ρ.set i (.own ds)) (σ.set i (some (.ref a))):=by
 have S:=S.step hs;refine⟨S.gr,λj e h=>?_,λj es h=>?_,λj k xs ys b e1 e2 e3 e4=>?_,by rw[yC,yC];exact S.len,S.tb⟩
 ·rw[xK] at h ⊢;by_cases UU:i=j
  ·rw[yM UU] at h;split at h<;>cases h
  ·rw[yO UU] at h ⊢;exact S.val j e h
 ·rw[xK] at h ⊢;by_cases UU:i=j
  ·rw[yM UU] at h ⊢;split at h
   ·rename_i hl;cases h;rw[yM (zP hl S.len)];exact⟨a,vs,rfl,h1,h2,h3,r⟩
   ·cases h
  ·rw[yO UU] at h ⊢;exact S.own j es h
 ·rw[xK] at e1 e2 e3 e4;by_cases UU:i=j
  ·by_cases hik:i=k
   ·exact UU.symm.trans hik
   ·rw[yM UU] at e1 e3;rw[yO hik] at e2 e4;split at e3
    ·cases e3;exact absurd e4 (fr k ys hik e2)
    ·cases e3
  ·by_cases hik:i=k
   ·rw[yO UU] at e1 e3;rw[yM hik] at e2 e4;split at e4
    ·cases e4;exact absurd e3 (fr j xs UU e1)
    ·cases e4
   ·rw[yO UU] at e1 e3;rw[yO hik] at e2 e4;exact S.inj j k xs ys b e1 e2 e3 e4
end
inductive Out where
 | nx (ρ:au)|rt (d:D)
def EC(K:W.Frag)(Uy Uz HF:Hp)(E:Ends):Out->Prop
 | .nx ρ'=>∀σ' H' UA,ki K Uy Uz UA H' ρ' σ'->aS HF UA->E.nx σ' H'
 | .rt d=>∀v H' UA,bG Uy Uz UA H'->Rep K UA d v->E.rt v H'
def tS(K:W.Frag)(Uy Uz:Hp)(g:au->Option Out):TS:=λE σ H=>∃HF ρ o,ki K Uy Uz HF H ρ σ/\g ρ=some o/\EC K Uy Uz HF E o
def DS(X:Cx)(Uy Uz:Hp)(st:Stmt)(g:au->Option Out):Prop:=PS X st (tS X.K Uy Uz g)
def C7(X:Cx)(Uy Uz:Hp)(st:List Stmt)(g:au->Option Out):Prop:=za X st (tS X.K Uy Uz g)
section
variable {X:Cx}{Uy Uz:Hp}{st:Stmt}{rest:List Stmt}{g g1 g2:au->Option Out}{e:Expr}{pos:Pos}
def cq(h:PS X st t)(i:∀E σ H,t' E σ H->t E σ H):PS X st t':=λpins s σ H E I q=>h pins s σ H E I (i E σ H q)
def qy(h:za X rest t)(i:∀E σ H,t' E σ H->t E σ H):za X rest t':=λpins s σ H E I q=>h pins s σ H E I (i E σ H q)
def fv:au->Option Out:=λρ=>some (.nx ρ)
def aw(g1 g2:au->Option Out):au->Option Out:=λρ=>(g1 ρ).bind fun|.nx ρ'=>g2 ρ'|.rt d=>some (.rt d)
def EC.mono{K:W.Frag}(s:aS HF UA)(h:EC K Uy Uz HF E o):EC K Uy Uz UA E o:=by
 cases o with
 | nx ρ'=>exactλσ' H' UL S s2=>h σ' H' UL S (s.trans s2)
 | rt d=>exact h
def KI:C7 X Uy Uz [] fv:=qy wk λE σ H ⟨HF,ρ,o,S,hg,q⟩=>by cases hg;exact q σ H HF S (.refl _)
def Ju(h1:DS X Uy Uz st g1)(h2:C7 X Uy Uz rest g2):C7 X Uy Uz (st::rest) (aw g1 g2):=qy (iP h1 h2) λE σ H ⟨HF,ρ,o,S,hg,q⟩=>by
 let⟨o1,h,hg⟩:=bs hg;refine⟨HF,ρ,o1,S,h,?_⟩;cases o1 with
 | nx ρ'=>exactλσ' H' UA S' s=>⟨UA,ρ',o,S',hg,q.mono s⟩
 | rt d=>cases hg;exact q
def DU(h1:DS X Uy Uz st g1):C7 X Uy Uz [st] g1:=Kz h1
def KS:DS X Uy Uz (.Pass pos) fv:=cq KD λE σ H ⟨HF,ρ,o,S,hg,q⟩=>by cases hg;exact q σ H HF S (.refl _)
def Nr{x j pos pos'}:DS X Uy Uz (.Expr (.Constant (.str x) j pos) pos') fv:=cq O9 λE σ H ⟨HF,ρ,o,S,hg,q⟩=>by cases hg;exact q σ H HF S (.refl _)
def fX(t:Env->Option Bool)(g1 g2:au->Option Out):au->Option Out:=λρ=>(t (aG ρ)).bind λb=>if b=true then g1 ρ else g2 ρ
def QS(hc:DT X c t)(ha:C7 X Uy Uz a g1)(hb:C7 X Uy Uz b g2):DS X Uy Uz (.If c a b pos) (fX t g1 g2):=cq (JK hc ha hb) λE σ H ⟨HF,ρ,o,S,hg,q⟩=>by
 let⟨b,h,hg⟩:=bs hg;refine⟨H,aG ρ,b,.refl _,S.all,h,λH' UA G=>?_⟩;cases b with
 | true=>exact uq ⟨HF,ρ,o,S.step G.hh,hg,q⟩
 | false=>exact qd ⟨HF,ρ,o,S.step G.hh,hg,q⟩
def Ap:∀ (ρ:au) (k n:Nat),k+ρ.length<=n->bJ (hand (List.range n) k ρ)=aG ρ
 | [],k,n,h=>rfl
 | s::r,k,n,h=>by
  have hk:(List.range n).contains k=true:=by simp at h ⊢;lia
  have ih:=Ap r (k+1) n (by simp at h;lia);unfold bJ aG at ih ⊢;rw[hand,yM hk,zI,zI,ih];cases s<;>rfl
def aM(f:Env->Option D):au->Option Out:=λρ=>(f (aG ρ)).map Out.rt
def OZ(h:DE X e f):DS X Uy Uz (.Return (some e) pos) (aM f):=cq (BV h) λE σ H ⟨HF,ρ,o,S,hg,q⟩=>by
 let⟨d,h,rfl⟩:=ah hg;let⟨UB,s1,S1⟩:=S.hand (List.range ρ.length);refine⟨UB,aG ρ,d,S1.gr.fh,?_,h,λv H' UA G r=>q v H' UA (S1.gr.trans G) r⟩;have:=S1.Vh;rw[Ap ρ 0 ρ.length (by lia)] at this;exact this
def oa:D->Bool|.none=>true|.bool _=>true|.int _=>true|.str _=>true|_=>false
def z9{K:W.Frag}(h:oa d=true)(r:Rep K HF d v):Rep K UA d v:=by
 cases d<;>cases h<;>(simp?[Rep] at r ⊢;exact r)
mutual
def hJ:D->Bool
 | .tuple ds=>gM ds
 | .list _=>false
 | .dict _=>false
 | _=>true
def gM:List D->Bool
 | []=>true
 | d::ds=>hJ d&&gM ds
end
mutual
theorem zv{K:W.Frag}{H1 H2:Hp}(ht:∀a xs,ku K H1 a xs->ku K H2 a xs):∀ {d:D}{v:V},hJ d=true->Rep K H1 d v->Rep K H2 d v
 | .none,_,_,r=>by simp?[Rep] at r ⊢;exact r
 | .bool _,_,_,r=>by simp?[Rep] at r ⊢;exact r
 | .int _,_,_,r=>by simp?[Rep] at r ⊢;exact r
 | .str _,_,_,r=>by simp?[Rep] at r ⊢;exact r
 | .tuple ds,v,h,r=>by
  simp?[hJ] at h;simp?[Rep] at r ⊢;let⟨a,vs,e,q,rr⟩:=r;exact⟨a,vs,e,ht _ _ q,u5 ht h rr⟩
 | .list _,_,h,_=>by simp[hJ] at h
 | .dict _,_,h,_=>by simp[hJ] at h
theorem u5{K:W.Frag}{H1 H2:Hp}(ht:∀a xs,ku K H1 a xs->ku K H2 a xs):∀ {ds:List D}{vs:List V},gM ds=true->ax K H1 ds vs->ax K H2 ds vs
 | [],_,_,r=>by simp?[ax] at r ⊢;exact r
 | d::ds,vs,h,r=>by
  simp?[gM,zF] at h;simp?[ax] at r ⊢;let⟨v,r',e,a,b⟩:=r;exact⟨v,r',e,zv ht h.1 a,u5 ht h.2 b⟩
end
def ki.back{K:W.Frag}(S:ki K Uy Uz HF H ρ σ)(S1:ki K Uy Uz UB H ρ1 σ)(s1:aS HF UB)(G:bG UB H UA H'):∃UL,aS HF UL/\ki K Uy Uz UL H' ρ σ/\(∀d v,hJ d=true->Rep K UA d v->Rep K UL d v)/\∀b o,UL b=some o->UA b=some o:=by
 have cl:=Classical.propDecidable;let O:Addr->Prop:=λa=>∃ (i:Nat) (ds:List D),ρ[i]?=some (Slot.own ds)/\σ[i]?=some (some (V.ref a));let UL:Hp:=λa=>if O a then none else UA a
 have hO:∀a,O a->HF a=none/\∃vs,H a=some (.lst vs):=λa ⟨i,ds,h1,h2⟩=>by
  let⟨a',vs,e1,e2,e3,_,_⟩:=S.own i ds h1;rw[h2] at e1;cases e1;exact⟨e3,vs,e2⟩
 have h2:∀a,¬ O a->UL a=UA a:=λa n=>yO n;have h3:∀a,O a->UL a=none:=λa n=>yM n;have sa:aS HF UL:=λb o e=>by
  have nb:¬ O b:=λz=>by rw[(hO b z).1] at e;cases e
  rw[h2 b nb];exact G.ff b o (s1 b o e)
 have sb:∀b o,UL b=some o->UA b=some o:=λb o e=>by
  by_cases z:O b
  ·rw[h3 b z] at e;cases e
  ·rwa [h2 b z] at e
 have g2:=S1.gr.trans G;refine⟨UL,sa,⟨⟨g2.hh,S.gr.ff.trans sa,λb o e=>G.fh b o (sb b o e),λb o e=>g2.nw b o (sb b o e)⟩,λi d h=>?_,λi ds h=>?_,S.inj,S.len,S.tb.mono sa⟩,λd v hn r=>zv (λa xs q=>?_) hn r,sb⟩
 ·let⟨v,e1,r⟩:=S.val i d h;exact⟨v,e1,r.mono sa⟩
 ·let⟨a,vs,e1,e2,e3,e5,e4⟩:=S.own i ds h;exact⟨a,vs,e1,G.hh _ _ e2,h3 a ⟨i,ds,h,e1⟩,e5,e4.mono sa⟩
 ·have nt:∀o,UA a=some o->(∀vs,o≠.lst vs)->UL a=some o:=λo e UN=>by
   by_cases z:O a
   ·let⟨_,vs,e2⟩:=hO a z;have:=G.hh _ _ e2;rw[G.fh a o e] at this;cases this;exact absurd rfl (UN vs)
   ·rw[h2 a z];exact e
  rcases q with (q|⟨o,q⟩)|q
  ·exact .inl (.inl (nt _ q λvs z=>by cases z))
  ·exact .inl (.inr ⟨o,nt _ q λvs z=>by cases z⟩)
  ·exact .inr q
def aI(i:Nat)(fz:List Nat)(f:Env->Option D):au->Option Out:=λρ=>(f (aG ρ)).bind λd=>if oa d=true then some (.nx (ρ.set i (.val d))) else (f (bJ (hand fz 0 ρ))).map λd'=>.nx ((if hJ d'=true then ρ else hand fz 0 ρ).set i (.val d'))
def P0:∀E σ H,tS X.K Uy Uz (aI i fz f) E σ H->Fd (tD X.K f) (uz i) E σ H:=λE σ H ⟨HF,ρ,o,S,hg,q⟩=>by
 let⟨d,h,hg⟩:=bs hg;split at hg
 ·rename_i hs;cases hg;exact⟨H,aG ρ,d,.refl _,S.all,h,λv H' UA G r=>q _ H' HF ((S.step G.hh).VE (z9 hs r)) (.refl _)⟩
 ·let⟨d',h',rfl⟩:=ah hg;let⟨UB,s1,S1⟩:=S.hand fz;refine⟨UB,_,d',S1.gr.fh,S1.Vh,h',λv H' UA G r=>?_⟩;by_cases hn:hJ d'=true
  ·rw[yM hn] at q;let⟨UL,s2,S2,hb,_⟩:=S.back S1 s1 G;exact q _ H' UL (S2.VE (hb d' v hn r)) s2
  ·rw[yO hn] at q;exact q _ H' UA ((S1.grow G).VE r) (s1.trans G.ff)
def NJ(i:Nat)(fz:List Nat)(hN:X.N.Nodup)(hi:X.N[i]?=some x)(hx:Loc X.env.scope x)(he:DE X e f)(hs:swapsWith e (some (.Name x pos')) pos.line X.env=pure false:=by rfl)
  (hf:X.fn x=true\/X.env.scope.names.lookup x=some .local:=by first|exact .inl rfl|exact .inr rfl|assumption):DS X Uy Uz (.Assign [.Name x pos'] e pos) (aI i fz f):=cq (tv hN hi hx he hs hf) P0
def aQ(i:Nat)(fz:List Nat)(f:Env->Option (List D)):au->Option Out:=λρ=>(f (bJ (hand fz 0 ρ))).map λds=>.nx ((hand fz 0 ρ).set i (.own ds))
def JH:∀E σ H,tS X.K Uy Uz (aQ i fz f) E σ H->Fd (tF X.K f) (uz i) E σ H:=λE σ H ⟨HF,ρ,o,S,hg,q⟩=>by
 let⟨ds,h,rfl⟩:=ah hg;let⟨UB,s1,S1⟩:=S.hand fz;refine⟨UB,_,ds,S1.gr.fh,S1.Vh,h,λa vs H' UA G ha hf h' r=>q _ H' UA ?_ (s1.trans G.ff)⟩;have S2:=S1.grow G;refine S2.abi (.refl _) h' hf (S1.gr.hh.free ha) r λj es _ hj z=>?_;let⟨b,us,e1,e2,_⟩:=S1.own j es hj;rw[e1] at z;cases z;rw[ha] at e2;cases e2
def zh(i:Nat)(fz:List Nat)(hN:X.N.Nodup)(hi:X.N[i]?=some x)(hx:Loc X.env.scope x)(he:DF X e f)(hs:swapsWith e (some (.Name x pos')) pos.line X.env=pure false:=by rfl)
  (hf:X.fn x=true\/X.env.scope.names.lookup x=some .local:=by first|exact .inl rfl|exact .inr rfl|assumption):DS X Uy Uz (.Assign [.Name x pos'] e pos) (aQ i fz f):=cq (tv hN hi hx he hs hf) JH
def rZ(i:Nat)(fz:List Nat)(f:Env->Option (List D)):au->Option Out:=λρ=>(f (bJ (hand fz 0 ρ))).bind λds=>if gM ds=true then some (.nx (ρ.set i (.own ds))) else none
def Di{K:W.Frag}(hb:∀d v,hJ d=true->Rep K UA d v->Rep K UL d v):∀ {ds:List D}{vs:List V},gM ds=true->ax K UA ds vs->ax K UL ds vs
 | [],vs,_,r=>by simp?[ax] at r ⊢;exact r
 | d::ds,vs,h,r=>by
  simp?[gM,zF] at h;simp?[ax] at r ⊢;let⟨v,us,e,r1,r2⟩:=r;exact⟨v,us,e,hb d v h.1 r1,Di hb h.2 r2⟩
def NP:∀E σ H,tS X.K Uy Uz (rZ i fz f) E σ H->Fd (tF X.K f) (uz i) E σ H:=λE σ H ⟨HF,ρ,o,S,hg,q⟩=>by
 let⟨ds,h,hg⟩:=bs hg;split at hg
 ·rename_i hn;cases hg;let⟨UB,s1,S1⟩:=S.hand fz;refine⟨UB,_,ds,S1.gr.fh,S1.Vh,h,λa vs H' UA G ha hf h' r=>?_⟩;let⟨UL,s2,S2,hb,hs⟩:=S.back S1 s1 G;refine q _ H' UL (S2.abi (.refl _) h' ?_ (S1.gr.hh.free ha) (Di hb hn r) λj es _ hj z=>?_) s2
  ·cases e:UL a with
   | none=>rfl
   | some o=>have:=hs a o e;rw[hf] at this;cases this
  ·let⟨b,us,e1,e2,_⟩:=S.own j es hj;rw[e1] at z;cases z;rw[ha] at e2;cases e2
 ·cases hg
def Kd(i:Nat)(fz:List Nat){cs:List Nat}
  (hc:X.calm=true) (S:gO X scope N (kn t cs)) (hi:DI X tg iter fi)
  (hY:∀fp s H,DG (aX X scope N fp s H) tg tgt/\PM (aX X scope N fp s H) ifs tt/\DE (aX X scope N fp s H) elt te)
  (hN:X.N.Nodup) (hiy:X.N[i]?=some y) (hy:X.env.scope.names.lookup y=some .local)
  (hsw:swapsWith (.ListComp elt [⟨tg,iter,ifs,0⟩] scope pos) (some (.Name y py)) Vw.line X.env=pure true)
  (hs:∀x,foldedSetIterable iter X.env x=pure x:=by intro _;rfl):DS X Uy Uz (.Assign [.Name y py] (.ListComp elt [⟨tg,iter,ifs,0⟩] scope pos) Vw) (aQ i fz (aq t cs fi tgt tt te)) :=
 cq (Dt (g:=Rr X.K tgt) (tt:=MC X.K tt) (te:=tD X.K te) hc S hi hY hN hiy hy hsw hs) λE σ H q=>by
  have:=JH E σ H q;exact CA σ H _ this
def GD(i:Nat)(fz:List Nat){cs:List Nat}
  (hc:X.calm=true) (S:gO X scope N (kn t cs)) (hi:DI X tg iter fi)
  (hY:∀fp s H,DG (aX X scope N fp s H) tg tgt/\PM (aX X scope N fp s H) ifs tt/\DE (aX X scope N fp s H) elt te)
  (hN:X.N.Nodup) (hiy:X.N[i]?=some y) (hy:X.env.scope.names.lookup y=some .local)
  (hsw:swapsWith (.ListComp elt [⟨tg,iter,ifs,0⟩] scope pos) (some (.Name y py)) Vw.line X.env=pure true)
  (hs:∀x,foldedSetIterable iter X.env x=pure x:=by intro _;rfl):DS X Uy Uz (.Assign [.Name y py] (.ListComp elt [⟨tg,iter,ifs,0⟩] scope pos) Vw) (rZ i fz (aq t cs fi tgt tt te)) :=
 cq (Dt (g:=Rr X.K tgt) (tt:=MC X.K tt) (te:=tD X.K te) hc S hi hY hN hiy hy hsw hs) λE σ H q=>by
  have:=NP E σ H q;exact CA σ H _ this
def T4(K:W.Frag)(Uy Uz:Hp)(f:au->D->Option au):TG:=λv σ H Q=>∃HF ρ d ρ',ki K Uy Uz HF H ρ σ/\Rep K HF d v/\f ρ d=some ρ'/\∀σ',ki K Uy Uz HF H ρ' σ'->Q σ' H
def RD(X:Cx)(Uy Uz:Hp)(tg:Expr)(f:au->D->Option au):Prop:=PG X tg (T4 X.K Uy Uz f)
def ik(i:Nat):au->D->Option au:=λρ d=>some (ρ.set i (.val d))
def Gw(i:Nat)(hN:X.N.Nodup)(hi:X.N[i]?=some x)(hx:Loc X.env.scope x)(hf:X.fn x=true\/X.env.scope.names.lookup x=some .local:=by first|exact .inl rfl|exact .inr rfl|assumption):RD X Uy Uz (.Name x pos) (ik i) :=
 r8 (dN hN hi hx hf) λv σ H Q ⟨HF,ρ,d,ρ',S,r,hf,q⟩=>by cases hf;exact q _ (S.VE r)
def gz(i j:Nat):au->D->Option au:=λρ d=>match d with
 | .tuple [x,y]=>some ((ρ.set i (.val x)).set j (.val y))
 | _=>none
def LQ(i j:Nat){px py:Pos}{k:Nat}(hc:X.calm=true)(hN:X.N.Nodup)(hi:X.N[i]?=some x)(hx:Loc X.env.scope x)(hj:X.N[j]?=some y)(hy:Loc X.env.scope y)
  (hf:X.fn x=true\/X.env.scope.names.lookup x=some .local:=by first|exact .inl rfl|exact .inr rfl|assumption) (X1:X.fn y=true\/X.env.scope.names.lookup y=some .local:=by first|exact .inl rfl|exact .inr rfl|assumption) :
  RD X Uy Uz (.Tuple [.Name x px,.Name y py] k pos) (gz i j) :=
 r8 (yp hc (dH (dN hN hi hx hf) (dH (dN hN hj hy X1) qx))) λv σ H Q ⟨HF,ρ,d,ρ',S,r,hf,q⟩=>by
  unfold gz at hf;split at hf
  ·cases hf;simp?[Rep] at r;let⟨a,vs,rfl,hs,rr⟩:=r;let⟨v1,r1,rfl,a1,b1⟩:=rr.cons_inv;let⟨v2,r2,rfl,a2,b2⟩:=b1.cons_inv;rw[b2.nil_inv] at hs;exact⟨a,_,rfl,aK S.gr.fh hs,rfl,v1,_,rfl,v2,_,rfl,rfl,q _ ((S.VE a1).VE a2)⟩
  ·cases hf
def bN(tgt:au->D->Option au)(gb:au->Option Out):List D->au->Option Out
 | [],ρ=>some (.nx ρ)
 | d::ds,ρ=>(tgt ρ d).bind λρ1=>(gb ρ1).bind fun|.nx VO=>bN tgt gb ds VO|.rt v=>some (.rt v)
def cX(fz:List Nat)(fi:Env->Option (List D))(tgt:au->D->Option au)(gb:au->Option Out):au->Option Out:=λρ=>(fi (bJ (hand fz 0 ρ))).bind λds=>bN tgt gb ds (hand fz 0 ρ)
def N8(fz:List Nat)(hp:PassesOwn (model X.prog X.w) X.A X.env X.xe)(hc:X.calm=true)(hi:DI X tg iter fi)(hg:RD X Uy Uz tg tgt)(hb:C7 X Uy Uz body gb)
  (hs:∀x,foldedSetIterable iter X.env x=pure x:=by intro _;rfl):DS X Uy Uz (.For tg iter body [] pos) (cX fz fi tgt gb):=cq (Os hp hc hi hg hb hs) λE σ H ⟨HF,ρ,o,S,hg,q⟩=>by
 let⟨ds,h,hg⟩:=bs hg;let⟨UB,s1,S1⟩:=S.hand fz;refine⟨UB,_,ds,S1.gr.fh,S1.Vh,h,λJ H2 UL G it=>?_⟩;refine⟨λi m σ' H'=>m+i=ds.length/\∃UA ρ',ki X.K Uy Uz UA H' ρ' σ'/\aS UL UA/\bN tgt gb (ds.drop i) ρ'=some o,⟨ds.length,rfl,UL,_,S1.grow G,.refl _,hg⟩,?_⟩;rintro i m σ' H' ⟨hm,UA,ρ',S',s',hf⟩;by_cases hi:i < ds.length
 ·refine .inr ?_;have hd:ds.drop i=ds[i]::ds.drop (i+1):=vJ hi;have he:ds[i]?=some ds[i]:=List.getElem?_eq_some_iff.mpr ⟨hi,rfl⟩;generalize ds[i]=d at hd he;rw[hd] at hf;unfold bN at hf;let⟨ρ1,h1,hf⟩:=bs hf;let⟨o1,h2,hf⟩:=bs hf;let⟨go,YF⟩:=it.go i d H' UA he s' S'.gr.fh;refine⟨go,λWS H3=>∃U3 Yl,ki X.K Uy Uz U3 H3 Yl WS/\aS UL U3/\bN tgt gb (ds.drop (i+1)) Yl=some o,λWS H3 ⟨U3,Yl,a1,a2,a3⟩=>⟨m - 1,by lia,by lia,U3,Yl,a1,a2,a3⟩,λx H3 y=>?_⟩;let⟨U3,G3,rx⟩:=YF x H3 y;refine⟨U3,ρ',d,ρ1,S'.grow G3,rx,h1,λWS S2=>⟨U3,ρ1,o1,S2,h2,?_⟩⟩;cases o1 with
  | nx VO=>exactλσ4 H4 Vy S4 s4=>⟨Vy,VO,S4,(s'.trans G3.ff).trans s4,hf⟩
  | rt d=>cases hf;exact q
 ·have U5:i=ds.length:=by lia
  subst U5;rw[List.drop_length] at hf;cases hf;exact .inl ⟨it.stop H' UA s' S'.gr.fh,q σ' H' UA S' ((s1.trans G.ff).trans s')⟩
end
def Lo(X:Cx)(sc:Scope):Prop:=∀x k,sc.names.lookup x=some k->X.env.kindOf x=some k\/(k=.free/\X.env.kindOf x=some .cell)
structure Bk(X:Cx)(N:List Str)(sc:Scope)(k:Nat):Prop where
 n:X.N=N
 nd:N.Nodup
 tb:Lo X sc
 calm:X.calm=true
 fn:∀x,sc.names.lookup x=some .cell->X.fn x=true
 room:ej k X.A
 xe:X.xe=λ_ _=>False
 kd:X.env.scope.kind=.function
def cL:List Str:=["len","isinstance","int","bool","tuple","list","range","all","any","set","sorted","enumerate","zip","sum","min","max","reversed","abs","dict","str","type","iter","next"]
def Bn(X:Cx):Prop:=∀x∈cL,X.mg x=none
def tI(sc:Scope)(x:Str):Bool:=decide (sc.names.lookup x=some .globalImplicit)
def ER(N:List Str)(sc:Scope)(i:Nat)(x:Str):Bool:=decide (N[i]?=some x)&&(decide (sc.names.lookup x=some .local)||decide (sc.names.lookup x=some .cell)||decide (sc.names.lookup x=some .free))&&!(x == ("__debug__":Str))&&!(x == ("__classdict__":Str))
def rG(N:List Str)(sc:Scope)(i:Nat)(x:Str):Bool:=decide (N[i]?=some x)&&(decide (sc.names.lookup x=some .local)||decide (sc.names.lookup x=some .cell))
def Bk.gl(C:Bk X N sc k)(h:tI sc x=true):Gl X x:=by
 rcases C.tb x _ (yR h) with q|⟨q,_⟩
 ·exact q
 ·cases q
def Bk.vis(C:Bk X N sc k)(h:ER N sc i x=true):X.N[i]?=some x/\Kr X.env.scope x/\(x == ("__debug__":Str))=false/\(x == ("__classdict__":Str))=false:=by
 unfold ER at h;simp?[zF,jD,zJ,yQ] at h;let⟨⟨⟨h1,h2⟩,h3⟩,h4⟩:=h;refine⟨by rw[C.n];exact h1,?_,h3,h4⟩;rcases h2 with (h2|h2)|h2
 ·rcases C.tb x _ h2 with q|⟨q,_⟩
  ·exact .inl q
  ·cases q
 ·rcases C.tb x _ h2 with q|⟨q,_⟩
  ·exact .inr (.inl q)
  ·cases q
 ·rcases C.tb x _ h2 with q|⟨_,q⟩
  ·exact .inr (.inr q)
  ·exact .inr (.inl q)
def Bk.loc(C:Bk X N sc k)(h:rG N sc i x=true):X.N.Nodup/\X.N[i]?=some x/\Loc X.env.scope x/\(X.fn x=true\/X.env.scope.names.lookup x=some .local):=by
 unfold rG at h;simp?[zF,jD,zJ] at h;let⟨h1,h2⟩:=h;refine⟨by rw[C.n];exact C.nd,by rw[C.n];exact h1,?_⟩;rcases h2 with h2|h2
 ·rcases C.tb x _ h2 with q|⟨q,_⟩
  ·exact⟨.inl q,.inr q⟩
  ·cases q
 ·rcases C.tb x _ h2 with q|⟨q,_⟩
  ·exact⟨.inr q,.inl (C.fn x h2)⟩
  ·cases q
def Bk.blt(C:Bk X N sc k)(B:Bn X)(h:tI sc x=true)(hm:x∈cL)(hv:bootBuiltins x=some v):p8 X x v:=⟨C.gl h,B x hm,hv⟩
def Bk.v(C:Bk X N sc k)(i:Nat)(h:ER N sc i x=true):DE X (.Name x pos) (ae i):=let ⟨a,b,c,d⟩:=C.vis h;Px i a b c d
def Bk.pass(C:Bk X N sc k):PassesOwn (model X.prog X.w) X.A X.env X.xe:=by rw[C.xe];exact PassesOwn.never
def iE(sc scope:Scope)(N N':List Str)(t:Nat)(cs:List Nat):Bool :=
 decide (scope.kind=.function)&&scope.names.all (λp=>(!decide (p.2=NameKind.free)||decide (sc.names.lookup p.1=some .cell)||decide (sc.names.lookup p.1=some .free))&&(!decide (p.2=NameKind.local)||decide (scope.names.lookup p.1=some .local)))
  &&scope.names.all (λp=>!decide (p.2=NameKind.cell)||!scope.names.any λq=>decide (q.1=p.1)&&decide (q.2=NameKind.free))
  &&decide (N'.length=t+cs.length)&&decide (N'.drop t=cs.filterMap λj=>N[j]?)&&cs.all (λj=>decide (j < N.length))&&(N'.drop t).all (λx=>decide (scope.names.lookup x=some .free))&&decide N'.Nodup
def filterMap_get(N:List α):∀ (cs:List Nat),(∀j∈cs,j < N.length)->∀ (i:Nat),(cs.filterMap λj=>N[j]?)[i]?=(cs[i]?).bind λj=>N[j]?
 | [],_,i=>by simp
 | c::cs,h,i=>by
  have hc:=h c zE;rw[jI,zK hc];cases i with
  | zero=>simp[hc]
  | succ i =>
   simp?[yZ];exact filterMap_get N cs (λj hj=>h j (zC _ hj)) i
def Bk.comp(C:Bk X N sc k){cs:List Nat}(h:iE sc scope N N' t cs=true):gO X scope N' (kn t cs)/\∀fp s H,Bk (aX X scope N' fp s H) N' scope k:=by
 unfold iE at h;simp?[zF,zJ,xI,jD,yQ,xC] at h;obtain⟨⟨⟨⟨⟨⟨⟨h1,h2⟩,h3⟩,h4⟩,h5⟩,h6⟩,h7⟩,h8⟩:=h;refine⟨⟨h1,λx hx hk=>?_,λ{x} a b=>?_,λx hx hk=>?_,λσ i x v e1 e2=>?_,λσ=>?_⟩,λfp s H=>⟨rfl,h8,λx k hx=>oX hx,C.calm,λx hx=>yA hx,C.room,rfl,h1⟩⟩
 ·rcases (h2 x hx).1 with (q|q)|q
  ·exact absurd hk q
  ·rcases C.tb _ _ q with z|⟨z,_⟩
   ·exact .inl z
   ·cases z
  ·rcases C.tb _ _ q with z|⟨_,z⟩
   ·exact .inr z
   ·exact .inl z
 ·rcases h3 _ a with q|q
  ·exact q rfl
  ·have:(scope.names.any λq=>decide (q.1=x)&&decide (q.2=NameKind.free))=true:=List.any_eq_true.mpr ⟨_,b,by simp⟩;rw[this] at q;cases q
 ·rcases (h2 x hx).2 with q|q
  ·exact absurd hk q
  ·exact q
 ·unfold kn at e2;by_cases hi:i < t
  ·rw[yT (by simpa using hi),yY,yM hi] at e2;cases e2
  ·rw[yU (by simpa using hi),zO,xO] at e2;let⟨j,hj,e2⟩:=ah e2;have e3:(N'.drop t)[i - t]?=some x:=by rw[List.getElem?_drop];rw[show t+(i - t)=i by lia];exact e1
   refine⟨h7 x (qD e3),j,?_,?_⟩
   ·rw[h5,filterMap_get N cs h6,hj] at e3;rw[C.n];exact e3
   ·cases e:σ[j]? with
    | none=>rw[e] at e2;cases e2
    | some o=>rw[e] at e2;have e2:o=some v:=e2;rw[e2]
 ·unfold kn;rw[zN,xO,zD,h4]
def aV(g:au->Option Out)(n:Nat)(args:List D):Option D:=(g (args.map Slot.val++List.replicate (n - args.length) .Ux)).map fun|.rt d=>d|.nx _=>.none
def MA{K:W.Frag}{st:Stmt}(F:Hu K x qual st f fd)(S:b9 N ps (ai st))
  (body:∀X:Cx,X.prog=P->X.w=w->X.K=K->X.mg=mg->X.base=base->Bk X N (ai st) k->X.env.code=fd.code->X.env.qual=qual++".<locals>."->∀Uy Uz,C7 X Uy Uz (bx st) g):nK P w K mg base HC (k+1) f fd ps (Pq K ps.length (aV g N.length)):=by
 let⟨oc,od,kV,doc,pm,an,UT,ct,Wx,rfl,lk,Vd⟩:=F.ex;refine Gq lk Vd S (λvs H Q E ⟨HF,ds,d,h1,_,h2,h3,_⟩=>by rw[h2.length,h3]) λA outer s H vs Q E hr ⟨HF,ds,d,sm,tb,rr,hl,hd,q⟩=>?_;refine⟨_,(body (sD HC P w K mg base N qual (ai st) f UT A outer s H E).UY rfl rfl rfl rfl rfl ⟨rfl,S.nd,λy kd hy=>.inl hy,rfl,λ_ _=>rfl,hr,rfl,S.kind⟩ rfl rfl HF H).UY,?_⟩;unfold aV at hd;let⟨o,ho,hd⟩:=ah hd;have U7:ps.length<=N.length:=by have:=jE List.length S.pre;rw[jY] at this;lia
 refine⟨HF,_,o,⟨.refl sm,λi e h=>?_,λi es h=>?_,λi j es fs a h=>?_,?_,tb⟩,ho,?_⟩
 ·have hi:i < ds.length:=by
   by_cases hi:i < ds.length
   ·exact hi
   ·rw[yU (by simpa using hi),yY] at h;split at h<;>cases h
  rw[yT (by simpa using hi),zO] at h;let⟨d',Yb,h⟩:=ah h;cases h;let⟨v,hv,rv⟩:=rr.getD Yb;refine⟨v,?_,rv⟩;unfold L2.start;rw[yT (by simpa [rr.length] using hi),zO,hv];rfl
 ·exfalso;by_cases hi:i < ds.length
  ·rw[yT (by simpa using hi),zO] at h;let⟨d',Yb,h⟩:=ah h;cases h
  ·rw[yU (by simpa using hi),yY] at h;split at h<;>cases h
 ·exfalso;by_cases hi:i < ds.length
  ·rw[yT (by simpa using hi),zO] at h;let⟨d',Yb,h⟩:=ah h;cases h
  ·rw[yU (by simpa using hi),yY] at h;split at h<;>cases h
 ·unfold L2.start;rw[zN,zN,zD,zD,xO,xO,rr.length];exact yN _
 ·cases o with
  | rt d'=>cases hd;exactλv H' UA G r=>q v H' UA G r
  | nx ρ'=>cases hd;exactλσ' H' UA S' _=>q .Ux H' UA S'.gr (by simp[Rep])
def Tt{K:W.Frag}{st:Stmt}(F:Hu K x qual st f fd)(S:b9 N ps (ai st))(hb:Binds K fd ps [])(hm:mg x=some (.ref f))
  (body:∀X:Cx,X.prog=P->X.w=w->X.K=K->X.mg=mg->X.base=base->Bk X N (ai st) k->X.env.code=fd.code->X.env.qual=qual++".<locals>."->∀Uy Uz,C7 X Uy Uz (bx st) g):Gb P w K mg base (k+1) x ps.length (aV g N.length):=⟨f,fd,ps,MA F S body,hm,F.kp,hb⟩
def kh(fz:List Nat)(f:Env->Option D)(ρ:au):Option (D×au):=(f (aG ρ)).bind λd=>if oa d=true then some (d,ρ) else (f (bJ (hand fz 0 ρ))).map λd'=>(d',hand fz 0 ρ)
def o5{K:W.Frag}(S:ki K Uy Uz HF H ρ σ)(h:kh fz f ρ=some (d,ρ'))
  (q:∀v H' UA,aS HF UA->ki K Uy Uz UA H' ρ' σ->aS H H'->Rep K UA d v->Q v H'):tD K f σ H Q:=by
 let⟨d1,h1,h⟩:=bs h;split at h
 ·rename_i hs;cases h;exact⟨H,aG ρ,d,.refl _,S.all,h1,λv H' UA G r=>q v H' HF (.refl _) (S.step G.hh) G.hh (z9 hs r)⟩
 ·let⟨d2,h2,h⟩:=ah h;cases h;let⟨UB,s1,S1⟩:=S.hand fz;exact⟨UB,_,d,S1.gr.fh,S1.Vh,h2,λv H' UA G r=>q v H' UA (s1.trans G.ff) (S1.grow G) G.hh r⟩
def oE(i:Nat)(m:List D->Option (List D))(ρ:au):Option Out:=match ρ[i]? with
 | some (.own ds)=>(m ds).map λes=>.nx (ρ.set i (.own es))
 | _=>none
def l4(h:oE i m ρ=some o):∃ds es,ρ[i]?=some (.own ds)/\m ds=some es/\o=.nx (ρ.set i (.own es)):=by
 unfold oE at h;split at h
 ·rename_i ds hd;let⟨es,h1,h2⟩:=ah h;exact⟨ds,es,hd,h1,h2.symm⟩
 ·cases h
def ki.mut{K:W.Frag}(S:ki K Uy Uz HF H ρ σ)(h:ρ[i]?=some (.own ds))(ha:σ[i]?=some (some (.ref a)))(hH:H a=some (.lst vs))(r:ax K HF es us) :
  ki K Uy Uz HF (upd H a (.lst us)) (ρ.set i (.own es)) σ:=by
 let⟨a',YN,e1,e2,e3,e5,e4⟩:=S.own i ds h;rw[ha] at e1;cases e1;have hl:i < ρ.length:=(List.getElem?_eq_some_iff.mp h).1;have gr:bG Uy Uz HF (upd H a (.lst us)):=⟨λb o e=>by rw[aD (aU e e5)];exact S.gr.hh b o e,S.gr.ff,λb o e=>by rw[aD (aU e e3)];exact S.gr.fh b o e,S.gr.nw⟩
 refine⟨gr,λj d hj=>?_,λj xs hj=>?_,λj k xs ys b f1 f2 f3 f4=>?_,by rw[yC];exact S.len,S.tb⟩
 ·rw[xK] at hj;by_cases UU:i=j
  ·rw[yM UU] at hj;split at hj<;>cases hj
  ·rw[yO UU] at hj;exact S.val j d hj
 ·rw[xK] at hj;by_cases UU:i=j
  ·subst UU;rw[yM rfl,yM hl] at hj;cases hj;exact⟨a,us,ha,aH,e3,e5,r⟩
  ·rw[yO UU] at hj;let⟨b,ws,f1,f2,f3,f5,f4⟩:=S.own j xs hj;refine⟨b,ws,f1,?_,f3,f5,f4⟩;rw[aD]
   ·exact f2
   ·rintro rfl;exact UU (S.inj i j ds xs b h hj ha f1)
 ·have old:∀ {j:Nat}{xs:List D},(ρ.set i (.own es))[j]?=some (.own xs)->∃ys,ρ[j]?=some (.own ys):=λ{j xs} hj=>by
   rw[xK] at hj;by_cases UU:i=j
   ·subst UU;exact⟨ds,h⟩
   ·rw[yO UU] at hj;exact⟨xs,hj⟩
  let⟨xs',g1⟩:=old f1;let⟨ys',g2⟩:=old f2;exact S.inj j k xs' ys' b g1 g2 f3 f4
def iR(i:Nat)(fz:List Nat)(f:Env->Option D):au->Option Out:=λρ=>(kh fz f ρ).bind λp=>oE i (λds=>if ds.length < sizeLine then some (ds++[p.1]) else none) p.2
def FD(i:Nat)(fz:List Nat)(hN:X.N[i]?=some x)(hv:Kr X.env.scope x)(h:DE X e f)(hd:(x == ("__debug__":Str))=false:=by decide)(Vd:(x == ("__classdict__":Str))=false:=by decide)
  (VC:((backTo cpos (starEach [e] X.env)).all (λx=>!x.1)&&(backToKw cpos (keywordEach [] X.env)).all (λx=>x.1.isSome)&&decide ([e].length+([]:List Keyword).length+(if ([]:List Keyword).isEmpty then 0 else 1) < 30))=true:=by rfl)
  (UR:(apos.endLine == cpos.line)=true:=by rfl) (hs:starEach [e] X.env=(false,eval e X.env)::starEach [] X.env:=by rfl) :
  DS X Uy Uz (.Expr (.Call (.Attribute (.Name x px) "append" apos) [e] [] cpos) pos) (iR i fz f) :=
 cq (n6 (sZ qQ PySem.F.slot_list_append PySem.F.type_list_append uY (ll hN hv hd Vd) (bO h dB hs) rfl VC UR hs rfl)) λE σ H ⟨HF,ρ,o,S,hg,q⟩=>by
  let⟨⟨d,ρ'⟩,h1,hg⟩:=bs hg;let⟨ds,es,h2,h3,rfl⟩:=l4 hg;have WC:∃ds',ρ[i]?=some (.own ds'):=by
   let⟨d1,_,h1⟩:=bs h1;split at h1
   ·cases h1;exact⟨ds,h2⟩
   ·let⟨d2,_,h1⟩:=ah h1;cases h1;rw[iV] at h2;let⟨s,hs,h2⟩:=ah h2;cases s with
    | Ux=>split at h2<;>cases h2
    | val _=>split at h2<;>cases h2
    | own xs=>exact⟨xs,hs⟩
  let⟨ds',WC⟩:=WC;let⟨a,vs,e1,e2,e3,e5,e4⟩:=S.own i ds' WC;refine⟨.ref a,e1,.inl ⟨rfl,vs,iM.of e2⟩,o5 S h1 λv H' UA s1 S' sh r=>?_⟩;let⟨a',YN,f1,f2,f3,f5,f4⟩:=S'.own i ds h2;rw[e1] at f1;cases f1;split at h3
  ·rename_i hz;cases h3;exact⟨a,YN,v,rfl,rfl,f2,by rw[f4.length];exact hz,q σ _ UA (S'.mut h2 e1 f2 (f4.append (ax.cons r ax.nil))) s1⟩
  ·cases h3
def v7(K:W.Frag)(o:Obj):Option (Addr×Str):=match o.data with
 | .func fd=>if lg.contains fd.qualname=true then (match fd.code with
   | .ref c=>(match K.lookup c with
    | some ⟨_,_,.fields vs,_⟩=>(match (vs[11]?:Option Value) with
     | some (.ref P)=>if W.codeHdIn K c P=true then some (P,fd.qualname++".<locals>."++"<lambda>") else none
     | _=>none)
    | _=>none)
   | _=>none) else none
 | _=>none
def iI(K:W.Frag):List (Addr×Str):=K.filterMap λp=>v7 K p.2
def oD(K:W.Frag)(ts:List Addr):Bool:=(iI K).all λp=>ts.contains p.1&&(K.lookup p.1).isNone&&decide ((iI K).lookup p.1=some p.2)
def An{K:W.Frag}(h:v7 K o=some (P,q)):∃c,W.codeHdIn K c P=true:=by
 unfold v7 at h;split at h
 ·split at h
  ·split at h
   ·split at h
    ·split at h
     ·split at h
      ·cases h;exact⟨_,‹_›⟩
      ·cases h
     ·cases h
    ·cases h
   ·cases h
  ·cases h
 ·cases h
def Aa{K:W.Frag}(h:(P,q)∈iI K):∃c,W.codeHdIn K c P=true:=by
 let⟨p,_,e⟩:=List.mem_filterMap.mp h;exact An e
def CO{K:W.Frag}(a:K.lookup f=some ⟨oc,od,.func fd,sl⟩)(b:fd.qualname∈lg)(d:fd.code=.ref c)(e:W.codeHdIn K c P=true) :
  (P,fd.qualname++".<locals>."++"<lambda>")∈iI K:=by
 refine List.mem_filterMap.mpr ⟨(f,_),W.mem_of_lookupK a,?_⟩;have e':=e;unfold W.codeHdIn at e';unfold v7;simp?[d,List.contains_iff_mem,b,xJ];split at e'
 ·rename_i vs sl' hl;simp?[hl];simp?[zF] at e';have e1:=e'.1.1.1.1.1;split at e1
  ·rename_i P' hv;have:P'=P:=by simpa using e1
   subst this;simp?[hv,e,xJ]
  ·cases e1
 ·cases e'
def Gc:∀ {l:List (Addr×α)},l.lookup b=some q->(b,q)∈l
 | [],e=>by cases e
 | (c,x)::r,e=>by
  rw[yB] at e;cases h:b == c with
  | true=>rw[h] at e;cases e;rw[eq_of_beq h];exact zE
  | false=>rw[h] at e;exact zC _ (Gc e)
def fA(K:W.Frag)(h0:Hp):Hp:=λb=>match (iI K).lookup b with|some q=>some (.tab q)|none=>h0 b
def E2{K:W.Frag}(h:oD K ts=true):eS K (fA K h0):=λf oc od fd sl c P a b d e=>by
 have hm:=CO a b d e;have:=List.all_eq_true.mp h _ hm;simp?[zF,zJ] at this;unfold fA;rw[this.2]
def EY{w:World}{K:W.Frag}{CX:Kk}{k:Nat}{fa:Addr}{fd:FuncData}{sp:Sp}{vs:List Value}{ns:List Int}
  (KX:K.In UD.heap) (V1:UD.heap.Ns mainGlobals mg) (hb:UD.heap.Ns builtinsNs mb) (hbb:∀x:Str,x≠"__name__"->mb x=bootBuiltins x) (VJ:UD.heap.NoLimit) (hbm:RE mg UD.heap) (hg:UD.gens=#[])
  (ht:oD K ts=true) (hts:∀P∈ts,UD.heap.get? P=some (W.tabObj #[]))
  (ha:UD.heap.get? a=some { cls:=.type "list",data:=.seq vs.toArray }) (hi:IntsAre vs ns) (hl:ns.length<=sizeLine) (hr:ej k callerA)
  (F:∀base:Heap,K.In base->base.Ns mainGlobals mg->nK P w K mg base CX k fa fd [x] sp) (abj:∀ (s:Shared) (u:Value),BindsTo s fd ⟨[u],[]⟩ [(x,u)])
  (hsp:∀H:Hp,eS K H->iM K H a (ns.map V.int)->sp [.ref a] H (λv _=>v=.bl true) λ_ _ _=>False)
  (hCX:∀H e s',CX [] H UD (λ_ _ _=>False) e s'->False) :
  codeAny (model P w) callerA (.call (.ref fa) ⟨[.ref a],[]⟩) (λr s'=>r=.ok (.ret (.bool true))/\OldK UD.heap s'.heap/\s'.os=UD.os/\AllBare s'.gens) UD:=by
 have rv:=uw hi;have aei:=hi.length;have tabAt:∀b q,(iI K).lookup b=some q->UD.heap.get? b=some (W.tabObj #[])/\K.lookup b=none/\∃c,W.CodeHd UD.heap c b:=λb q e=>by
  have hm:=Gc e;have:=List.all_eq_true.mp ht _ hm;simp?[zF,zJ,List.contains_iff_mem,Option.isNone_iff_eq_none] at this;let⟨c,hc⟩:=Aa hm;exact⟨hts b this.1.1,this.1.2,c,W.codeHd_of_K KX hc⟩
 have aT:(iI K).lookup a=none:=by
  cases e:(iI K).lookup a with
  | none=>rfl
  | some q=>have:=(tabAt a q e).1;rw[ha] at this;cases this
 have core:∀h0:Hp,iM K (fA K h0) a (ns.map V.int)->oI P w (fA K h0) UD.heap->(∀b,h0 b≠none->b=a)->(h0 a≠none->K.lookup a=none)->(∀b,h0 b=none\/∃o xs,h0 b=some (.Vh o (.lst xs))) ->
   codeAny (model P w) callerA (.call (.ref fa) ⟨[.ref a],[]⟩) (λr s'=>r=.ok (.ret (.bool true))/\OldK UD.heap s'.heap/\s'.os=UD.os/\AllBare s'.gens) UD:=by
  intro h0 hS UC hA hK hO;have look:∀b u,fA K h0 b=some u->(∃q,(iI K).lookup b=some q/\u=.tab q)\/(b=a/\h0 b=some u):=λb u e=>by
   unfold fA at e;split at e
   ·rename_i q hq;cases e;exact .inl ⟨q,hq,rfl⟩
   ·exact .inr ⟨hA b (by rw[e];simp),e⟩
  have ow:∀ {b:Addr}{o:Obj},UD.heap.get? b=some o->fA K h0 b=none->(yc UD.heap (fA K h0)).get? b=some o:=λe n=>HZ e n;have XY:∀ {b:Addr}{o:Obj},UD.heap.get? b=some o->(∀vs n,o.data≠.seq vs n)->(∀vs,o.data≠.fields vs)->fA K h0 b=none:=λ{b o} e d d2=>by
   cases q:fA K h0 b with
   | none=>rfl
   | some u =>
    rcases look b u q with ⟨q',z,_⟩|⟨z,_⟩
    ·rw[(tabAt b q' z).1] at e;cases e;exact absurd rfl (d2 _)
    ·subst z;rw[ha] at e;cases e;exact absurd rfl (d _ _)
  have nsK:∀ {b:Addr}{m:Str->Option Value},UD.heap.Ns b m->(yc UD.heap (fA K h0)).Ns b m:=λ{b m} ⟨o,es,ep,e,d,r⟩=>⟨o,es,ep,ow e (XY e (λ_ _ z=>by rw[d] at z;cases z) λ_ z=>by rw[d] at z;cases z),d,r⟩
  have hKb:K.In (yc UD.heap (fA K h0)):=λb o e=>ow (KX b o e) (by
   cases q:fA K h0 b with
   | none=>rfl
   | some u =>
    rcases look b u q with ⟨q',z,_⟩|⟨z,z2⟩
    ·rw[(tabAt b q' z).2.1] at e;cases e
    ·subst z;rw[hK (by rw[z2];simp)] at e;cases e)
  have hM:Mod K mg (yc UD.heap (fA K h0)):=⟨hKb,nsK V1,⟨mb,nsK hb,hbb⟩,let ⟨mc,h1,h2⟩:=VJ;⟨mc,nsK h1,h2⟩,
   let ⟨bm,o,b1,b2,b3,b4,b5,b6,b7⟩:=hbm;⟨bm,o,b1,b2,b3,ow b4 (XY b4 (λ_ _ z=>by rw[b7] at z;cases z) λ_ z=>by rw[b7] at z;cases z),b5,b6,b7⟩⟩
  have e0:B5 P w K mg (yc UD.heap (fA K h0)) callerA [] UD (fA K h0):=⟨rfl,hM,λb o e=>Mt e,Nat.le_of_eq (ES _ _),trivial,λb hb=>absurd (show b∈([]:List Addr) from hb) (by simp),UC,.of_eq hg⟩
  refine jU ((F _ hKb (nsK V1)).run callerA [] UD (fA K h0) ⟨[.ref a],[]⟩ [.ref a] [.ref a] _ _ hr e0 (abj UD (.ref a)) (.cons rfl .nil) (hsp _ (E2 ht) hS)) λr s' h=>?_;cases r with
  | error e=>exact (hCX _ e s' h).elim
  | ok fl =>
   cases fl with
   | next=>exact False.elim h
   | brk=>exact False.elim h
   | cont=>exact False.elim h
   | ret u =>
    let⟨v,H',os,bare,un,aej,r',q⟩:=h;have q':v=.bl true:=q;subst q';obtain rfl:u=Value.bool true:=r';have key:∀b o,UD.heap.get? b=some o->s'.heap.get? b=some o\/(isCodeTable UD.heap b/\o=W.tabObj #[]/\∃ps,s'.heap.get? b=some (W.tabObj ps)):=λb o e=>by
     cases q:fA K h0 b with
     | none=>exact .inl (un.keep b o e q (by intro z;exact absurd (show b∈([]:List Addr) from z) (by simp)) (by simp))
     | some u =>
      rcases look b u q with ⟨q',z,rfl⟩|⟨z,z2⟩
      ·let⟨t1,_,c,t3⟩:=tabAt b q' z;let⟨more,m1⟩:=un.Vc.gr b q' #[] q t1;rw[e] at t1;cases t1;exact .inr ⟨(t3.tab e).isCodeTable,rfl,_,m1⟩
      ·rcases hO b with z3|⟨ob,xs,z3⟩
       ·rw[z2] at z3;cases z3
       ·rw[z2] at z3;cases z3;have z4:=un.Vk b ob _ q;let⟨e1,_⟩:=UC b _ q;let⟨e2,_⟩:=aej b _ z4;rw[e] at e1;cases e1;exact .inl e2
    refine⟨rfl,⟨λb o e=>?_,λb o e=>?_⟩,os,bare⟩
    ·rcases key b o e with z|⟨t,rfl,ps,z⟩
     ·exact .inl z
     ·exact .inr (.inl ⟨t,rfl,#[],ps,rfl,by rw[Array.empty_append];exact z⟩)
    ·rcases key b o e with z|⟨_,_,ps,z⟩
     ·exact⟨o,z⟩
     ·exact⟨_,z⟩
 have hoT:∀ (h0:Hp) b q,(iI K).lookup b=some q->eH P w (fA K h0) UD.heap b (.tab q):=λh0 b q e=>⟨#[],(tabAt b q e).1,trivial,λpos v z=>by cases z⟩
 cases hk:K.lookup a with
 | some o =>
  have e:=KX a o hk;rw[ha] at e;cases e;refine core (λ_=>none) (.inr ⟨_,vs.toArray,_,hk,rfl,rfl,rfl,by rw[zH,aei];exact hl,by simpa using rv⟩) (λb u z=>?_) (λb z=>absurd rfl z) (λz=>absurd rfl z) λ_=>.inl rfl;unfold fA at z;split at z
  ·rename_i q hq;cases z;exact hoT _ b q hq
  ·cases z
 | none =>
  refine core (λb=>if b=a then some (.Vh { cls:=.type "list",data:=.seq vs.toArray } (.lst (ns.map V.int))) else none) (.inl (.inr ⟨{ cls:=.type "list",data:=.seq vs.toArray },?_⟩)) (λb u z=>?_) (λb z=>?_) (λ_=>hk) λb=>?_
  ·unfold fA;rw[aT];exact yM rfl
  ·unfold fA at z;split at z
   ·rename_i q hq;cases z;exact hoT _ b q hq
   ·by_cases hb:b=a
    ·replace z:=(yM hb).symm.trans z;cases z;subst hb;exact⟨ha,by rw[zD];exact hl,vs,_,rv,ha⟩
    ·replace z:=(yO hb).symm.trans z;cases z
  ·by_cases hb:b=a
   ·exact hb
   ·exact absurd (yO hb) z
  ·by_cases hb:b=a
   ·exact .inr ⟨_,_,yM hb⟩
   ·exact .inl (yO hb)
def IU{l:W.OpenLaw}{n k:Nat}{q:Program}{loose:List Str}{XP:(Str->Option Value)->Heap->Prop}{YP:World->Heap->Prop}{d:DefRec}{K:Params->W.Frag}{CX:World->Kk}{sp:World->Sp}{x:Str}{ts:List Addr}
  (hn:l.most=some n) (hn2:n<=sizeLine) (hdf:d.params.defaults=[]) (hr:ej k callerA)
  (hY:∀ (w:World) (h:Heap),YP w h->(K w.params).In h/\∀P∈ts,h.get? P=some (W.tabObj #[])) (ht:∀w:World,oD (K w.params) ts=true)
  (F:∀ (w:World) (mg:Str->Option Value) (fa:Addr) (h:Heap),(K w.params).In h->h.Ns mainGlobals mg->mg d.name=some (.ref fa) ->
   ∃fd:FuncData,(∀ (s:Shared) (u:Value),BindsTo s fd ⟨[u],[]⟩ [(x,u)]) /\
    ∀base:Heap,(K w.params).In base->base.Ns mainGlobals mg->nK l.prog w (K w.params) mg base (CX w) k fa fd [x] (sp w))
  (hsp:∀ (w:World) (H:Hp) (a:Addr) (ns:List Int),ns.length<=n->eS (K w.params) H->iM (K w.params) H a (ns.map V.int)->sp w [.ref a] H (λv _=>v=.bl true) λ_ _ _=>False)
  (hCX:∀ (w:World) (H:Hp) (s:Shared) (e:Value) (s':Shared),CX w [] H s (λ_ _ _=>False) e s'->False) :
  W.WalkO q loose XP YP l.row.toRowW d [] (λf vs=>PySem.call f vs):=by
 refine Att.Wi hn hdf λw UG UD mg mb fa o pm cd doc a vs ns G Y ho hd Vd hmg Z7 hints hlen hg=>?_;let⟨KX,hts⟩:=hY w _ Y;let⟨fd,hb,hF⟩:=F w mg fa _ KX G.T.g hmg;have hbm:RE mg UD.heap:=by
  let⟨bm,ob,b1,b2,b3,b4,b5,b6⟩:=G.T.bmain;refine⟨bm,ob,b1,b2,λz=>?_,b3,b4,b5,b6⟩;let⟨o',es,ep,e1,e2,_⟩:=G.T.g;rw[<- z,b3] at e1;cases e1;rw[b6] at e2;cases e2
 exact EY KX G.T.g G.T.b G.T.builtins G.T.nolimit hbm hg (ht w) hts Z7 hints (yD hlen hn2) hr hF hb (λH hT hS=>hsp w H a ns hlen hT hS) λH e s'=>hCX w H UD e s'
end Dl
namespace SP
open PySem PySem.W PyProof.Rows
def run(lt:Nat->Nat->Bool):KasT α->α
 | .ret a=>a
 | .ask i j k=>run lt (k (lt i j))
def iQ(lt:Nat->Nat->Bool)(f:α->KasT β):∀t:KasT α,run lt (t.bind f)=run lt (f (run lt t))
 | .ret a=>rfl
 | .ask i j k=>by
  show run lt ((k (lt i j)).bind f)=run lt (f (run lt (k (lt i j))));exact iQ lt f (k (lt i j))
def PQ(n:Nat):KasT α->Prop
 | .ret _=>True
 | .ask i j k=>i < n/\j < n/\∀b,PQ n (k b)
def wp_run(hc:∀i j C,i < n->j < n->C (lt i j) s->cmp i j C s):∀ (t:KasT α) {Q:α->Shared->Prop},PQ n t->Q (run lt t) s->t.kasWp cmp Q s
 | .ret a,Q,_,h=>h
 | .ask i j k,Q,b,h=>hc i j _ b.1 b.2.1 (wp_run hc (k (lt i j)) (b.2.2 _) h)
def rO(n:Nat)(R:α->Prop):KasT α->Prop
 | .ret a=>R a
 | .ask i j k=>i < n/\j < n/\∀b,rO n R (k b)
def oN:∀ {t:KasT α},rO n R t->(∀a,R a->PQ n (f a))->PQ n (t.bind f)
 | .ret a,b,h=>h a b
 | .ask i j k,b,h=>⟨b.1,b.2.1,λc=>oN (b.2.2 c) h⟩
def jv:∀ {t:KasT α},rO n R t->(∀a,R a->rO n S (f a))->rO n S (t.bind f)
 | .ret a,b,h=>h a b
 | .ask i j k,b,h=>⟨b.1,b.2.1,λc=>jv (b.2.2 c) h⟩
def Bd(n:Nat)(p:Array Nat):Prop:=∀a,p.getD a 0 < n
def Bd.perm(h:Bd n p)(e:q.Perm p):Bd n q:=by
 intro a;rw[qF];cases ha:q[a]? with
 | none=>have:=h p.size;rw[qF] at this;simpa using this
 | some x =>
  have hx:x∈q:=Array.mem_of_getElem? ha;have W8:x∈p:=e.mem_iff.mp hx;let⟨i,hi,rfl⟩:=Array.mem_iff_getElem.mp W8;have:=h i;rw[qF] at this;simpa [hi] using this
def HJ(h:Bd n p):∀f m,rO n (λ_=>True) (kas_asc p f m)
 | 0,m=>trivial
 | f+1,m=>⟨h _,h _,λc=>by
  dsimp only;split
  ·trivial
  ·exact HJ h f (m+1)⟩
def zy(h:Bd n p)(i j:Nat):Bd n (kas_rev p i j):=h.perm (mirror_perm _ _ _ _)
def zj:∀ (f:Nat) {p:Array Nat}(h:Bd n p) (m q:Nat),rO n (λr=>Bd n r.1) (kas_desc f p m q)
 | 0,p,h,m,q=>h
 | f+1,p,h,m,q=>⟨h _,h _,λc=>by
  dsimp only;split
  ·split
   ·exact zj f (zy h _ _) (m+1) 0
   ·exact zj f h (m+1) 0
  ·exact⟨h _,h _,λd=>by
    dsimp only;split
    ·exact h
    ·exact zj f h (m+1) (q+1)⟩⟩
def EG(h:Bd n p)(m nrem:Nat):rO n (λr=>Bd n r.2) (kas_tail3 m nrem p):=jv (HJ (zy h 0 m) _ _) λ_ _=>zy h 0 m
def rL(h:Bd n p)(m nrem:Nat):rO n (λr=>Bd n r.2) (kas_descPart m nrem p):=jv (zj _ h _ _) λr hr=>by
 split
 ·exact EG (zy hr _ _) _ _
 ·exact EG hr _ _
def LU(h:Bd n p)(nrem:Nat):rO n (λr=>Bd n r.2) (kas_count nrem p):=jv (HJ h _ _) λm _=>by
 split
 ·exact h
 ·split
  ·exact⟨h _,h _,λc=>by
    dsimp only;split
    ·exact h
    ·exact rL (zy h _ _) _ _⟩
  ·exact rL h _ _
def v8(h:Bd n p)(k:Nat):∀f l r,rO n (λ_=>True) (kas_place p k f l r)
 | 0,l,r=>trivial
 | f+1,l,r=>by
  unfold kas_place;split
  ·trivial
  ·exact⟨h _,h _,λc=>by
    dsimp only;split
    ·exact v8 h k f _ _
    ·exact v8 h k f _ _⟩
def MU:∀ (f:Nat) {p:Array Nat}(h:Bd n p) (k:Nat),PQ n (kas_bin f p k)
 | 0,p,h,k=>trivial
 | f+1,p,h,k=>oN (v8 h k _ _ _) λl _=>MU f (h.perm (bubble_perm _ _ _)) (k+1)
def GU(h1:1<=n):PQ n (kas_sort n):=by
 have h:Bd n (List.toArray (List.range n)):=λa=>by
  rw[qF];by_cases ha:a < n
  ·simp[ha]
  ·simp[ha];lia
 refine oN (LU h n) λr hr=>?_;split
 ·exact MU _ hr _
 ·trivial
section
variable (z:Nat->Int)
def Z(p:Array Nat)(a:Nat):Int:=z (p.getD a 0)
def eM:Nat->Nat->Bool:=λi j=>decide (z i < z j)
def nV(h:p[a]?=q[b]?):Z z p a=Z z q b:=by
 unfold Z;rw[qF,qF,h]
def HB(hj:j<=p.size)(k:Nat):Z z (kas_rev p i j) k=if i<=k/\k < j then Z z p (i+j - 1 - k) else Z z p k:=by
 have e:=getElem?_mirror_all (xs:=p) (i:=i) hj k;unfold kas_rev;by_cases h1:i<=k/\k < j
 ·rw[yM h1] at e ⊢;exact nV z e
 ·rw[yO h1] at e ⊢;exact nV z e
def Hs(hs:src < p.size)(hd:d<=src)(k:Nat):Z z (bubble p src d) k=if k=src - d then Z z p src else if src - d < k/\k<=src then Z z p (k - 1) else Z z p k:=by
 have e:=getElem?_bubble hs d hd k;by_cases h1:k=src - d
 ·rw[yM h1] at e ⊢;exact nV z e
 ·rw[yO h1] at e ⊢;by_cases h2:src - d < k/\k<=src
  ·rw[yM h2] at e ⊢;exact nV z e
  ·rw[yO h2] at e ⊢;exact nV z e
def Up(p:Array Nat)(n:Nat):Prop:=∀a b,a<=b->b < n->Z z p a<=Z z p b
def Dn(p:Array Nat)(n:Nat):Prop:=∀a b,a<=b->b < n->Z z p b<=Z z p a
variable {z}
def Kl(h:Up z p n)(hn:1<=n)(h1:Z z p (n - 1)<=Z z p n):Up z p (n+1):=by
 intro a b Vz hb;by_cases hbn:b < n
 ·exact h a b Vz hbn
 ·have e:b=n:=by lia
  subst e;by_cases ha:a=b
  ·subst ha;exact qB _
  ·exact jW (h a (b - 1) (by lia) (by lia)) h1
def Sh:∀ (f n:Nat),1<=n->Up z p n->n<=run (eM z) (kas_asc p f n)/\run (eM z) (kas_asc p f n)<=n+f/\Up z p (run (eM z) (kas_asc p f n))/\(run (eM z) (kas_asc p f n) < n+f->Z z p (run (eM z) (kas_asc p f n)) < Z z p (run (eM z) (kas_asc p f n) - 1))
 | 0,n,hn,h=>⟨yN _,yN _,h,λq=>absurd q (qG _)⟩
 | f+1,n,hn,h=>by
  unfold kas_asc;show n<=run (eM z) (if eM z (p.getD n 0) (p.getD (n - 1) 0)=true then .ret n else kas_asc p f (n+1))/\run (eM z) (if eM z (p.getD n 0) (p.getD (n - 1) 0)=true then .ret n else kas_asc p f (n+1))<=n+(f+1)/\Up z p (run (eM z) (if eM z (p.getD n 0) (p.getD (n - 1) 0)=true then .ret n else kas_asc p f (n+1)))/\(run (eM z) (if eM z (p.getD n 0) (p.getD (n - 1) 0)=true then .ret n else kas_asc p f (n+1)) < n+(f+1)->Z z p (run (eM z) (if eM z (p.getD n 0) (p.getD (n - 1) 0)=true then .ret n else kas_asc p f (n+1))) < Z z p (run (eM z) (if eM z (p.getD n 0) (p.getD (n - 1) 0)=true then .ret n else kas_asc p f (n+1)) - 1))
  by_cases hc:eM z (p.getD n 0) (p.getD (n - 1) 0)=true
  ·rw[yM hc];exact⟨yN _,jX _ _,h,λ_=>yR hc⟩
  ·rw[yO hc];have h1:Z z p (n - 1)<=Z z p n:=by
    have:¬ (Z z p n < Z z p (n - 1)):=λq=>hc (yA q);lia
   let⟨a,b,c,d⟩:=Sh f (n+1) (by lia) (Kl h hn h1);exact⟨by lia,by lia,c,λq=>d (by lia)⟩
def Ci(hj:j<=p.size)(h:∀a b,i<=a->a < j->i<=b->b < j->Z z p a=Z z p b)(k:Nat):Z z (kas_rev p i j) k=Z z p k:=by
 rw[HB z hj];split
 ·rename_i hk;exact h _ _ (by lia) (by lia) hk.1 hk.2
 ·rfl
def HK(e:∀k,Z z q k=Z z p k)(h:Dn z p n):Dn z q n:=λa b Vz hb=>by rw[e,e];exact h a b Vz hb
def OT(hn:n<=p.size)(h:Dn z p n):Up z (kas_rev p 0 n) n:=by
 intro a b Vz hb;rw[HB z hn,HB z hn,yM ⟨xX _,by lia⟩,yM ⟨xX _,hb⟩];exact h _ _ (by lia) (by lia)
def nO(p:Array Nat)(i j:Nat):(kas_rev p i j).size=p.size:=mirror_size _ _ _ _
def oH(p:Array Nat)(i j:Nat):(kas_rev p i j).Perm p:=mirror_perm _ _ _ _
structure N7(z:Nat->Int)(US p:Array Nat)(n q nrem:Nat):Prop where
 perm:p.Perm US
 size:p.size=US.size
 le:n<=nrem
 qn:q+1<=n
 dn:Dn z p n
 eq:∀a b,n - (q+1)<=a->a < n->n - (q+1)<=b->b < n->Z z p a=Z z p b
def KC(hz:nrem<=US.size):∀ (f:Nat) (p:Array Nat) (n q:Nat),n+f<=nrem->N7 z US p n q nrem ->
  let r:=run (eM z) (kas_desc f p n q);N7 z US r.1 r.2.1 r.2.2 nrem
 | 0,p,n,q,hn,h=>h
 | f+1,p,n,q,hn,h=>by
  intro r;have hr:r=run (eM z) (if eM z (p.getD n 0) (p.getD (n - 1) 0)=true then (if q > 0 then kas_desc f (kas_rev p (n - (q+1)) n) (n+1) 0 else kas_desc f p (n+1) 0)
   else .ask (p.getD (n - 1) 0) (p.getD n 0) λd=>if d=true then .ret (p,n,q) else kas_desc f p (n+1) (q+1)):=rfl
  have hq:=h.qn;by_cases hc:eM z (p.getD n 0) (p.getD (n - 1) 0)=true
  ·rw[yM hc] at hr;have UQ:Z z p n < Z z p (n - 1):=yR hc;have step:∀p':Array Nat,p'.Perm US->p'.size=US.size->(∀k,Z z p' k=Z z p k)->N7 z US p' (n+1) 0 nrem:=λp' a1 a2 a3=>by
    refine⟨a1,a2,by lia,by lia,λa b Vz hb=>?_,λa b h1 h2 h3 h4=>by rw[show a=b by lia]⟩;rw[a3,a3];by_cases hbn:b < n
    ·exact h.dn a b Vz hbn
    ·have e:b=n:=by lia
     subst e;by_cases ha:a=b
     ·subst ha;exact qB _
     ·exact jW (Int.le_of_lt UQ) (h.dn a (b - 1) (by lia) (by lia))
   by_cases hq0:q > 0
   ·rw[yM hq0] at hr;rw[hr];exact KC hz f _ (n+1) 0 (by lia) (step _ ((oH _ _ _).trans h.perm) (by rw[nO,h.size]) (Ci (by rw[h.size];lia) h.eq))
   ·rw[yO hq0] at hr;rw[hr];exact KC hz f p (n+1) 0 (by lia) (step p h.perm h.size λ_=>rfl)
  ·rw[yO hc] at hr;have YO:Z z p (n - 1)<=Z z p n:=by
    have:¬ (Z z p n < Z z p (n - 1)):=λq=>hc (yA q);lia
   have Vr:r=run (eM z) (if eM z (p.getD (n - 1) 0) (p.getD n 0)=true then .ret (p,n,q) else kas_desc f p (n+1) (q+1)):=hr;by_cases hd:eM z (p.getD (n - 1) 0) (p.getD n 0)=true
   ·rw[yM hd] at Vr;rw[Vr];exact h
   ·rw[yO hd] at Vr;rw[Vr];have heq:Z z p n=Z z p (n - 1):=by
     have:¬ (Z z p (n - 1) < Z z p n):=λq=>hd (yA q);lia
    refine KC hz f p (n+1) (q+1) (by lia) ⟨h.perm,h.size,by lia,by lia,λa b Vz hb=>?_,λa b h1 h2 h3 h4=>?_⟩
    ·by_cases hbn:b < n
     ·exact h.dn a b Vz hbn
     ·have e:b=n:=by lia
      subst e;by_cases ha:a=b
      ·subst ha;exact qB _
      ·rw[heq];exact h.dn a (b - 1) (by lia) (by lia)
    ·have key:∀c,n+1 - (q+1+1)<=c->c < n+1->Z z p c=Z z p (n - 1):=λc c1 c2=>by
      by_cases hcn:c < n
      ·exact h.eq c (n - 1) (by lia) hcn (by lia) (by lia)
      ·have e:c=n:=by lia
       subst e;exact heq
     rw[key a h1 h2,key b h3 h4]
structure Rv(z:Nat->Int)(US:Array Nat)(nrem:Nat)(r:Nat×Array Nat):Prop where
 perm:r.2.Perm US
 size:r.2.size=US.size
 ge:1<=r.1
 le:r.1<=nrem
 up:Up z r.2 r.1
def tail3(hz:nrem<=US.size)(h1:1<=n)(hn:n<=nrem)(hp:p.Perm US)(hs:p.size=US.size)(hd:Dn z p n):Rv z US nrem (run (eM z) (kas_tail3 n nrem p)):=by
 unfold kas_tail3;rw[iQ];let⟨a,b,c,_⟩:=Sh (nrem - n) n h1 (OT (by lia) hd);exact⟨(oH _ _ _).trans hp,by show (kas_rev p 0 n).size=_;rw[nO,hs],by show 1<=run _ (kas_asc _ _ _);lia,by show run _ (kas_asc _ _ _)<=nrem;lia,c⟩
def descPart(hz:nrem<=US.size)(h1:1<=n)(hn:n < nrem)(hp:p.Perm US)(hs:p.size=US.size)(hd:Dn z p n)(UQ:Z z p n<=Z z p (n - 1)):Rv z US nrem (run (eM z) (kas_descPart n nrem p)):=by
 unfold kas_descPart;rw[iQ];have D:=KC (z:=z) hz (nrem - (n+1)) p (n+1) 0 (by lia) ⟨hp,hs,by lia,by lia,λa b Vz hb=>by
  by_cases hbn:b < n
  ·exact hd a b Vz hbn
  ·have e:b=n:=by lia
   subst e;by_cases ha:a=b
   ·subst ha;exact qB _
   ·exact jW UQ (hd a (b - 1) (by lia) (by lia)),λa b h1 h2 h3 h4=>by rw[show a=b by lia]⟩
 dsimp only at D;generalize run (eM z) (kas_desc (nrem - (n+1)) p (n+1) 0)=r at D;have hq:=D.qn;split
 ·exact tail3 hz (by lia) D.le ((oH _ _ _).trans D.perm) (by rw[nO,D.size]) (HK (Ci (by have:=D.size;have:=D.le;lia) D.eq) D.dn)
 ·exact tail3 hz (by lia) D.le D.perm D.size D.dn
def count(hz:nrem<=p.size)(h1:1<=nrem):Rv z p nrem (run (eM z) (kas_count nrem p)):=by
 unfold kas_count;rw[iQ];let⟨a,b,c,d⟩:=Sh (z:=z) (p:=p) (nrem - 1) 1 (yN _) (λx y hxy hy=>by rw[show x=y by lia];exact qB _);generalize run (eM z) (kas_asc p (nrem - 1) 1)=n at a b c d;split
 ·exact⟨Array.Perm.refl _,rfl,a,by show n<=nrem;lia,c⟩
 ·rename_i UN;have UQ:n < nrem:=by
   have:n≠nrem:=λe=>UN (by simp[e]);lia
  have hd:=d (by lia);split
  ·rename_i hn1;show Rv z p nrem (run (eM z) (if eM z (p.getD 0 0) (p.getD (n - 1) 0)=true then .ret (n,p) else kas_descPart n nrem (kas_rev p 0 n)));by_cases hc:eM z (p.getD 0 0) (p.getD (n - 1) 0)=true
   ·rw[yM hc];exact⟨Array.Perm.refl _,rfl,a,by show n<=nrem;lia,c⟩
   ·rw[yO hc];have YO:Z z p (n - 1)<=Z z p 0:=by
     have:¬ (Z z p 0 < Z z p (n - 1)):=λq=>hc (yA q);lia
    have all:∀x,x < n->Z z p x=Z z p 0:=λx hx=>by
     have e1:=c 0 x (xX _) hx;have e2:=c x (n - 1) (by lia) (by lia);lia
    have same:=Ci (z:=z) (p:=p) (i:=0) (j:=n) (by lia) λx y _ hx _ hy=>by rw[all x hx,all y hy]
    refine descPart hz (by lia) UQ (oH _ _ _) (by rw[nO]) (λx y hxy hy=>?_) ?_
    ·rw[same,same,all x (by lia),all y hy];exact qB _
    ·rw[same,same];lia
  ·exact descPart hz (by lia) UQ (Array.Perm.refl _) rfl (λx y hxy hy=>by rw[show x=y by lia];exact qB _) (by lia)
def place(hu:Up z p k):∀ (f l r:Nat),r - l<=f->l<=r->r<=k->(∀a,a < l->Z z p a<=Z z p k)->(∀a,r<=a->a < k->Z z p k<=Z z p a) ->
  let m:=run (eM z) (kas_place p k f l r);m<=k/\(∀a,a < m->Z z p a<=Z z p k)/\(∀a,m<=a->a < k->Z z p k<=Z z p a)
 | 0,l,r,hf,hl,hr,h1,h2=>by
  intro m;have e:l=r:=by lia
  subst e;exact⟨hr,h1,h2⟩
 | f+1,l,r,hf,hl,hr,h1,h2=>by
  intro m;have hm:m=run (eM z) (if l >= r then .ret l else .ask (p.getD k 0) (p.getD ((l+r) / 2) 0) λc=>if c=true then kas_place p k f l ((l+r) / 2) else kas_place p k f ((l+r) / 2+1) r):=rfl;by_cases hlr:l >= r
  ·rw[yM hlr] at hm;rw[hm];have e:l=r:=by lia
   subst e;exact⟨hr,h1,h2⟩
  ·rw[yO hlr] at hm;have VP:m=run (eM z) (if eM z (p.getD k 0) (p.getD ((l+r) / 2) 0)=true then kas_place p k f l ((l+r) / 2) else kas_place p k f ((l+r) / 2+1) r):=hm;by_cases hc:eM z (p.getD k 0) (p.getD ((l+r) / 2) 0)=true
   ·rw[yM hc] at VP;rw[VP];have UQ:Z z p k < Z z p ((l+r) / 2):=yR hc;exact place hu f l ((l+r) / 2) (by lia) (by lia) (by lia) h1 λa ha hak=>jW (Int.le_of_lt UQ) (hu _ a ha hak)
   ·rw[yO hc] at VP;rw[VP];have YO:Z z p ((l+r) / 2)<=Z z p k:=by
     have:¬ (Z z p k < Z z p ((l+r) / 2)):=λq=>hc (yA q);lia
    exact place hu f ((l+r) / 2+1) r (by lia) (by lia) hr (λa ha=>jW (hu a ((l+r) / 2) (by lia) (by lia)) YO) h2
def bin:∀ (f:Nat) (p:Array Nat) (k:Nat),p.Perm US->p.size=US.size->k+f<=US.size->Up z p k ->
  (run (eM z) (kas_bin f p k)).Perm US/\(run (eM z) (kas_bin f p k)).size=US.size/\Up z (run (eM z) (kas_bin f p k)) (k+f)
 | 0,p,k,hp,hs,hk,hu=>⟨hp,hs,hu⟩
 | f+1,p,k,hp,hs,hk,hu=>by
  unfold kas_bin;rw[iQ];have P:=place hu k 0 k (by lia) (by lia) (yN _) (λa ha=>absurd ha (wD _)) λa ha hak=>absurd ha (by lia);dsimp only at P;generalize run (eM z) (kas_place p k k 0 k)=l at P;let⟨p1,p2,p3⟩:=P;have zb:=Hs z (p:=p) (src:=k) (d:=k - l) (by lia) (by lia);have e:k - (k - l)=l:=by lia
  rw[e] at zb;let⟨q1,q2,q3⟩:=bin f (bubble p k (k - l)) (k+1) ((bubble_perm _ _ _).trans hp) (by rw[bubble_size,hs]) (by lia) λa b Vz hb=>by
   rw[zb,zb];by_cases ha1:a=l
   ·rw[yM ha1];by_cases hb1:b=l
    ·rw[yM hb1];exact qB _
    ·rw[yO hb1];rw[yM (by lia)];exact p3 _ (by lia) (by lia)
   ·rw[yO ha1];by_cases hb1:b=l
    ·rw[yM hb1,yO (by lia)];exact p2 a (by lia)
    ·rw[yO hb1];by_cases ha2:l < a/\a<=k
     ·rw[yM ha2,yM (by lia)];exact hu _ _ (by lia) (by lia)
     ·rw[yO ha2];by_cases hb2:l < b/\b<=k
      ·rw[yM hb2];exact hu _ _ (by lia) (by lia)
      ·rw[yO hb2];exact hu _ _ Vz (by lia)
  exact⟨q1,q2,by rw[show k+(f+1)=k+1+f by lia];exact q3⟩
def ie(h1:1<=n):(run (eM z) (kas_sort n)).toList.Perm (List.range n)/\((run (eM z) (kas_sort n)).toList.map z).Pairwise (·<=·):=by
 have WU:(List.toArray (List.range n)).size=n:=by simp
 have C:=count (z:=z) (p:=List.toArray (List.range n)) (nrem:=n) (by lia) h1;have fin:∀p:Array Nat,p.Perm (List.toArray (List.range n))->p.size=n->Up z p n->p.toList.Perm (List.range n)/\(p.toList.map z).Pairwise (·<=·):=λp a b c=>by
  refine⟨by have:=a.toList;simpa using this,?_⟩;rw[List.pairwise_iff_getElem];intro i j hi hj UU;have U5:i < n:=by simpa [b] using hi
  have Wt:j < n:=by simpa [b] using hj
  have:=c i j (jV UU) Wt;unfold Z at this;have e1:p.getD i 0=p[i]:=by simp[Array.getD,b,U5]
  have e2:p.getD j 0=p[j]:=by simp[Array.getD,b,Wt]
  rw[e1,e2] at this;simpa using this
 unfold kas_sort;rw[iQ];generalize run (eM z) (kas_count n (List.toArray (List.range n)))=r at C;let⟨k,p⟩:=r;have hs:=C.size;rw[WU] at hs;split
 ·rename_i UQ;have YO:=C.ge;have e:max k 1=k:=by have:1<=k:=YO;lia
  rw[e];let⟨q1,q2,q3⟩:=bin (z:=z) (n - k) p k C.perm C.size (by rw[WU];have:k < n:=UQ;lia) C.up;refine fin _ q1 (by rw[q2,WU]) ?_;rw[show k+(n - k)=n by have:k < n:=UQ;lia] at q3;exact q3
 ·rename_i aek;have hle:=C.le;have e:k=n:=by have h3:k<=n:=hle;have h4:¬ k < n:=aek;lia
  subst e;exact fin p C.perm hs C.up
end
end SP
namespace WD
open PySem PySem.W PySem.Calls PyProof.Rows
def UO(z:Nat->Int)(vs:List Value):List Value:=if vs.length < 2 then vs else (SP.run (SP.eM z) (kas_sort vs.length)).toList.map λi=>vs.getD i Value.none
def Wj(z:Nat->Int)(vs:List Value):(UO z vs).length=vs.length:=by
 unfold UO;split
 ·rfl
 ·rename_i h;have:=(SP.ie (z:=z) (n:=vs.length) (by lia)).1.length_eq;simpa using this
def WE{P:PySem.Fin->Shared->Prop}(ho:s.heap.get? a=some (seqObj "list" vs.toArray n))(Wl:vs.length < 64)(z:Nat->Int)(κ:SortKind)
  (hk:2<=vs.length->∀h':Heap,(∀b o,b≠a->s.heap.get? b=some o->h'.get? b=some o)->∀Q':SortKind->Shared->Prop,Q' κ { s with heap:=h' }->wpAny (model prog w) A (keyKind' vs.toArray) Q' (λ_ _=>False) { s with heap:=h' })
  (UQ:2<=vs.length->∀h':Heap,(∀b o,b≠a->s.heap.get? b=some o->h'.get? b=some o)->∀i j C,i < vs.length->j < vs.length->C (SP.eM z i j) { s with heap:=h' }->kas_ask prog w A κ vs i j C { s with heap:=h' })
  (h:∀ (h':Heap) (c:Nat),(∀b o,b≠a->s.heap.get? b=some o->h'.get? b=some o)->h'.get? a=some (seqObj "list" (UO z vs).toArray c)->P (.done (.ret .none)) { s with heap:=h' }) :
  wpAny (model prog w) A (Builtin.«list.sort» ⟨[.ref a],[]⟩) P E s:=by
 rw[list_sort_plain];have ha:a < s.heap.objs.size:=zY ho;have WG:vs.length<=sizeLine:=by rw[qX];lia
 refine zV (vW ho rfl (zV (kF ho rfl ?_ (by simpa using WG) (xX _))));obtain⟨e1,YQ⟩:∃e,(s.heap.update a (Obj.mapSeq λ_=>(#[]:Array Value))).get? a=some (seqObj "list" #[] e):=⟨_,kJ ho λ_=>#[]⟩
 have kp1:∀b o,b≠a->s.heap.get? b=some o->(s.heap.update a (Obj.mapSeq λ_=>(#[]:Array Value))).get? b=some o:=λb o hb e=>(xP _ _ (jP hb)).trans e;refine zV (seqEpoch_at YQ rfl (zV (wpAny_newTuple ?_ (by simpa using WG))));refine zV (vA (xZ ?_) (xX _));have YR:(((s.heap.update a (Obj.mapSeq λ_=>(#[]:Array Value))).push (seqObj "tuple" vs.toArray 0)).push (seqObj "list" #[] 0)).get? a=some (seqObj "list" #[] e1):=zU _ (zU _ YQ);have kp3:∀b o,b≠a->s.heap.get? b=some o->(((s.heap.update a (Obj.mapSeq λ_=>(#[]:Array Value))).push (seqObj "tuple" vs.toArray 0)).push (seqObj "list" #[] 0)).get? b=some o:=λb o hb e=>zU _ (zU _ (kp1 b o hb e));show wpAny _ A _ P E { s with heap:=((s.heap.update a (Obj.mapSeq λ_=>(#[]:Array Value))).push (seqObj "tuple" vs.toArray 0)).push (seqObj "list" #[] 0) };generalize ((s.heap.update a (Obj.mapSeq λ_=>(#[]:Array Value))).push (seqObj "tuple" vs.toArray 0)).push (seqObj "list" #[] 0)=h3 at YR kp3;clear YQ kp1;dsimp only;have fin:∀Vf:SortSt,(arrOf Vf).map (·.2)=(UO z vs).toArray->failedOf Vf=none ->
   wpAny (model prog w) A (do
    let sorted:=(arrOf Vf).map (·.2);let touched:=(<- seqEpoch a) != e1
    Builtin.List.listUpdate (.ref a) λ_=>sorted
    if let some e:=failedOf Vf then rule "list.sort.comparison-raised";throw e
    if touched then rule "list.sort.modified";raiseError "ValueError" "list modified during sort"
    ret .none) P E { s with heap:=h3 }:=λVf h1 h2=>by
  dsimp only;rw[h1,h2];refine zV (seqEpoch_at YR rfl ?_);refine zV (kF YR rfl ?_ (xX _) (by show (UO z vs).toArray.size<=_;rw[zH,Wj];lia));obtain⟨c,hc⟩:∃c,(h3.update a (Obj.mapSeq λ_=>(UO z vs).toArray)).get? a=some (seqObj "list" (UO z vs).toArray c):=⟨_,kJ YR λ_=>(UO z vs).toArray⟩
  have q:=h _ c (λb o hb e=>(xP _ _ (jP hb)).trans (kp3 b o hb e)) hc;simp?[bne_self_eq_false,yP,qS];exact zW q
 by_cases h2:vs.toArray.size < 2
 ·rw[yM h2,yM h2];refine zV (zW ?_);rw[StateT.run_pure];refine zV (zW (fin _ ?_ rfl));have X2:vs.length < 2:=by simpa using h2
  unfold UO;rw[yM X2];show ((vs.toArray.zip vs.toArray).map (·.2))=vs.toArray;apply Array.toList_inj.mp;simp?[Array.toList_map,Array.toList_zip];exact List.map_snd_zip (yN _)
 ·rw[yO h2,yO h2];have X2:2<=vs.length:=by
   have:¬ vs.length < 2:=by simpa using h2
   lia
  refine zV (xB (hk X2 h3 kp3 (λκ' s'=>κ'=κ/\s'={ s with heap:=h3 }) ⟨rfl,rfl⟩) (λκ' s' hs=>?_) λ_ _ x=>x.elim);let⟨rfl,rfl⟩:=hs;refine zV (xB (kat_run (Q:=λVf s'=>s'={ s with heap:=h3 }/\(arrOf Vf).map (·.2)=(UO z vs).toArray/\failedOf Vf=none) (G:=λp s'=>s'={ s with heap:=h3 }/\p=SP.run (SP.eM z) (kas_sort vs.length))
   rfl X2 Wl (λp Vf s' a1 a2 a3 a4=>⟨a4.1,?_,a3⟩) (SP.wp_run (UQ X2 h3 kp3) (kas_sort vs.length) (SP.GU (by lia)) ⟨rfl,rfl⟩)) ?_ λ_ _ e=>e)
  ·rw[kat_snds rfl a2,a4.2];unfold UO;rw[yO (by lia)]
  ·rintro⟨⟨⟩,Vf⟩ s' ⟨hs,h4,h5⟩;subst hs;exact fin Vf h4 h5
def Ym(h:Heap)(l:Addr)(vs:List Value):Prop:=∃ (o:Obj) (T:String) (n:Nat),(T="list"\/T="tuple")/\h.get? l=some o/\o.cls=.type T/\o.data=.seq vs.toArray n
def XD(hl:Ym s.heap l vs)
  (h:Q vs { s with heap:=(s.heap.push (seqObj "list" #[] 0)).update s.heap.objs.size (Obj.mapSeq (·++vs.toArray)) }) (WU:vs.length<=sizeLine):wpAny (model prog w) A (collect (.ref l)) Q E s:=by
 let⟨o,T,n,hT,ho,hc,hd⟩:=hl;unfold collect;refine zV (wpAny_runValue (kK entry_proto_collect' ?_));show wpAny _ _ (do again (.builtin "list.__iadd__" ⟨[<- newList [],.ref l],[]⟩)) _ _ s;refine zV (vA (zW ⟨Zh _ (by decide +kernel),kK entry_list_iadd' ?_⟩));show wpAny _ _ (Builtin.List.listExtendWith (.ref s.heap.objs.size) (.ref l) (.ref s.heap.objs.size)) _ _ { s with heap:=s.heap.push (seqObj "list" #[] 0) };unfold Builtin.List.listExtendWith;have VX:(s.heap.push (seqObj "list" #[] 0)).get? l=some o:=zU _ ho;refine zV (Zj (T:=T) ⟨o,VX,hc⟩ ?_);rw[yM (by rcases hT with rfl|rfl<;>simp)];refine zV (vW VX hd (zV (vW (xs:=#[]) (n:=0) (zX _ rfl) rfl ?_)));rw[yO (by simp)];refine zV (kF (xs:=#[]) (n:=0) (zX _ rfl) rfl ?_ (xX _) (by show (#[]++vs.toArray).size<=sizeLine+1;simp?[Array.size_append,zH,xN];lia));refine zW ?_;refine zV (wpAny_load (kJ (zX _ rfl) _) ?_);show wpAny _ _ (pure ((#[]:Array Value)++vs.toArray).toList) Q E _;rw[show ((#[]:Array Value)++vs.toArray).toList=vs by simp];exact zW h
def Yn{s:Shared}{Q:Value->Shared->Prop}(hl:Ym s.heap l vs)(Wl:vs.length < 64)(z:Nat->Int)(κ:SortKind)
  (hk:2<=vs.length->∀h':Heap,(∀b o,s.heap.get? b=some o->h'.get? b=some o)->∀Q':SortKind->Shared->Prop,Q' κ { s with heap:=h' }->wpAny (model prog w) A.in1.in1 (keyKind' vs.toArray) Q' (λ_ _=>False) { s with heap:=h' })
  (UQ:2<=vs.length->∀h':Heap,(∀b o,s.heap.get? b=some o->h'.get? b=some o)->∀i j C,i < vs.length->j < vs.length->C (SP.eM z i j) { s with heap:=h' }->kas_ask prog w A.in1.in1 κ vs i j C { s with heap:=h' })
  (h:∀ (h':Heap) (D:Addr) (c:Nat),(∀b o,s.heap.get? b=some o->h'.get? b=some o)->s.heap.objs.size<=D->h'.get? D=some (seqObj "list" (UO z vs).toArray c)->Q (.ref D) { s with heap:=h' }) :
  wpAny (model prog w) A (call (.builtin "sorted") [.ref l]) Q E s:=by
 have WG:vs.length<=sizeLine:=by rw[qX];lia
 refine Calls.call_function_entry kind_sorted plain_sorted entry_sorted (args_sorted1 _) ?_;unfold Builtin.«sorted»;refine zV (m:=checkCount "sorted" 1 1 _) (zW (zV (XD hl ?_ WG)));refine zV (vA ?_ (by simpa using WG));have WU:((s.heap.push (seqObj "list" #[] 0)).update s.heap.objs.size (Obj.mapSeq (·++vs.toArray))).objs.size=s.heap.objs.size+1:=by rw[Heap.size_update,size_push']
 have kp:∀b o,s.heap.get? b=some o->(((s.heap.push (seqObj "list" #[] 0)).update s.heap.objs.size (Obj.mapSeq (·++vs.toArray))).push (seqObj "list" vs.toArray 0)).get? b=some o:=λb o e =>
  zU _ ((xP _ _ (jK (zY e))).trans (zU _ e))
 have Yo:(((s.heap.push (seqObj "list" #[] 0)).update s.heap.objs.size (Obj.mapSeq (·++vs.toArray))).push (seqObj "list" vs.toArray 0)).get? (s.heap.objs.size+1)=some (seqObj "list" vs.toArray 0):=by
  rw[<- WU];exact zX _ rfl
 show wpAny _ _ _ _ _ { s with heap:=((s.heap.push (seqObj "list" #[] 0)).update s.heap.objs.size (Obj.mapSeq (·++vs.toArray))).push (seqObj "list" vs.toArray 0) };rw[WU];generalize ((s.heap.push (seqObj "list" #[] 0)).update s.heap.objs.size (Obj.mapSeq (·++vs.toArray))).push (seqObj "list" vs.toArray 0)=h1 at kp Yo;have kk:∀h':Heap,(∀b o,b≠s.heap.objs.size+1->h1.get? b=some o->h'.get? b=some o)->∀b o,s.heap.get? b=some o->h'.get? b=some o:=λh' q b o e=>q b o (yS (jQ (zY e))) (kp b o e);refine zV (xZ (qY slot_list_sort ⟨_,Yo,rfl⟩ entry_list_sort (WE Yo Wl z κ (λa h' q=>hk a h' (kk h' q)) (λa h' q=>UQ a h' (kk h' q)) λh' c q e=>⟨_,rfl,?_⟩) (args_list_sort _)));exact zW ⟨_,rfl,h h' _ c (kk h' q) (by lia) e⟩
end WD
namespace Dl
open PySem L2 PySem.Spec PyProof.Rows
def wg(i:Nat)(fz:List Nat)(f:Env->Option (List D)):au->Option Out:=λρ=>(f (bJ (hand fz 0 ρ))).bind λus=>oE i (λds=>if ds.length+us.length<=sizeLine then some (ds++us) else none) (hand fz 0 ρ)
def Fv(i:Nat)(fz:List Nat)(hN:X.N[i]?=some x)(hv:Kr X.env.scope x)(h:DF X e f)(hd:(x == ("__debug__":Str))=false:=by decide)(Vd:(x == ("__classdict__":Str))=false:=by decide)
  (VC:((backTo cpos (starEach [e] X.env)).all (λx=>!x.1)&&(backToKw cpos (keywordEach [] X.env)).all (λx=>x.1.isSome)&&decide ([e].length+([]:List Keyword).length+(if ([]:List Keyword).isEmpty then 0 else 1) < 30))=true:=by rfl)
  (UR:(apos.endLine == cpos.line)=true:=by rfl) (hs:starEach [e] X.env=(false,eval e X.env)::starEach [] X.env:=by rfl) :
  DS X Uy Uz (.Expr (.Call (.Attribute (.Name x px) "extend" apos) [e] [] cpos) pos) (wg i fz f) :=
 cq (n6 (sZ qQ PySem.F.slot_list_extend PySem.F.type_list_extend Fn (ll hN hv hd Vd) (bO h dB hs) rfl VC UR hs rfl)) λE σ H ⟨HF,ρ,o,S,hg,q⟩=>by
  let⟨us,h1,hg⟩:=bs hg;let⟨ds,es,h2,h3,rfl⟩:=l4 hg;let⟨UB,s1,S1⟩:=S.hand fz;let⟨a,vs,e1,e2,e3,e5,e4⟩:=S1.own i ds h2;refine⟨.ref a,e1,.inl ⟨rfl,vs,iM.of e2⟩,UB,_,us,S1.gr.fh,S1.Vh,h1,λb ws H' UA G hb hf h' r=>?_⟩;have S2:=S1.grow G;let⟨a',YN,f1,f2,f3,f5,f4⟩:=S2.own i ds h2;rw[e1] at f1;cases f1;split at h3
  ·rename_i hz;cases h3;exact⟨a,b,YN,ws,rfl,rfl,f2,h',by rw[f4.length,r.length];exact hz,q σ _ UA (S2.mut h2 e1 f2 (f4.append r)) (s1.trans G.ff)⟩
  ·cases h3
def EE(ds:List D)(k:Int)(d:D):List D:=let j:=if k < 0 then (k+(ds.length:Int)).toNat else min k.toNat ds.length;ds.take j++d::ds.drop j
def K2:V->List V->Hp->VK->Prop:=λx vs H Q=>∃l xs k y,x=.ref l/\vs=[.int k,y]/\H l=some (.lst xs)/\xs.length < sizeLine/\-(2 ^ 62)<=k/\k < 2 ^ 62 /\
 Q .Ux (upd H l (.lst (xs.take (if k < 0 then (k+(xs.length:Int)).toNat else min k.toNat xs.length)++y::xs.drop (if k < 0 then (k+(xs.length:Int)).toNat else min k.toNat xs.length))))
def FU:Pu X "list.insert" K2:=by
 intro pins s σ H x vs v us Q I rx rv h;let⟨l,xs,k,y,rfl,rfl,hH,hz,k1,k2,q⟩:=h;cases rx;let⟨u1,u2,rfl,⟨t,rfl⟩,ru⟩:=L2.aN.two rv;let⟨z,its,n,r,hl,e⟩:=I.Xu hH;have Wz:¬(!Builtin.List.listFitsIndex k)=true:=by
  have:Builtin.List.listFitsIndex k=true:=by
   unfold Builtin.List.listFitsIndex;simp?[zF,zJ];lia
  rw[this];simp
 refine qZ F.slot_list_insert ⟨_,e,rfl⟩ F.entry_list_insert (F.args_list_insert_3 _ _ _) (AutoListH.list_insert_list_int_val_1 l its.toArray n k t u2 Wz (by rw[zH];lia)) ⟨e,?_⟩;have hlen:its.length=xs.length:=hl.symm;refine⟨.Ux,_,I.Z6 (its':=its.take (if k < 0 then (k+(xs.length:Int)).toNat else min k.toNat xs.length)++u2::its.drop (if k < 0 then (k+(xs.length:Int)).toNat else min k.toNat xs.length)) hH e ?_ ((r.take _).append (.cons ru (r.drop _))) ?_,rfl,q⟩
 ·dsimp only;rw[zH,hlen];apply Array.toList_inj.mp;simp;exact kP (by rw[qK,hlen];exact yN _)
 ·rw[zN,zL,jY,qK];lia
def Gv(i:Nat)(fz:List Nat)(fk f:Env->Option D):au->Option Out:=λρ=>(fk (aG ρ)).bind λkd=>match kd with
 | .int k=>(kh fz f ρ).bind λp=>oE i (λds=>if Bx k=true/\ds.length < sizeLine then some (EE ds k p.1) else none) p.2
 | _=>none
def FL(i:Nat)(fz:List Nat)(hN:X.N[i]?=some x)(hv:Kr X.env.scope x)(hk:DE X e fk)(h:DE X e2 f)(hd:(x == ("__debug__":Str))=false:=by decide)(Vd:(x == ("__classdict__":Str))=false:=by decide)
  (VC:((backTo cpos (starEach [e,e2] X.env)).all (λx=>!x.1)&&(backToKw cpos (keywordEach [] X.env)).all (λx=>x.1.isSome)&&decide ([e,e2].length+([]:List Keyword).length+(if ([]:List Keyword).isEmpty then 0 else 1) < 30))=true:=by rfl)
  (UR:(apos.endLine == cpos.line)=true:=by rfl) (hs:starEach [e,e2] X.env=(false,eval e X.env)::starEach [e2] X.env:=by rfl) (hs2:starEach [e2] X.env=(false,eval e2 X.env)::starEach [] X.env:=by rfl) :
  DS X Uy Uz (.Expr (.Call (.Attribute (.Name x px) "insert" apos) [e,e2] [] cpos) pos) (Gv i fz fk f) :=
 cq (n6 (sZ qQ PySem.F.slot_list_insert PySem.F.type_list_insert FU (ll hN hv hd Vd) (bO hk (bO h dB hs2) hs) rfl VC UR hs (by rw[hs2];rfl))) λE σ H ⟨HF,ρ,o,S,hg,q⟩=>by
  let⟨kd,hkd,hg⟩:=bs hg;cases kd<;>try cases hg
  rename_i k;let⟨⟨d,ρ'⟩,h1,hg⟩:=bs hg;let⟨ds,es,h2,h3,rfl⟩:=l4 hg;have WC:∃ds',ρ[i]?=some (.own ds'):=by
   let⟨d1,_,h1⟩:=bs h1;split at h1
   ·cases h1;exact⟨ds,h2⟩
   ·let⟨d2,_,h1⟩:=ah h1;cases h1;rw[iV] at h2;let⟨s,hs,h2⟩:=ah h2;cases s with
    | Ux=>split at h2<;>cases h2
    | val _=>split at h2<;>cases h2
    | own xs=>exact⟨xs,hs⟩
  let⟨ds',WC⟩:=WC;let⟨a,vs,e1,e2,e3,e5,e4⟩:=S.own i ds' WC;refine⟨.ref a,e1,.inl ⟨rfl,vs,iM.of e2⟩,H,aG ρ,_,.refl _,S.all,hkd,λvk Hk HFk Gk rk=>?_⟩;simp?[Rep] at rk;subst rk;refine o5 (S.step Gk.hh) h1 λv H' UA s1 S' sh r=>?_;let⟨a',YN,f1,f2,f3,f5,f4⟩:=S'.own i ds h2;rw[e1] at f1;cases f1;split at h3
  ·rename_i hz;cases h3;have ok:=hz.1;unfold Bx at ok;rw[zF] at ok;refine⟨a,YN,k,v,rfl,rfl,f2,by rw[f4.length];exact hz.2,yR ok.1,yR ok.2,q σ _ UA (S'.mut h2 e1 f2 ?_) s1⟩;unfold EE;rw[f4.length];exact (f4.take _).append (ax.cons r (f4.drop _))
  ·cases h3
def p9:D->D->Option (List D)
 | .list xs,.list ys=>small (xs++ys)
 | _,_=>none
def Ht(K:W.Frag):R2:=λx y H Q=>∃a b xs ys,x=.ref a/\y=.ref b/\iM K H a xs/\iM K H b ys/\xs.length+ys.length<=sizeLine/\∀p,H p=none->Q (.ref p) (upd H p (.lst (xs++ys)))
def tQ:jj X (binaryOp .Add) (Ht X.K):=by
 intro pins s σ H x y v u Q I rx ry h;let⟨a,b,xs,ys,rfl,rfl,ha,hb,hz,q⟩:=h;cases rx;cases ry;let⟨its,r1,p1,_⟩:=I.list ha;let⟨Vu,r2,p2,_⟩:=I.list hb;let⟨⟨cls,dd,data,sl⟩,ho,hc,n,hd⟩:=id p1.isList;let⟨⟨aa3,dd2,data2,YG⟩,XZ,W5,n2,hd2⟩:=id p2.isList;simp only at hc hd W5 hd2;subst hc hd W5 hd2;refine Zl ⟨_,ho,rfl⟩ ⟨_,XZ,rfl⟩ noFill_list_add seq_list_add PySem.F.slot_list_add PySem.F.entry_list_add (PySem.F.args_list_add_2 _ _) (list_addW a b its.toArray Vu.toArray n n2 dd dd2 sl YG (by rw[zH,zH,<- r1.length,<- r2.length];exact hz)) ⟨ho,XZ,?_⟩;have e:its.toArray++Vu.toArray=(its++Vu).toArray:=by simp
 rw[e];exact⟨.ref s.heap.objs.size,_,I.Yh (t':=s.toks) (r1.append r2) (by rw[zN];exact hz),rfl,q _ I.fresh⟩
def QN(g:D->D->Option (List D))(f1 f2:Env->Option D):Env->Option (List D):=λρ=>(f1 ρ).bind λx=>(f2 ρ).bind λy=>g x y
def Nj(ha:DE X a fa)(hb:DE X b fb):DF X (.BinOp a .Add b pos) (QN p9 fa fb):=bb (C0 tQ ha hb) λσ H Q ⟨HF,ρ,d,sm,eo,hf,q⟩=>by
 let⟨x,hx,hf⟩:=bs hf;let⟨y,hy,hg⟩:=bs hf;refine⟨HF,ρ,x,sm,eo,hx,λv1 H1 UB g1 r1=>⟨UB,ρ,y,g1.fh,eo.mono g1.ff,hy,λv2 H2 UL g2 r2=>?_⟩⟩;have r1:=r1.mono g2.ff;cases x<;>cases y<;>simp?[p9] at hg<;>try cases hg
 rename_i xs ys;let⟨rfl,hz⟩:=e8 hg;simp?[Rep] at r1 r2;let⟨a,vs,rfl,ha,ra⟩:=r1;let⟨b,us,rfl,hb,rb⟩:=r2;have G:=g1.trans g2;exact⟨a,b,vs,us,rfl,rfl,g2.fh.seq ha,g2.fh.seq hb,by rw[ra.length,rb.length,<- zN];exact hz,λp hp=>q p _ _ UL (G.trans (.own G.fh hp)) (G.hh.free hp) (G.fh.free hp) aH (ra.append rb)⟩
def boolsOf:List D->Option (List Bool)
 | []=>some []
 | .bool b::r=>(boolsOf r).map (b::·)
 | _::_=>none
def ju:∀ {ds:List D}{bs:List Bool},boolsOf ds=some bs->ds=bs.map PyData.bool
 | [],bs,h=>by cases h;rfl
 | d::r,bs,h=>by
  cases d<;>simp?[boolsOf] at h<;>try cases h
  let⟨bs',h1,rfl⟩:=ah h;rw[ju h1];rfl
def eZ{K:W.Frag}:∀ {bs:List Bool}{vs:List V},ax K H (bs.map PyData.bool) vs->vs=bs.map V.bl
 | [],vs,h=>h.nil_inv
 | b::bs,vs,h=>by
  let⟨v,r,rfl,a,c⟩:=h.cons_inv;simp?[Rep] at a;rw[a,eZ c];rfl
def mD:∀ {bs:List Bool}{us:List Value},aN (bs.map V.bl) us->us=bs.map Value.bool
 | [],us,h=>by cases h;rfl
 | b::bs,us,h=>by
  cases h with
  | cons r rr=>cases r;rw[mD rr];rfl
def range_all(bs:List Bool):(List.range bs.length).all (λi=>bs.getD i false)=bs.all id:=by
 induction bs with
 | nil=>rfl
 | cons b bs ih=>rw[zL,vY,xV,List.all_map,xV];simpa [Zs] using jE (b&&·) ih
def range_any(bs:List Bool):(List.range bs.length).any (λi=>bs.getD i false)=bs.any id:=by
 induction bs with
 | nil=>rfl
 | cons b bs ih=>rw[zL,vY,vN,Zn,vN];simpa [Zs] using jE (b||·) ih
def CP(hc:X.calm=true):f9 X (.builtin "all") (λxs H Q=>∃ (a:Addr) (bs:List Bool),xs=[.ref a]/\iM X.K H a (bs.map V.bl)/\Q (.bl (bs.all id)) H):=by
 intro pins s σ H xs us Q I r h;let⟨a,bs,rfl,hq,q⟩:=h;let⟨u,rfl,rx⟩:=vals1 r;cases rx;let⟨its,rv,pl,hz⟩:=I.list hq;have hv:=mD rv;subst hv;have hh:X.A.in1.handled=none:=I.ok.hd hc;refine call_all_walk (qM pl.isList ?_);let⟨o,ho,Vp,n,hd⟩:=pl.isList;have UN:a≠s.heap.objs.size:=yS (zY ho);refine⟨_,_,_,_,_,_,λi=>bs.getD i false,rfl,Walks.list hh s.heap.objs.size a UN (bs.map Value.bool).toArray,⟨⟨_,zX _ rfl,rfl,rfl⟩,pl.isList.push _⟩,λi v s' Q' E' hP hQ=>?_,λh' tk kp=>?_⟩
 ·have e:v=Value.bool (bs.getD i false):=by
   have hP:(bs.map Value.bool).toArray[i]?=some v:=hP;rw[wL,zO] at hP;let⟨b,hb,rfl⟩:=ah hP;rw[zG,hb];rfl
  subst e;exact xY hQ
 ·refine⟨.bl (bs.all id),H,?_,?_,q⟩
  ·exact I.kept (t':=tk) λb o' e=>kp b o' (by simp;exact yS (zY e)) (zU _ e)
  ·show Value.bool _=Value.bool _;have:=range_all bs;simp?[zH,zD];rw[this]
def lu:List D->Option D:=λds=>(oneOf ds).bind λd=>match d with
 | .list es=>(boolsOf es).map λbs=>.bool (bs.all id)
 | _=>none
def OM(hc:X.calm=true)(B:p8 X "all" (.builtin "all"))(ha:DA X [e] fs)(he:starEach [e] X.env=(false,eval e X.env)::starEach [] X.env:=by rfl):DE X (.Call (.Name "all" p) [e] [] pos) (bD lu fs) :=
 lE (CP hc) (by
  intro HF H ds vs d Q sm r hg q;let⟨x,hx,hg⟩:=bs hg;rw[gW hx] at r;cases x<;>try cases hg
  let⟨bs,hb,rfl⟩:=ah hg;let⟨v,r',rfl,a,b⟩:=r.cons_inv;rw[b.nil_inv];simp?[Rep] at a;let⟨p,us,rfl,h,rr⟩:=a;rw[ju hb] at rr;have:=eZ rr;subst this;exact⟨p,bs,rfl,sm.seq h,q _ H HF (.refl sm) (by simp[Rep])⟩) B ha (by decide) (by decide) he rfl
abbrev lexLt:=HT.lexLt
def dO:∀a:List Int,lexLt a a=false
 | []=>rfl
 | x::a=>by show HT.lexLt (x::a) (x::a)=false;rw[HT.cm,yM rfl];exact dO a
def e9:∀ {a b c:List Int},lexLt a b=true->lexLt b c=true->lexLt a c=true
 | [],[],_,h,_=>by cases h
 | [],_::_,[],_,h=>by cases h
 | [],_::_,_::_,_,_=>rfl
 | _::_,[],_,h,_=>by cases h
 | _::_,_::_,[],_,h=>by cases h
 | x::a,y::b,z::c,h1,h2=>by
  have h1:HT.lexLt (x::a) (y::b)=true:=h1;have h2:HT.lexLt (y::b) (z::c)=true:=h2;show HT.lexLt (x::a) (z::c)=true;rw[HT.cm] at h1 h2 ⊢;by_cases e1:x=y
  ·rw[yM e1] at h1;by_cases e2:y=z
   ·rw[yM e2] at h2;rw[yM (e1.trans e2)];exact e9 h1 h2
   ·rw[yO e2] at h2;rw[yO (by lia)];have:=yR h2;exact yA (by lia)
  ·rw[yO e1] at h1;have q1:=yR h1;by_cases e2:y=z
   ·rw[yO (by lia)];exact yA (by lia)
   ·rw[yO e2] at h2;have q2:=yR h2;rw[yO (by lia)];exact yA (by lia)
def iT:∀ {a b:List Int},lexLt a b=false->lexLt b a=false->a=b
 | [],[],_,_=>rfl
 | [],_::_,h,_=>by cases h
 | _::_,[],_,h=>by cases h
 | x::a,y::b,h1,h2=>by
  have h1:HT.lexLt (x::a) (y::b)=false:=h1;have h2:HT.lexLt (y::b) (x::a)=false:=h2;rw[HT.cm] at h1 h2;by_cases e:x=y
  ·rw[yM e] at h1;rw[yM e.symm] at h2;rw[e,iT h1 h2]
  ·rw[yO e] at h1;rw[yO (λz=>e z.symm)] at h2;have:=Zd h1;have:=Zd h2;lia
def lexLe(a b:List Int):Bool:=!lexLt b a
def Bm(a b c:List Int)(h1:lexLe a b=true)(h2:lexLe b c=true):lexLe a c=true:=by
 unfold lexLe at *;rw[yQ] at *;cases e:lexLt c a with
 | false=>rfl
 | true =>
  cases e1:lexLt a b with
  | true=>rw[e9 e e1] at h2;cases h2
  | false =>
   have:=iT e1 h1;subst this;rw[e] at h2;cases h2
def Bo(a b:List Int):(lexLe a b||lexLe b a)=true:=by
 unfold lexLe;cases e1:lexLt b a with
 | false=>rfl
 | true =>
  cases e2:lexLt a b with
  | false=>rfl
  | true=>have:=e9 e1 e2;rw[dO] at this;cases this
def sP(h1:lexLe a b=true)(h2:lexLe b a=true):a=b:=by
 unfold lexLe at *;rw[yQ] at *;exact iT h2 h1
def ux{α:Type}{le:α->α->Bool}(abo:∀a b,le a b=true->le b a=true->a=b):∀ {l m:List α},l.Perm m->l.Pairwise (λa b=>le a b=true)->m.Pairwise (λa b=>le a b=true)->l=m
 | [],m,p,_,_=>p.nil_eq
 | a::l,[],p,_,_=>by have:=p.length_eq;simp at this
 | a::l,b::m,p,h1,h2=>by
  let⟨h1a,h1b⟩:=List.pairwise_cons.mp h1;let⟨h2a,h2b⟩:=List.pairwise_cons.mp h2;have e:a=b:=by
   have ha:a∈b::m:=p.mem_iff.mp zE;have hb:b∈a::l:=p.mem_iff.mpr zE;rcases List.mem_cons.mp ha with e|ha
   ·exact e
   ·rcases List.mem_cons.mp hb with e|hb
    ·exact e.symm
    ·exact abo a b (h1a b hb) (h2a a ha)
  subst e;rw[ux abo (List.perm_cons a |>.mp p) h1b h2b]
def tT(l:List (List Int)):List (List Int):=l.mergeSort lexLe
def Ie(l:List (List Int)):(tT l).Perm l:=List.mergeSort_perm l lexLe
def Nq(l:List (List Int)):(tT l).Pairwise (λa b=>lexLe a b=true):=List.pairwise_mergeSort Bm Bo l
def IA{l:List (List Int)}(p:l.Perm m)(h:l.Pairwise (λa b=>lexLe a b=true)):l=tT m:=ux (λ_ _=>sP) (p.trans (Ie m).symm) h (Nq m)
def rk(l:List (List Int))(a:List Int):Int:=((l.countP λb=>lexLt b a:Nat):Int)
def D3(ha:a∈l):lexLt a b=decide (rk l a < rk l b):=by
 unfold rk;have mono:∀ {a b:List Int},lexLt a b=true->(l.countP λc=>lexLt c a)<=l.countP λc=>lexLt c b:=λ{a b} h=>List.countP_mono_left λc _ hc=>e9 hc h;have strict:∀ {a b:List Int}(ha:a∈l),lexLt a b=true->(l.countP λc=>lexLt c a) < l.countP λc=>lexLt c b:=λ{a b} ha h=>by
  have key:∀m:List (List Int),a∈m->(m.countP λc=>lexLt c a) < m.countP λc=>lexLt c b:=λm hm=>by
   induction m with
   | nil=>cases hm
   | cons x m ih =>
    rw[List.countP_cons,List.countP_cons];have mo:(m.countP λc=>lexLt c a)<=m.countP λc=>lexLt c b:=List.countP_mono_left λc _ hc=>e9 hc h;rcases List.mem_cons.mp hm with e|hm
    ·subst e;rw[dO,h];simp?[yP,qS,xJ];lia
    ·have:=ih hm;by_cases hx:lexLt x a=true
     ·rw[hx,e9 hx h];simp?[xJ];lia
     ·have W8:lexLt x a=false:=by simpa using hx
      rw[W8];simp?[yP,qS];split<;>lia
  exact key l ha
 cases e:lexLt a b with
 | true=>exact (yA (by have:=strict ha e;lia)).symm
 | false =>
  refine (zZ ?_).symm;cases e2:lexLt b a with
  | true=>have:=mono e2;lia
  | false=>rw[iT e e2];lia
section
variable {prog:Program}{w:World}{A:Around}{E:Value->Shared->Prop}{s:Shared}
def sH:∀ {us ws:List Value}{ns ms:List Int}(i:Nat),IntsAre us ns->IntsAre ws ms->Q (lexLt ns ms) s->W.KatLex prog w A true (decide (ns.length < ms.length)) Q (us.zip ws) i s
 | [],[],_,_,i,.nil,.nil,h=>h
 | [],_::_,_,_,i,.nil,.cons _ _ _,h=>by
  show Q (decide (0 < _+1)) s;rw[yA (Nat.succ_pos _)];exact h
 | _::_,[],_,_,i,.cons _ _ _,.nil,h=>by
  show Q (decide (_+1 < 0)) s;rw[zZ (wD _)];exact h
 | _::us,_::ws,_,_,i,.cons n t r1,.cons m u r2,h=>by
  have h:Q (HT.lexLt (n::_) (m::_)) s:=h;rw[HT.cm] at h;refine W.kat_cons (SeqAt.EqAt.int_int n t m u prog w _ _ ?_);cases e:(n == m) with
  | true =>
   have e':n=m:=eq_of_beq e;rw[yM e'] at h;refine W.kat_yes ?_;have:=sH (i+1) r1 r2 h;simp?[zL,Nat.add_lt_add_iff_right];exact this
  | false =>
   have e':¬ n=m:=λq=>by rw[q] at e;simp at e
   rw[yO e'] at h;refine W.kat_no ?_;by_cases hi:(true&&i == 0)=true
   ·rw[hi];exact oneLt_int h
   ·have U5:(true&&i == 0)=false:=by simpa using hi
    rw[U5];refine W.kat_one _ _ (lt_int ?_);exact h
end
def af(ns:List Int):D:=.tuple (ns.map PyData.int)
def intsOf:List D->Option (List Int)
 | []=>some []
 | .int n::r=>(intsOf r).map (n::·)
 | _::_=>none
def dm:∀ {ds:List D}{ns:List Int},intsOf ds=some ns->ds=ns.map PyData.int
 | [],ns,h=>by cases h;rfl
 | d::r,ns,h=>by
  cases d<;>simp?[intsOf] at h<;>try cases h
  let⟨ns',h1,rfl⟩:=ah h;rw[dm h1];rfl
def cn:∀ns:List Int,intsOf (ns.map PyData.int)=some ns
 | []=>rfl
 | n::ns=>by simp[intsOf,cn ns]
def DN:D->Option (List Int)|.tuple ds=>(intsOf ds).bind λns=>if ns=[] then none else some ns|_=>none
def BZ(h:DN d=some ns):d=af ns/\ns≠[]:=by
 cases d<;>try cases h
 let⟨ms,h1,h2⟩:=bs h;split at h2
 ·cases h2
 ·rename_i hn;cases h2;rw[dm h1];exact⟨rfl,hn⟩
def FM(h:ns≠[]):DN (af ns)=some ns:=by
 unfold af DN;simp?[cn,zA];rw[yO h]
def rowsOf:List D->Option (List (List Int))
 | []=>some []
 | d::r=>(DN d).bind λns=>(rowsOf r).map (ns::·)
def lP:∀ {ds:List D}{UE:List (List Int)},rowsOf ds=some UE->ds=UE.map af/\∀ns∈UE,ns≠[]
 | [],UE,h=>by cases h;exact⟨rfl,λ_ z=>by cases z⟩
 | d::r,UE,h=>by
  let⟨ns,h1,h⟩:=bs h;let⟨rest,h2,rfl⟩:=ah h;let⟨e,hn⟩:=BZ h1;let⟨e2,hn2⟩:=lP h2;refine⟨by rw[e,e2];rfl,λm hm=>?_⟩;rcases List.mem_cons.mp hm with q|q
  ·subst q;exact hn
  ·exact hn2 m q
def mC:∀ {UE:List (List Int)},(∀ns∈UE,ns≠[])->rowsOf (UE.map af)=some UE
 | [],_=>rfl
 | ns::r,h=>by
  simp?[zI,rowsOf,FM (h ns zE),zA,mC λm hm=>h m (zC _ hm),zB]
structure Ae(h:Heap)(v:Value)(ns:List Int):Prop where
 ex:∃ (a:Addr) (o:Obj) (its:Array Value) (n:Nat),v=.ref a/\h.get? a=some o/\o.cls=.type "tuple"/\o.data=.seq its n/\IntsAre its.toList ns
def Ae.keep(r:Ae h v ns)(k:∀b o,h.get? b=some o->h'.get? b=some o):Ae h' v ns:=let ⟨a,o,its,n,e,e1,e2,e3,e4⟩:=r.ex;⟨a,o,its,n,e,k _ _ e1,e2,e3,e4⟩
def tH:∀ {vs:List Value}{UE:List (List Int)},Paired (Ae h) vs UE->(∀ns∈UE,ns≠[])->∃fs:List Value,W.KatTups h vs fs/\fs.length=vs.length/\∀f∈fs,∃n t,f=Value.int n t
 | _,_,.nil,_=>⟨[],trivial,rfl,λ_ z=>by cases z⟩
 | _,_,.cons (a:=v) (b:=ns) r p,hn=>by
  let⟨fs,h1,h2,h3⟩:=tH p λm hm=>hn m (zC _ hm);let⟨a,o,its,n,rfl,e1,e2,e3,e4⟩:=r.ex;cases hits:its.toList with
  | nil =>
   rw[hits] at e4;cases e4;exact absurd rfl (hn [] zE)
  | cons f rest =>
   rw[hits] at e4;cases e4 with
   | cons m t e5 =>
    have h0:its[0]?=some (.int m t):=by
     have:its.toList[0]?=some (Value.int m t):=by rw[hits];rfl
     simpa using this
    exact⟨.int m t::fs,W.KatTups.cons e1 e2 e3 h0 h1,by simp[h2],λg hg=>by
     rcases List.mem_cons.mp hg with q|q
     ·exact⟨m,t,q⟩
     ·exact h3 g q⟩
def gR:∀ {l:List α}{m:List β}{i:Nat},Paired R l m->i < l.length->R (l.getD i d) (m.getD i d')
 | _,_,i,.nil,h=>by simp at h
 | _,_,0,.cons r _,_=>r
 | _,_,i+1,.cons _ p,h=>by simpa using gR (i:=i) (d:=d) (d':=d') p (by simpa using h)
def AV(hl:WD.Ym s.heap l vs)(hp:Paired (Ae s.heap) vs UE)(hn:∀ns∈UE,ns≠[])(Wl:vs.length < 64)
  (h:∀ (h':Heap) (D:Addr) (c:Nat),(∀b o,s.heap.get? b=some o->h'.get? b=some o)->s.heap.objs.size<=D->h'.get? D=some (seqObj "list" (WD.UO (λi=>rk UE (UE.getD i [])) vs).toArray c)->Q (.ref D) { s with heap:=h' }) :
  wpAny (model prog w) A (call (.builtin "sorted") [.ref l]) Q E s:=by
 refine WD.Yn hl Wl (λi=>rk UE (UE.getD i [])) (tuples' true) (λh2 h' kp Q' q=>?_) (λh2 h' kp i j C hi hj q=>?_) h
 ·have hp':Paired (Ae h') vs UE:=Paired.ZP hp λ_ _ r=>r.keep kp;let⟨fs,t,hlen,hf⟩:=tH hp' hn;refine W.kat_kind (s:={ s with heap:=h' }) (T:=.type "int") t (by lia) (λv hv=>?_) (by decide) q;let⟨n,t,rfl⟩:=hf v hv;exact W.Looks.of_pure rfl
 ·have ri:=(gR (d:=Value.none) (d':=[]) hp hi).keep kp;have rj:=(gR (d:=Value.none) (d':=[]) hp hj).keep kp;have hlen:=hp.length;let⟨a,o,its,n,ea,e1,e2,e3,e4⟩:=ri.ex;let⟨b,o',its',n',eb,f1,f2,f3,f4⟩:=rj.ex;unfold W.kas_ask;rw[ea,eb];have WH:UE.getD i []∈UE:=by
   rw[zG,zK (by lia)];exact qC _
  have q':C (lexLt (UE.getD i []) (UE.getD j [])) { s with heap:=h' }:=by
   rw[D3 WH];exact q
  refine W.kat_lt (s:={ s with heap:=h' }) e1 e3 f1 f3 ?_;have:=sH (prog:=prog) (w:=w) (A:=A.in1.in1) (s:={ s with heap:=h' }) 0 e4 f4 q';have l1:its.size=(UE.getD i []).length:=by have:=wN e4;simpa using this
  have l2:its'.size=(UE.getD j []).length:=by have:=wN f4;simpa using this
  rw[l1,l2];exact this
def rq(z:Nat->Int)(l:List α)(d:α):List α:=if l.length < 2 then l else (SP.run (SP.eM z) (W.kas_sort l.length)).toList.map λi=>l.getD i d
def lK(l:List α)(d:α):(List.range l.length).map (λi=>l.getD i d)=l:=by
 apply jJ
 ·simp
 ·intro i h1 h2;simp[h2]
def gJ(z:Nat->Int)(l:List α)(d:α):(rq z l d).Perm l:=by
 unfold rq;split
 ·exact List.Perm.refl _
 ·rename_i h;have:=((SP.ie (z:=z) (n:=l.length) (by lia)).1).map λi=>l.getD i d;rw[lK] at this;exact this
def KU(UE:List (List Int)):rq (λi=>rk UE (UE.getD i [])) UE []=tT UE:=by
 refine IA (gJ _ _ _) ?_;unfold rq;split
 ·rename_i h
  match UE,h with
  | [],_=>exact List.Pairwise.nil
  | [a],_=>exact vS _ _
 ·rename_i h;let⟨hp,hs⟩:=SP.ie (z:=λi=>rk UE (UE.getD i [])) (n:=UE.length) (by lia);rw[jG] at hs ⊢;refine hs.imp_of_mem λ{i j} hi hj UU=>?_;have Wt:j < UE.length:=by have:=hp.mem_iff.mp hj;simpa using this
  unfold lexLe;rw[D3 (l:=UE) (a:=UE.getD j []) (by rw[zG,zK Wt];exact qC _)];simp?[yQ,xC];lia
def sR{K:W.Frag}(z:Nat->Int)(r:ax K HF ds vs):ax K HF (rq z ds .none) (rq z vs .Ux):=by
 unfold rq;rw[r.length];split
 ·exact r
 ·rename_i h;let⟨hp,_⟩:=SP.ie (z:=z) (n:=ds.length) (by lia);have key:∀l:List Nat,(∀i∈l,i < ds.length)->ax K HF (l.map λi=>ds.getD i .none) (l.map λi=>vs.getD i .Ux):=λl=>by
   induction l with
   | nil=>exactλ_=>ax.nil
   | cons i l ih =>
    intro hl;have hi:=hl i zE;let⟨v,e1,e2⟩:=r.getD (zK hi);refine ax.cons ?_ (ih λj hj=>hl j (zC _ hj));dsimp only;rw[zG,zG,e1,zK hi];exact e2
  exact key _ λi hi=>by have:=hp.mem_iff.mp hi;simpa using this
def rJ(z:Nat->Int)(r:aN vs us):aN (rq z vs .Ux) (WD.UO z us):=by
 unfold rq WD.UO;rw[r.length];split
 ·exact r
 ·rename_i h;let⟨hp,_⟩:=SP.ie (z:=z) (n:=us.length) (by lia);have key:∀l:List Nat,(∀i∈l,i < vs.length)->aN (l.map λi=>vs.getD i .Ux) (l.map λi=>us.getD i Value.none):=λl=>by
   induction l with
   | nil=>exactλ_=>.nil
   | cons i l ih =>
    intro hl;have hi:=hl i zE;let⟨v,e1,e2⟩:=r.get (zK hi);refine .cons ?_ (ih λj hj=>hl j (zC _ hj));dsimp only;rw[zG,zG,e1,zK hi];exact e2
  exact key _ λi hi=>by have:=hp.mem_iff.mp hi;rw[r.length];simpa using this
def La(z:Nat->Int)(UE:List (List Int)):rq z (UE.map af) .none=(rq z UE []).map af:=by
 unfold rq;rw[zD];split
 ·rfl
 ·rename_i h;rw[zM];let⟨hp,_⟩:=SP.ie (z:=z) (n:=UE.length) (by lia);refine yI λi hi=>?_;have U5:i < UE.length:=by have:=hp.mem_iff.mp hi;simpa using this
  simp[U5]
def rh(I:Inv X pins σ H s)(sm:aS HF H):∀ {UE:List (List Int)}{vs:List V}{us:List Value},ax X.K HF (UE.map af) vs->aN vs us->Paired (Ae s.heap) us UE
 | [],_,_,h,r=>by rw[h.nil_inv] at r;cases r;exact .nil
 | ns::UE,_,_,h,r=>by
  let⟨v,vr,rfl,a,b⟩:=h.cons_inv;cases r with
  | cons r rr =>
   refine .cons ?_ (rh I sm b rr);unfold af at a;simp?[Rep] at a;let⟨p,ws,rfl,hs,ZY⟩:=a;cases r;let⟨its,rv,⟨o,ho,hc,n,hd⟩,_⟩:=I.tuple (aK sm hs);have:ws=ns.map V.int:=by
    have key:∀ {ns:List Int}{ws:List V},ax X.K HF (ns.map PyData.int) ws->ws=ns.map V.int:=λ{ns}=>by
     induction ns with
     | nil=>exactλh=>h.nil_inv
     | cons n ns ih =>
      intro ws h;let⟨v,r,rfl,a,b⟩:=h.cons_inv;simp?[Rep] at a;rw[a,ih b];rfl
    exact key ZY
   subst this;exact⟨p,o,its.toArray,n,rfl,ho,hc,hd,intsAre_of rv⟩
def oP:f9 X (.builtin "sorted") (λxs H Q=>∃ (HF:Hp) (a:Addr) (vs:List V) (UE:List (List Int)),xs=[.ref a]/\aS HF H/\(iM X.K HF a vs\/ku X.K HF a vs)/\ax X.K HF (UE.map af) vs/\(∀ns∈UE,ns≠[])/\UE.length < 64 /\
  ∀ (Dn:Addr) (us:List V),H Dn=none->ax X.K HF ((tT UE).map af) us->Q (.ref Dn) (upd H Dn (.lst us))):=by
 intro pins s σ H xs us Q I r h;let⟨HF,a,vs,UE,rfl,sm,hq,rr,hn,Wl,q⟩:=h;let⟨u,rfl,rx⟩:=vals1 r;cases rx;obtain⟨its,rv,pl,hz⟩:∃its:List Value,aN vs its/\WD.Ym s.heap a its/\vs.length<=sizeLine:=by
  rcases hq with hq|hq
  ·let⟨its,rv,pl,hz⟩:=I.list (sm.seq hq);let⟨o,ho,hc,n,hd⟩:=pl.isList;exact⟨its,rv,⟨o,"list",n,.inl rfl,ho,hc,hd⟩,hz⟩
  ·let⟨its,rv,pl,hz⟩:=I.tuple (aK sm hq);let⟨o,ho,hc,n,hd⟩:=(show s.heap.IsTuple a its.toArray from pl)
   exact⟨its,rv,⟨o,"tuple",n,.inr rfl,ho,hc,hd⟩,hz⟩
 have hl1:=rr.length;rw[zD] at hl1;refine AV pl (rh I sm rr rv) hn (by have:=rv.length;lia) λh' Dn c kp hD e=>?_;have hv:=rJ (λi=>rk UE (UE.getD i [])) rv;have hr:=sR (λi=>rk UE (UE.getD i [])) rr;rw[La,KU] at hr;refine⟨.ref Dn,_,I.laid (t':=s.toks) (o:=.lst (rq (λi=>rk UE (UE.getD i [])) vs .Ux)) kp hD ⟨?_,_,c,hv,e⟩,rfl,q Dn _ (I.UC.fresh hD) hr⟩;rw[(gJ _ _ _).length_eq];exact hz
def hU:List D->Option (List D):=λds=>(oneOf ds).bind λd=>match d with
 | .list es=>(rowsOf es).bind λUE=>if UE.length < 64 then some ((tT UE).map af) else none
 | .tuple es=>(rowsOf es).bind λUE=>if UE.length < 64 then some ((tT UE).map af) else none
 | _=>none
def F5(B:p8 X "sorted" (.builtin "sorted"))(ha:DA X [e] fs)(he:starEach [e] X.env=(false,eval e X.env)::starEach [] X.env:=by rfl):DF X (.Call (.Name "sorted" p) [e] [] pos) (um hU fs) :=
 JB oP (by
  intro HF H ds vs d Q sm r hg q;let⟨x,hx,hg⟩:=bs hg;rw[gW hx] at r;have key:∀ (b:Bool) (es:List D),ax X.K HF [if b then .tuple es else .list es] vs->((rowsOf es).bind λUE=>if UE.length < 64 then some ((tT UE).map af) else none)=some d->(∃ (HF:Hp) (a:Addr) (us:List V) (UE:List (List Int)),vs=[.ref a]/\aS HF H/\(iM X.K HF a us\/ku X.K HF a us)/\ax X.K HF (UE.map af) us/\(∀ns∈UE,ns≠[])/\UE.length < 64/\∀ (Dn:Addr) (ws:List V),H Dn=none->ax X.K HF ((tT UE).map af) ws->Q (.ref Dn) (upd H Dn (.lst ws))):=λb es r hg=>by
   let⟨UE,hb,hg⟩:=bs hg;split at hg
   ·rename_i Wl;cases hg;let⟨v,r',rfl,a,e0⟩:=r.cons_inv;rw[e0.nil_inv];let⟨e1,e2⟩:=lP hb;obtain⟨p,us,rfl,h,rr⟩:∃p us,v=.ref p/\(iM X.K HF p us\/ku X.K HF p us)/\ax X.K HF es us:=by
     cases b
     ·simp?[yP,qS,Rep] at a;let⟨p,us,rfl,h,rr⟩:=a;exact⟨p,us,rfl,.inl h,rr⟩
     ·simp?[xJ,Rep] at a;let⟨p,us,rfl,h,rr⟩:=a;exact⟨p,us,rfl,.inr h,rr⟩
    rw[e1] at rr;exact⟨HF,p,us,UE,rfl,sm,h,rr,e2,Wl,λDn ws hD hr=>q Dn ws _ HF (.own sm hD) hD (sm.free hD) aH hr⟩
   ·cases hg
  cases x<;>try cases hg
  ·exact key false _ r hg
  ·exact key true _ r hg) B ha (by decide) (by decide) he rfl
end Dl
namespace En
open PySem PyProof.Rows
open AutoSeq1 (wpAny_loadPart')
def WI(hj:s.heap.IsTupleIter j t k)(ht:s.heap.IsTuple t its)(hv:its[k]?=some v)
  (hQ:∀g,g.IsTupleIter j t (k+1)->Heap.SameBut j s.heap g->Q v { s with heap:=g }):wpAny (model prog w) A (Builtin.SmallTypes.nextOf (.ref j)) Q E s:=by
 let⟨oj,gj,cj,dj⟩:=id hj;let⟨ot,gt,_,nt,dt⟩:=ht;unfold Builtin.SmallTypes.nextOf;refine zV (qE (name:=Str.ofString "__next__") hj.typeIs jT (qY jT hj.typeIs F.entry_tuple_iterator_next ?_ (F.args_tuple_iterator_next_1 _)));refine zV (m:=field (.ref j) 0) (qV gj dj (x:=.ref t) rfl ?_);show wpAny _ _ (if (Value.ref t == Value.none)=true then _ else _) _ _ s;rw[yO (show ¬ ((Value.ref t == Value.none)=true) by exact xA)];refine zV (m:=field (.ref j) 1) (qV gj dj (x:=.int k 0) rfl ?_);refine zV (m:=seqItems? (.ref t)) (kM gt dt ?_);simp?[yG,hv];refine zV (wpAny_setField gj dj (by simp) (zW ⟨v,rfl,zW (hQ _ ⟨_,Heap.get?_update_self _ gj (Obj.isFreed_of_fields (Obj.data_mapFields dj _)),(Obj.cls_mapFields ..).trans cj,?_⟩ (Heap.SameBut.update ..))⟩));rw[Obj.data_mapFields dj];simp[rawInt]
def W9{Q:Value->Shared->Prop}(hh:A.handled=none)(hj:s.heap.IsTupleIter j t k)(ht:s.heap.IsTuple t its)(hv:its[k]?=none)
  (hE:∀g x,Heap.ExtBut j s.heap g->(∃o,g.get? x=some o/\o.cls=.type "StopIteration")->E (.ref x) { s with heap:=g }):wpAny (model prog w) A (Builtin.SmallTypes.nextOf (.ref j)) Q E s:=by
 let⟨oj,gj,cj,dj⟩:=id hj;let⟨ot,gt,_,nt,dt⟩:=ht;unfold Builtin.SmallTypes.nextOf;refine zV (qE (name:=Str.ofString "__next__") hj.typeIs jT (qY jT hj.typeIs F.entry_tuple_iterator_next ?_ (F.args_tuple_iterator_next_1 _)));refine zV (m:=field (.ref j) 0) (qV gj dj (x:=.ref t) rfl ?_);show wpAny _ _ (if (Value.ref t == Value.none)=true then _ else _) _ _ s;rw[yO (show ¬ ((Value.ref t == Value.none)=true) by exact xA)];refine zV (m:=field (.ref j) 1) (qV gj dj (x:=.int k 0) rfl ?_);refine zV (m:=seqItems? (.ref t)) (kM gt dt ?_);simp?[yG,hv];refine zV (Za (zV (wpAny_setField gj dj (by simp) (zV (m:=newExc (.type "StopIteration") []) ?_))));simp?[newExc,newTuple];refine zV (qN (zV (m:=firstArgMember _ _) (wpAny_of_eq (a:=Value.none) (by first|rfl|(simp?[firstArgMember];rfl)) ?_)) (by size_fits));refine qN ?_ (by size_fits);simp?[raiseNew];refine zV (wpAny_handled ?_)
 first|rw[show A.in1.handled=none from hh]|rw[hh]
 exact zV (zW (wpAny_throw (hE _ _ (((Heap.SameBut.update ..).extBut.push _).push _) ⟨_,zX _ rfl,rfl⟩)))
def Wn(t:Addr)(its:Array Value)(n:Nat)(dd:Option Addr)(sl:Array (Option Value)) :
  Meets (Builtin.«enumerate.__new__» ⟨[.type "enumerate",.ref t],[]⟩) (λ_ R s=>s.heap.get? t=some { cls:=.type "tuple",dict:=dd,data:=.seq its n,slots:=sl } /\
   R (.ok (.ret (.ref (s.heap.push { cls:=.type "tuple_iterator",data:=.fields #[.ref t,.int 0 0] }).objs.size)))
    { s with heap:=(s.heap.push { cls:=.type "tuple_iterator",data:=.fields #[.ref t,.int 0 0] }).push { cls:=.type "enumerate",data:=.fields #[.none,.bool false,.ref s.heap.objs.size,rawInt 0,.none,.none] } }) :=
 .of_wp λprog w A R s h=>by
  let⟨hp,g,d,tk,os⟩:=s;let⟨hl,h⟩:=h;have abp:=sub_enumerate;have hL:Heap.IsTuple (Shared.heap ⟨hp,g,d,tk,os⟩) t its:=⟨_,hl,rfl,n,rfl⟩
  wp_walk using wpAny_loadPart' hl
  refine wpAny_stack_any λst=>zW ?_;split
  ·rename_i c _ _ _ _ _;cases (c == Value.type "enumerate")
   ·wp_walk using wpAny_loadPart' hl,xU hL
    exact⟨_,rfl,h⟩
   ·wp_walk using wpAny_loadPart' hl,xU hL
    exact⟨_,rfl,h⟩
  ·wp_walk using wpAny_loadPart' hl,xU hL
   exact⟨_,rfl,h⟩
def WJ(ht:s.heap.IsTuple t its)
  (h:∀h',IsEnum h' (s.heap.objs.size+1) s.heap.objs.size 0 .none->h'.IsTupleIter s.heap.objs.size t 0->h'.objs.size=s.heap.objs.size+2->(∀b o,s.heap.get? b=some o->h'.get? b=some o)->Q (.ref (s.heap.objs.size+1)) { s with heap:=h' }) :
  wpAny (model prog w) A (call (.type "enumerate") [.ref t]) Q E s:=by
 let⟨⟨c,dct,dt,sl⟩,hl,hc,n,hd⟩:=ht;simp only at hc hd;subst hc hd;refine callType_new F.called_enumerate (by decide) (F.typeCall_enumerate_1 _) (F.newCall_enumerate_1 _) (λobj=>F.args_object_init_2 obj _) F.entry_enumerate_new (Wn t its n dct sl) ⟨hl,?_⟩;have hz:(s.heap.push { cls:=.type "tuple_iterator",data:=.fields #[.ref t,.int 0 0] }).objs.size=s.heap.objs.size+1:=by rw[xM]
 have he:=zX (s.heap.push { cls:=.type "tuple_iterator",data:=.fields #[.ref t,.int 0 0] }) (o:={ cls:=.type "enumerate",data:=.fields #[.none,.bool false,.ref s.heap.objs.size,rawInt 0,.none,.none] }) rfl;show _/\_;rw[hz] at he ⊢;refine⟨⟨_,he,rfl⟩,h _ he ⟨_,zU _ (zX _ rfl),rfl,rfl⟩ ?_ λb o x=>zU _ (zU _ x)⟩;show (Heap.push _ _).objs.size=_;rw[xM,hz]
end En
namespace Dl
open PySem L2 PySem.Spec PyProof.Rows
section
variable {ch:List Addr}
def AF(I:Inv X pins σ H s)(Wc:∀b∈ch,cN X pins H b)(k:∀b o,b∉ch->s.heap.get? b=some o->h'.get? b=some o){T:Addr}{vals:List Value}{xs:List V}(hT:s.heap.objs.size<=T)(ht:rK h' T vals.toArray)
  (rv:aN xs vals) (hz:xs.length<=sizeLine):Inv X pins σ (upd H T (.tup xs)) { s with heap:=h',toks:=t' }:=by
 have nT:H T=none:=I.UC.fresh hT;have ne:∀b o,s.heap.get? b=some o->b≠T:=λb o e=>yS (zP (zY e) hT);have ne2:∀b o,H b=some o->b≠T:=λb o e=>aU e nT;have W4:∀b o,H b=some o->b∉ch:=λb o e z=>by rw[(Wc b z).1] at e;cases e
 refine I.step (g':=s.gens) (d':=s.drawn) (ch:=ch) (λb hb=>?_) (λb o _ _ hc e _=>k b o hc e) (λb o _ _ hc e _=>⟨o.slots,k b o hc e⟩) (λb o _ e n=>by rw[aD (ne b o e)];exact n)
  (λb o hc e=>⟨o,k b o hc e⟩) (λb ys e=>by rw[aD (ne2 b _ e)];exact e) (λb o u e=>by rw[aD (ne2 b _ e)];exact e) (.kept (λb u ⟨q,z⟩ e=>k b u (W4 b _ z) e) λb u e _=>by rw[aD (ne2 b _ e)];exact e) (λm hm=>?_) (λb u e=>?_) I.bare
 ·let⟨f0,f1,f2,f3,f4,f5⟩:=Wc b hb;exact⟨f3,f1,f4,f5⟩
 ·let⟨o,es,ep,ho,r⟩:=hm;exact⟨o,es,ep,k _ o (λz=>(Wc _ z).2.1 rfl) ho,r⟩
 ·by_cases hb:b=T
  ·subst hb;rw[aH] at e;cases e;exact⟨hz,vals,rv,ht⟩
  ·rw[aD hb] at e;refine (I.UC b u e).Vb (λc v hc q=>k c v ?_ q) (λ_ q=>?_) λc v q _=>?_
   ·rcases hc with z|z
    ·rw[z];exact W4 b u e
    ·exact W4 c _ z
   all_goals first
    | (rw[aD (ne2 _ _ q)];exact q)
    | exact q
def Rk(I:Inv X pins σ H s)(hf:cN X pins H b)(h:X.K.lookup a=some o):a≠b:=by
 rintro rfl;have hb:=I.ok.mod.XW a o h;rcases hf.2.2.2.1 with z|z
 ·exact I.ok.Wf a o hb z
 ·exact absurd (zP (zY (I.ok.bs a o hb).1) z) (qG _)
def Og(I:Inv X pins σ H s)(hf:cN X pins H b)(h:iM X.K H a xs):a≠b:=by
 rcases h with (h|⟨o,h⟩)|⟨o,its,n,h,_⟩
 ·exact aU h hf.1
 ·exact aU h hf.1
 ·exact Rk I hf h
def Nh(I:Inv X pins σ H s)(hf:cN X pins H b)(h:ku X.K H a xs):a≠b:=by
 rcases h with (h|⟨o,h⟩)|⟨o,its,n,h,_⟩
 ·exact aU h hf.1
 ·exact aU h hf.1
 ·exact Rk I hf h
end
def SG(sq:Hp->List V->Prop):It:=⟨λi H=>∃xs x,sq H xs/\xs[i]?=some x,λi H v H'=>∃T y,v=.ref T/\H T=none/\H'=upd H T (.tup [.int (i:Nat),y])/\∀xs,sq H xs->xs[i]?=some y,λi H=>∃xs,sq H xs/\xs.length<=i⟩
def bH(k:Nat):List D->List D
 | []=>[]
 | d::ds=>.tuple [.int (k:Nat),d]::bH (k+1) ds
def vo:∀ {ds:List D}{k i:Nat}{d:D},(bH k ds)[i]?=some d->∃x,ds[i]?=some x/\d=.tuple [.int ((k+i:Nat):Int),x]
 | [],k,i,d,h=>by simp[bH] at h
 | x::ds,k,0,d,h=>by simp[bH] at h;exact⟨x,rfl,h.symm⟩
 | x::ds,k,i+1,d,h=>by
  simp?[bH,yZ] at h;let⟨y,h1,h2⟩:=vo h;refine⟨y,by simpa using h1,?_⟩;rw[h2,show k+1+i=k+(i+1) by lia]
def lV:∀ (ds:List D) (k:Nat),(bH k ds).length=ds.length
 | [],k=>rfl
 | x::ds,k=>by simp[bH,lV ds (k+1)]
def E7{K:W.Frag}(h:sq HF vs)(mo:∀H H',aS H H'->sq H vs->sq H' vs)(r:ax K HF ds vs):uB K (SG sq) HF (bH 0 ds) where
 go:=λi d U4 UI e s1 s2=>by
  let⟨x,hx,rfl⟩:=vo e;rw[jF];let⟨v,hv,rv⟩:=r.getD hx;have q:=mo _ _ s2 (mo _ _ s1 h);refine⟨⟨vs,v,q,hv⟩,λy WB ⟨T,z,e1,hT,e2,hy⟩=>?_⟩;have:=hy vs q;rw[hv] at this;cases this;subst e1 e2;exact⟨_,.new s2 hT,eY (s2.free hT) (ax.cons (by simp[Rep]) (ax.cons (rv.mono s1) ax.nil))⟩
 stop:=λU4 UI s1 s2=>⟨vs,mo _ _ s2 (mo _ _ s1 h),by rw[lV,r.length];exact yN _⟩
def Si(sq1 sq2:Hp->List V->Prop):It:=⟨λi H=>∃xs ys x y,sq1 H xs/\sq2 H ys/\xs[i]?=some x/\ys[i]?=some y,
 λi H v H'=>∃T x y,v=.ref T/\H T=none/\H'=upd H T (.tup [x,y])/\(∀xs,sq1 H xs->xs[i]?=some x)/\∀ys,sq2 H ys->ys[i]?=some y,
 λi H=>∃xs ys,sq1 H xs/\sq2 H ys/\(xs.length<=i\/ys.length<=i)⟩
section
variable {ch:List Addr}
def Fh(I:Inv X pins σ H s)(Wc:∀b∈ch,cN X pins H b)(k:∀b o,b∉ch->s.heap.get? b=some o->h'.get? b=some o):Inv X pins σ H { s with heap:=h',toks:=t' }:=by
 have W4:∀b o,H b=some o->b∉ch:=λb o e z=>by rw[(Wc b z).1] at e;cases e
 refine I.step (g':=s.gens) (d':=s.drawn) (ch:=ch) (λb hb=>?_) (λb o _ _ hc e _=>k b o hc e) (λb o _ _ hc e _=>⟨o.slots,k b o hc e⟩) (λb o _ e n=>n)
  (λb o hc e=>⟨o,k b o hc e⟩) (λb ys e=>e) (λb o u e=>e) (.kept (λb u ⟨q,z⟩ e=>k b u (W4 b _ z) e) λb u e _=>e) (λm hm=>?_) (λb u e=>?_) I.bare
 ·let⟨f0,f1,f2,f3,f4,f5⟩:=Wc b hb;exact⟨f3,f1,f4,f5⟩
 ·let⟨o,es,ep,ho,r⟩:=hm;exact⟨o,es,ep,k _ o (λz=>(Wc _ z).2.1 rfl) ho,r⟩
 ·refine (I.UC b u e).Vb (λc v hc q=>k c v ?_ q) (λ_ q=>q) λc v q _=>q;rcases hc with z|z
  ·rw[z];exact W4 b u e
  ·exact W4 c _ z
end
structure T5(z TI TO i1 i2:Addr):Prop where
 a1:TI≠z
 a2:TO≠z
 a3:i1≠z
 a4:i2≠z
 a5:TI≠TO
 a6:TI≠i1
 a7:TI≠i2
 a8:TO≠i1
 a9:TO≠i2
 a0:i1≠i2
def iY:List D->List D->List D
 | x::xs,y::ys=>.tuple [x,y]::iY xs ys
 | _,_=>[]
def r9:∀ {xs ys:List D}{i:Nat}{d:D},(iY xs ys)[i]?=some d->∃x y,xs[i]?=some x/\ys[i]?=some y/\d=.tuple [x,y]
 | [],_,i,d,h=>by simp[iY] at h
 | _::_,[],i,d,h=>by simp[iY] at h
 | x::xs,y::ys,0,d,h=>by simp[iY] at h;exact⟨x,y,rfl,rfl,h.symm⟩
 | x::xs,y::ys,i+1,d,h=>by
  simp?[iY,yZ] at h;let⟨a,b,h1,h2,h3⟩:=r9 h;exact⟨a,b,by simpa using h1,by simpa using h2,h3⟩
def oA:∀ (xs ys:List D),(iY xs ys).length=min xs.length ys.length
 | [],_=>by simp[iY]
 | _::_,[]=>by simp[iY]
 | x::xs,y::ys=>by simp[iY,oA xs ys]
def G7{K:W.Frag}(h1:sq1 HF vs)(mo1:∀H H',aS H H'->sq1 H vs->sq1 H' vs)(h2:sq2 HF us)(mo2:∀H H',aS H H'->sq2 H us->sq2 H' us)(r1:ax K HF xs vs)(r2:ax K HF ys us) :
  uB K (Si sq1 sq2) HF (iY xs ys) where
 go:=λi d U4 UI e s1 s2=>by
  let⟨x,y,hx,hy,rfl⟩:=r9 e;let⟨v,hv,rv⟩:=r1.getD hx;let⟨u,hu,ru⟩:=r2.getD hy;have q1:=mo1 _ _ s2 (mo1 _ _ s1 h1);have q2:=mo2 _ _ s2 (mo2 _ _ s1 h2);refine⟨⟨vs,us,v,u,q1,q2,hv,hu⟩,λw WB ⟨T,a,b,e1,hT,e2,ha,hb⟩=>?_⟩;have ea:=ha vs q1;have eb:=hb us q2;rw[hv] at ea;rw[hu] at eb;cases ea;cases eb;subst e1 e2;exact⟨_,.new s2 hT,eY (s2.free hT) (ax.cons (rv.mono s1) (ax.cons (ru.mono s1) ax.nil))⟩
 stop:=λU4 UI s1 s2=>⟨vs,us,mo1 _ _ s2 (mo1 _ _ s1 h1),mo2 _ _ s2 (mo2 _ _ s1 h2),by rw[oA,r1.length,r2.length];lia⟩
def cut(xs:List α)(lo hi:Option Int):List α:=(xs.drop (HT.dS xs.length 0 lo)).take (HT.dS xs.length xs.length hi - HT.dS xs.length 0 lo)
def KR(xs:List α)(lo hi:Option Int):(cut xs lo hi).length<=xs.length:=by
 unfold cut;rw[jY,qK];lia
def sg{K:W.Frag}(r:ax K H ds vs)(lo hi:Option Int):ax K H (cut ds lo hi) (cut vs lo hi):=by
 unfold cut;rw[r.length];exact (r.drop _).take _
section
def EX{vl:Value}{lo:Option Int}(ht:IsTup s.heap t its)(hs:s.heap.IsSliceOf sl vl vu .none)(pl:IsPart vl lo)(pu:IsPart vu hi)
  (hw:HT.dS its.size 0 lo=0/\HT.dS its.size its.size hi=its.size) (h:Q (.ref t) s):wpAny (model prog w) A (getItem (.ref t) (.ref sl)) Q E s:=by
 let⟨os,Ye,hcs,ZX⟩:=id hs;have hTs:s.TypeIs (.ref sl) "slice":=⟨os,Ye,hcs⟩
 unfold getItem
 try with_reducible refine xZ ?_
 first|refine zV (zW ?_)|skip
 refine zV (wpAny_sequenceKey ht.typeIs (by decide) (zV (qE (name:=Str.ofString "__getitem__") ht.typeIs jH (qY jH ht.typeIs entry_tuple_getitem ?_ (args_tuple_getitem _ _)))));refine zV (m:=Builtin.Tuple.tupleItemsOf (.ref t)) (tupleItemsOf_ ht (zV (Zj hTs ?_)));rw[yM (by decide)];refine zV (HT.jb hs pl pu ?_);show wpAny _ _ (if (((HT.dS its.size 0 lo:Nat):Int) == 0&&(1:Int) == 1&&(HT.dS its.size its.size hi - HT.dS its.size 0 lo) == its.size)=true then _ else _) _ _ s;rw[hw.1,hw.2,yM (by simp)];unfold Builtin.Tuple.tupleIsExact;refine zV (zV (Zj ht.typeIs (zW ?_)));rw[yM (by decide)]
 first
  | exact zV (Za (zW ⟨_,rfl,zW h⟩))
  | exact zV (Za (zV (zW (zW ⟨_,rfl,zW h⟩))))
def Sr(K:W.Frag):V->Option Int->Option Int->Hp->VK->Prop:=λx lo hi H Q=>∃a xs,x=.ref a/\ku K H a xs/\(cut xs lo hi=xs->Q (.ref a) H)/\∀p,H p=none->Q (.ref p) (upd H p (.tup (cut xs lo hi)))
def Pk:MH X (Sr X.K):=by
 intro pins s σ H x v vl vu lo hi sl Q I rx hs pl pu h;let⟨a,xs,rfl,hx,q1,q2⟩:=h;by_cases hw:HT.dS xs.length 0 lo=0/\HT.dS xs.length xs.length hi=xs.length
 ·cases rx;let⟨its,r,ht,hz⟩:=I.tuple hx;have hlen:its.toArray.size=xs.length:=by rw[zH];exact r.length.symm
  refine⟨"tuple",_,PyProof.Rows.slot_tuple_getitem.lookup,ht.typeIs,EX ht hs pl pu (by rw[hlen];exact hw) ⟨.ref a,H,I,rfl,q1 ?_⟩⟩;unfold cut;rw[hw.1,hw.2,List.drop_zero,Nat.sub_zero,List.take_length]
 ·exact N5 pins s σ H (.ref a) v vl vu lo hi sl Q I rx hs pl pu ⟨a,xs,rfl,hx,hw,q2⟩
def Sn(K:W.Frag):V->Option Int->Option Int->Hp->VK->Prop:=λx lo hi H Q=>∃a xs,x=.ref a/\iM K H a xs/\∀p,H p=none->Q (.ref p) (upd H p (.lst (cut xs lo hi)))
def BP(lo hi:Option Int)(n:Nat):sliceBounds lo hi none n=(((HT.dS n 0 lo:Nat):Int),((HT.dS n n hi:Nat):Int),1):=by
 have h1:(1:Int) > 0:=by lia
 refine Prod.ext ?_ (Prod.ext ?_ rfl)
 ·cases lo with
  | none=>simp[sliceBounds,HT.dS]
  | some x =>
   by_cases h:x < 0
   ·simp?[sliceBounds,HT.dS,kY,h1,xJ,yM h];lia
   ·simp?[sliceBounds,HT.dS,kY,h1,xJ,yO h];lia
 ·cases hi with
  | none=>simp[sliceBounds,HT.dS]
  | some x =>
   by_cases h:x < 0
   ·simp?[sliceBounds,HT.dS,kY,h1,xJ,yM h];lia
   ·simp?[sliceBounds,HT.dS,kY,h1,xJ,yO h];lia
def Ks:MH X (Sn X.K):=by
 intro pins s σ H x v vl vu lo hi sl Q I rx hs pl pu h;let⟨a,xs,rfl,hx,q⟩:=h;cases rx;let⟨its,r,p,hz⟩:=I.list hx;have hlen:=r.length;refine⟨"list",_,slot_list_getitem.lookup,p.isList.typeIs,wpAny_getItem_list_slice p.isList hs pl pu .none (by simp) ?_ (by rw[zH];lia)⟩;rw[W.kmk_pick_nat its.toArray (BP lo hi its.toArray.size)];have e:((its.toArray.toList.drop (HT.dS its.toArray.size 0 lo)).take (HT.dS its.toArray.size its.toArray.size hi - HT.dS its.toArray.size 0 lo))=cut its lo hi:=by unfold cut;simp
 rw[e];have rc:aN (cut xs lo hi) (cut its lo hi):=by unfold cut;rw[hlen];exact (r.drop _).take _
 exact⟨.ref s.heap.objs.size,_,I.Yh (t':=s.toks) rc (yD (KR xs lo hi) hz),rfl,q _ I.fresh⟩
def Ue(K:W.Frag)(f:Env->Option (Option Int)):TO:=λσ H Q=>∃HF ρ o,aS HF H/\cM K HF ρ σ/\f ρ=some o/\∀H' UA,bG HF H UA H'->Q o H'
def DO(X:Cx)(e:Option Expr)(f:Env->Option (Option Int)):Prop:=PO X e (Ue X.K f)
def gX:Env->Option (Option Int):=λ_=>some none
def gI:D->Option Int|.int i=>some i|_=>none
def ui(f:Env->Option D):Env->Option (Option Int):=λρ=>(f ρ).bind λd=>(gI d).map some
def Lc:DO X none gX:=λpins s σ H Q I ⟨HF,ρ,o,sm,eo,hf,q⟩=>K7 pins s σ H Q I (by cases hf;exact q H HF (.refl sm))
def Ki(h:DE X e f):DO X (some e) (ui f):=λpins s σ H Q I ⟨HF,ρ,o,sm,eo,hf,q⟩=>Lq h pins s σ H Q I (by
 let⟨d,hd,hf⟩:=bs hf;let⟨i,hi,rfl⟩:=ah hf;cases d<;>try cases hi
 exact⟨HF,ρ,_,sm,eo,hd,λv H1 UB g1 r1=>⟨_,by simpa only[Rep] using r1,q H1 UB g1⟩⟩)
variable {lo hi:Option Expr}{fl fh:Env->Option (Option Int)}
def gE(g:D->Option Int->Option Int->Option β)(fa:Env->Option D)(fl fh:Env->Option (Option Int)):Env->Option β:=λρ=>(fa ρ).bind λx=>(fl ρ).bind λl=>(fh ρ).bind λh=>g x l h
end
def f1(g:D->Option D)(f:Env->Option D):Env->Option D:=λρ=>(f ρ).bind g
end Dl
namespace HT
open PySem PyProof.Rows
section
open PySem.SeqAt
open PySem.AutoSeq1 (wpAny_loadPart')
open PySem.MeetsSeq PySem.MeetsSeq2 PySem.MeetsSeq3
end
end HT
namespace Dl
open PySem L2 PySem.Spec PyProof.Rows
def rg:D->Option (List Int)|.tuple ds=>intsOf ds|_=>none
def wx(h:rg x=some ns):x=.tuple (ns.map PyData.int):=by
 cases x<;>try cases h
 rename_i xs;have h:intsOf xs=some ns:=h;rw[dm h]
end Dl
namespace En
open PySem PyProof.Rows
open AutoSeq1 (wpAny_loadPart')
def WK:fillsNumberSlot (.type "tuple") "mul"=pure false:=PySem.fillsNumberSlot_seq (id:="tuple.__mul__") (r:=some (.builtin "tuple.__rmul__")) F.slot_tuple_mul.lookup (by decide +kernel) F.slot_tuple_rmul.lookup (by decide +kernel)
def WL:seqRepeat? (.type "tuple")=pure (some (.builtin "tuple.__mul__")):=by
 unfold seqRepeat?;rw[PySem.seqSlot_of (T:="tuple") (name:="__mul__") (id:="tuple.__mul__") F.slot_tuple_mul.lookup (by decide +kernel),PySem.seqSlot_of (T:="tuple") (name:="__rmul__") (id:="tuple.__rmul__") F.slot_tuple_rmul.lookup (by decide +kernel)];rfl
def XF(a:Int)(t:Tok)(l:Addr)(its:Array Value)(n:Nat)(dd:Option Addr)(sl:Array (Option Value)) :
  Meets (Builtin.«int.__rmul__» ⟨[.int a t,.ref l],[]⟩) (λ_ R s=>s.heap.get? l=some { cls:=.type "tuple",dict:=dd,data:=.seq its n,slots:=sl }/\R (.ok (.ret Value.notImplemented)) s) :=
 .of_wp λprog w A R s h=>by
  let⟨hp,g,d,tk,os⟩:=s;let⟨hl,h⟩:=h
  wp_walk
  exact⟨_,rfl,h⟩
def Xa(l:Addr)(its:Array Value)(n:Nat)(dd:Option Addr)(sl:Array (Option Value))(k:Int)(t:Tok)(h1:¬ (decide (k < -(2 ^ 63))||decide (k >= 2 ^ 63))=true)(h2:(its.isEmpty||k == 1)=true) :
  Meets (Builtin.«tuple.__mul__» ⟨[.ref l,.int k t],[]⟩) (λ_ R s=>s.heap.get? l=some { cls:=.type "tuple",dict:=dd,data:=.seq its n,slots:=sl }/\R (.ok (.ret (.ref l))) s) :=
 .of_wp λprog w A R s h=>by
  let⟨hp,g,d,tk,os⟩:=s;let⟨hl,h⟩:=h;have f1:=AutoSeq1.idx_int
  wp_walk using wpAny_loadPart' hl
  rw[yO h1]
  wp_walk using wpAny_loadPart' hl
  exact⟨_,rfl,h⟩
def Xb(l:Addr)(its:Array Value)(n:Nat)(dd:Option Addr)(sl:Array (Option Value))(k:Int)(t:Tok)(h1:¬ (decide (k < -(2 ^ 63))||decide (k >= 2 ^ 63))=true)(h2:¬ (its.isEmpty||k == 1)=true)(h3:(decide (k<=0)||its.isEmpty)=true) :
  Meets (Builtin.«tuple.__mul__» ⟨[.ref l,.int k t],[]⟩) (λ_ R s=>s.heap.get? l=some { cls:=.type "tuple",dict:=dd,data:=.seq its n,slots:=sl }/\R (.ok (.ret (.ref s.heap.objs.size))) { s with heap:=s.heap.push { cls:=.type "tuple",data:=.seq #[] } }) :=
 .of_wp λprog w A R s h=>by
  let⟨hp,g,d,tk,os⟩:=s;let⟨hl,h⟩:=h;have f1:=AutoSeq1.idx_int
  wp_walk using wpAny_loadPart' hl
  rw[yO h1]
  wp_walk using wpAny_loadPart' hl
  exact⟨_,rfl,h⟩
def Xc(l:Addr)(its:Array Value)(n:Nat)(dd:Option Addr)(sl:Array (Option Value))(k:Int)(t:Tok)(h1:¬ (decide (k < -(2 ^ 63))||decide (k >= 2 ^ 63))=true)(h2:¬ (its.isEmpty||k == 1)=true)(h3:¬ (decide (k<=0)||its.isEmpty)=true)
  (h4:¬ ((its.size:Nat):Int) * k > (2 ^ 63 - 1) / 8) (h5:¬ Builtin.Tuple.tupleTooMany (((its.size:Nat):Int) * k)=true) (hz:((List.replicate k.toNat its).foldl (·++·) #[]).size<=sizeLine) :
  Meets (Builtin.«tuple.__mul__» ⟨[.ref l,.int k t],[]⟩) (λ_ R s=>s.heap.get? l=some { cls:=.type "tuple",dict:=dd,data:=.seq its n,slots:=sl }/\R (.ok (.ret (.ref s.heap.objs.size))) { s with heap:=s.heap.push { cls:=.type "tuple",data:=.seq ((List.replicate k.toNat its).foldl (·++·) #[]) } }) :=
 .of_wp λprog w A R s h=>by
  let⟨hp,g,d,tk,os⟩:=s;let⟨hl,h⟩:=h;have f1:=AutoSeq1.idx_int
  wp_walk using wpAny_loadPart' hl
  rw[yO h1]
  wp_walk using wpAny_loadPart' hl
  rw[yO h4]
  wp_walk using wpAny_loadPart' hl
  exact⟨_,rfl,h⟩
end En
namespace Dl
open PySem L2 PySem.Spec PyProof.Rows
def MZ(K:W.Frag):R2:=λx y H Q=>∃a k xs,x=.ref a/\y=.int k/\ku K H a xs/\-(2 ^ 62)<=k/\k < 2 ^ 62/\xs.length * k.toNat<=sizeLine/\((List.replicate k.toNat xs).flatten=xs->Q (.ref a) H) /\
 ∀p,H p=none->Q (.ref p) (upd H p (.tup (List.replicate k.toNat xs).flatten))
def Mo:jj X (binaryOp .Mult) (MZ X.K):=by
 intro pins s σ H x y v u Q I rx ry h;let⟨a,k,xs,rfl,rfl,hq,k1,k2,hz,q1,q2⟩:=h;cases rx;let⟨t,rfl⟩:=ry;let⟨its,r,pl,hzx⟩:=I.tuple hq;have hl:=r.length;let⟨⟨cls,dd,data,sl⟩,ho,hc,n,hd⟩:=id pl;simp only at hc hd;subst hc hd;have b1:¬ (decide (k < -(2 ^ 63))||decide (k >= 2 ^ 63))=true:=by
  simp?[jD,zJ];lia
 refine wpAny_binaryOp_repeat_ref (T:="tuple") (U:="int") (by decide) ⟨_,ho,rfl⟩ (λs'=>Zc s' k t) En.WK F.fills_int_mul wK En.WL F.slot_int_index.lookup
  (qZ wK (Zc s k t) F.entry_int_rmul (F.args_int_rmul_2 _ _) (En.XF k t a its.toArray n dd sl) ⟨ho,rfl,⟨_,ho,rfl⟩,?_⟩)
 have Vv:∀m:Nat,List.foldl (λx1 x2=>x1++x2) #[] (List.replicate m its.toArray)=(List.replicate m its).flatten.toArray:=λm=>by
  have:=foldl_rep its m [];rw[xQ] at this;exact this
 by_cases h2:(its.toArray.isEmpty||k == 1)=true
 ·refine qZ F.slot_tuple_mul ⟨_,ho,rfl⟩ Zt (Zg _ _) (En.Xa a its.toArray n dd sl k t b1 h2) ⟨ho,⟨.ref a,H,I,rfl,q1 ?_⟩⟩;rw[jD] at h2;rcases h2 with h2|h2
  ·have:xs=[]:=by
    have e:its=[]:=by simpa using h2
    rw[e] at hl;exact List.length_eq_zero_iff.mp hl
   rw[this];simp
  ·have:k=1:=eq_of_beq h2;subst this;simp
 ·by_cases h3:(decide (k<=0)||its.toArray.isEmpty)=true
  ·refine qZ F.slot_tuple_mul ⟨_,ho,rfl⟩ Zt (Zg _ _) (En.Xb a its.toArray n dd sl k t b1 h2 h3) ⟨ho,?_⟩;have hk0:k.toNat=0:=by
    simp?[jD,zJ] at h3 h2;rcases h3 with h3|h3
    ·lia
    ·exact absurd (.inl h3) h2
   have q3:=q2 s.heap.objs.size I.fresh;rw[hk0] at q3;exact⟨.ref s.heap.objs.size,_,I.laid (t':=s.toks) (o:=.tup []) (λb ob q=>zU _ q) (yN _) ⟨xX _,[],.nil,rK.new _ _⟩,rfl,q3⟩
  ·have hm:its.length * k.toNat<=sizeLine:=by rw[<- hl];exact hz
   have hkn:(k.toNat:Int)=k:=by
    simp?[jD,zJ,not_or] at h3;lia
   have Xd:((its.toArray.size:Nat):Int) * k=((its.length * k.toNat:Nat):Int):=by rw[zH,Int.natCast_mul,hkn]
   have hv:=L2.aN.rep r k.toNat;have YS:(List.replicate k.toNat xs).flatten.length<=sizeLine:=by rw[len_rep,Nat.mul_comm];exact hz
   have hs8:(sizeLine:Nat)<=(2 ^ 63 - 1) / 8:=by decide
   have h4:¬ ((its.toArray.size:Nat):Int) * k > (2 ^ 63 - 1) / 8:=by rw[Xd];lia
   have h5:¬ Builtin.Tuple.tupleTooMany (((its.toArray.size:Nat):Int) * k)=true:=by
    unfold Builtin.Tuple.tupleTooMany;rw[Xd];simp?[zJ];lia
   refine qZ F.slot_tuple_mul ⟨_,ho,rfl⟩ Zt (Zg _ _) (En.Xc a its.toArray n dd sl k t b1 h2 h3 h4 h5 (by rw[Vv,zH,<- hv.length];exact YS)) ⟨ho,?_⟩;rw[Vv];exact⟨.ref s.heap.objs.size,_,I.laid (t':=s.toks) (o:=.tup (List.replicate k.toNat xs).flatten) (λb ob q=>zU _ q) (yN _) ⟨YS,_,hv,rK.new _ _⟩,rfl,q2 _ I.fresh⟩
def IV:D->D->Option D
 | .tuple ds,.int k=>if Bx k=true/\ds.length * k.toNat<=sizeLine then some (.tuple (List.replicate k.toNat ds).flatten) else none
 | _,_=>none
def oq{K:W.Frag}(r:ax K HF ds vs):∀k:Nat,ax K HF (List.replicate k ds).flatten (List.replicate k vs).flatten
 | 0=>ax.nil
 | k+1=>by rw[xG,xG,qP,qP];exact r.append (oq r k)
def HA{K:W.Frag}:gD K (MZ K) IV:=by
 intro HF H x y v1 v2 d Q sm r1 r2 hg q;cases x<;>cases y<;>simp?[IV] at hg<;>try cases hg
 split at hg
 ·rename_i xs k hh;cases hg;simp?[Rep] at r1 r2;let⟨a,vs,rfl,ha,ra⟩:=r1;have ok:=hh.1;unfold Bx at ok;rw[zF] at ok;refine⟨a,k,vs,rfl,r2,aK sm ha,yR ok.1,yR ok.2,by rw[ra.length];exact hh.2,λe=>q _ H HF (.refl sm) ?_,λp hp=>q _ _ _ (.new sm hp) (eY (sm.free hp) (oq ra _))⟩;simp?[Rep];refine⟨a,vs,rfl,ha,?_⟩;have:=oq ra k.toNat;rw[e] at this;exact this
 ·cases hg
end Dl
namespace En
open PySem PyProof.Rows
def Xe(hh:A.handled=none)(hl:s.heap.IsTuple l its)(hi:IntsAre its.toList ns)(hb:its.size+1 < scanBound)
  (h:∀ (h':Heap) (tk:Nat),h'.SetOf (intKind prog w) s.heap.objs.size (λk'=>(firstMet (λi=>ns.getD i 0) its.size).any (· == k')) (firstMet (λi=>ns.getD i 0) its.size).length->(∀b o,b < s.heap.objs.size->s.heap.get? b=some o->h'.get? b=some o)->Q (.ref s.heap.objs.size) { s with heap:=h',toks:=tk }) :
  wpAny (model prog w) A (call (.type "set") [.ref l]) Q E s:=by
 let⟨c,tl,ahp⟩:=F.called_set.mro;have af5:=F.called_set.made;have abp:=F.called_set.sub;refine vU (codeAny_of_tree ?_);show wpAny _ _ (callAny (.type "set") _) _ _ _;refine zW ⟨Zh _ (by decide +kernel),kK F.entry_type_call ?_⟩;rw[Around.under_plain (weight_type_call_type "set" [.ref l] []) rfl];have h1:=F.called_set.notType;have h2:=F.called_set.canCreate;have hct:=F.typeCall_set_1 (.ref l)
 repeat (any_goals (first|assumption|wp_step))
 refine jU (code_set_new_1 (.ref l) (E:=E) (Q₁:=λobj s1=>∃led:Bool,obj=.ref s.heap.objs.size/\s1={ s with heap:=s.heap.push { cls:=.type "set",dict:=none,data:=.set #[] 0 (.fresh 0 0 led) } }) λled=>⟨led,rfl,rfl⟩) λr s1 hr=>?_;cases r with
 | error e=>exact hr
 | ok fl =>
  cases fl with
  | ret obj =>
   let⟨led,rfl,rfl⟩:=hr;have hS:(s.heap.push { cls:=.type "set",dict:=none,data:=.set #[] 0 (.fresh 0 0 led) }).get? s.heap.objs.size=some { cls:=.type "set",dict:=none,data:=.set #[] 0 (.fresh 0 0 led) }:=by exact zX _ rfl
   have hT:Shared.TypeIs { s with heap:=s.heap.push { cls:=.type "set",dict:=none,data:=.set #[] 0 (.fresh 0 0 led) } } (.ref s.heap.objs.size) "set":=⟨_,hS,rfl⟩
   have hli:=F.called_set.init.lookup;have hbi:=F.called_set.init.bind (.ref s.heap.objs.size)
   repeat (any_goals (first|assumption|wp_step))
   refine jU (wU (R:=wants (λr s2=>r=.none/\∃h' tk,s2={ s with heap:=h',toks:=tk }/\h'.SetOf (intKind prog w) s.heap.objs.size (λk'=>(firstMet (λi=>ns.getD i 0) its.size).any (· == k')) (firstMet (λi=>ns.getD i 0) its.size).length /\
     (∀b o,b < s.heap.objs.size->s.heap.get? b=some o->h'.get? b=some o)) E) F.called_set.init.plain F.entry_set_init (check_set_init_1 hT ?_)) λr2 s2 hr2=>?_
   ·let⟨ol,hol,Vp,nl,hdl⟩:=hl;let⟨ahq,abr,af8,aaf⟩:=ol;simp only at Vp hdl;subst Vp hdl;have abt:(s.heap.push { cls:=.type "set",dict:=none,data:=.set #[] 0 (.fresh 0 0 led) }).get? l=some { cls:=.type "tuple",dict:=abr,data:=.seq its nl,slots:=aaf }:=zU _ hol;have ahr:=F.sub_tuple_set;have ahs:=F.sub_tuple_frozenset;have UN:(Value.type "tuple" == Value.type "dict")=false:=by decide
    have hl1:(s.heap.push { cls:=.type "set",dict:=none,data:=.set #[] 0 (.fresh 0 0 led) }).IsTuple l its:=⟨_,abt,rfl,nl,rfl⟩
    unfold Builtin.«set.__init__» noKeywords Builtin.Frozenset.updateFrom;generalize hPI:pyIter=PI
    wp_walk
    subst hPI;refine xU hl1 (zV (wpAny_runValue ?_));have hlS:l < s.heap.objs.size:=zY hol;have hh3:A.in1.in1.in1.handled=none:=by simp[hh]
    have aem:l≠(s.heap.push { cls:=.type "set",dict:=none,data:=.set #[] 0 (.fresh 0 0 led) }).objs.size:=by rw[xM];exact yS (jQ hlS)
    have hSf:s.heap.objs.size∉[(s.heap.push { cls:=.type "set",dict:=none,data:=.set #[] 0 (.fresh 0 0 led) }).objs.size,l]:=by
     rw[xM];simp?[zQ,yF,xW,not_or];exact⟨yS (kZ _),jK hlS⟩
    have aen:∀ (i:Nat) (v:Value),its[i]?=some v->∃t,v=.int ((λi=>ns.getD i 0) i) t:=λi v hv=>IntsAre.int_at hi i v (by rw[Array.getElem?_toList];exact hv);refine codeAny_set_update_loopS ((Walks.tuple hh3 _ l aem its).toS) s.heap.objs.size hSf (λi=>ns.getD i 0) aen hb (its.size - 0) 0 _ (by lia) (xX _) ⟨⟨_,zX _ rfl,rfl,rfl⟩,?ht⟩ ?hS0 ?hR
    case ht=>exact⟨_,zU _ abt,rfl,nl,rfl⟩
    case hS0 =>
     have aeo:((s.heap.push { cls:=.type "set",dict:=none,data:=.set #[] 0 (.fresh 0 0 led) }).push { cls:=.type "tuple_iterator",data:=.fields #[.ref l,.int 0 0] }).get? s.heap.objs.size=some { cls:=.type "set",dict:=none,data:=.set #[] 0 (.fresh 0 0 led) }:=by exact zU _ hS
     exact SetOf_congr ((setObjOf_fresh (knd:=intKind prog w) led).setOf aeo (by unfold scanBound;lia)) (λ_=>rfl) rfl
    case hR =>
     intro s' hm hS';let⟨h',g',d',tk',os'⟩:=s';have eg:g'=s.gens:=hm.gens;have ed:d'=s.drawn:=hm.drawn;have eo:os'=s.os:=hm.os;subst eg ed eo;show wpAny _ _ _ _ _ _;refine zW ?_;show wpAny _ _ (ret Value.none) _ _ _;refine zW ⟨rfl,h',tk',rfl,hS',λb o V8 e=>?_⟩;refine hm.heap b o ?_ (zU _ (zU _ e));simp?[zQ,yF,xW,not_or];exact⟨yS V8,by rw[xM];exact yS (jQ V8)⟩
   ·cases r2 with
    | error e=>exact hr2
    | ok fl2 =>
     cases fl2 with
     | ret r =>
      let⟨rfl,h',tk,rfl,hS',U0⟩:=hr2
      repeat (any_goals (first|assumption|wp_step))
      exact h _ _ hS' U0
     | _=>exact hr2.elim
  | _=>exact hr.elim
end En
namespace Dl
open PySem L2 PySem.Spec PyProof.Rows
def many(ns:List Int):Nat:=(firstMet (λi=>ns.getD i 0) ns.length).length
def FQ(hc:X.calm=true):f9 X (.type "set") (λxs H Q=>∃ (a:Addr) (ns:List Int),xs=[.ref a]/\ku X.K H a (ns.map V.int)/\ns.length+1 < scanBound/\∀q S,H q=none->Q (.ref q) (upd H q (.set S (many ns)))):=by
 intro pins s σ H xs us Q I r h;let⟨a,ns,rfl,hq,hb,q⟩:=h;let⟨u,rfl,rx⟩:=vals1 r;cases rx;let⟨its,rv,pl,hz⟩:=I.tuple hq;have hi:IntsAre its.toArray.toList ns:=intsAre_of rv;have hlen:its.toArray.size=ns.length:=by have:=rv.length;simpa using this.symm
 refine En.Xe (I.ok.hd hc) (show s.heap.IsTuple a its.toArray from pl) hi (by rw[hlen];exact hb) λh' tk hS hk=>?_;rw[hlen] at hS;exact⟨.ref s.heap.objs.size,_,I.laid (t':=tk) (λb o e=>hk b o (zY e) e) (yN _) (show eH X.prog X.w _ h' _ (.set _ (many ns)) from hS),rfl,q _ _ I.fresh⟩
def vb:f9 X (.builtin "len") (λxs H Q=>∃ (a:Addr) (S:Int->Bool) (n:Nat),xs=[.ref a]/\H a=some (.set S n)/\Q (.int n) H):=by
 intro pins s σ H xs us Q I r h;let⟨a,S,n,rfl,hq,q⟩:=h;let⟨u,rfl,rx⟩:=vals1 r;cases rx;let⟨o,es,ep,t,ho,hex,hd,hel,WH,UQ,hf,hn⟩:=(show s.heap.SetOf (intKind X.prog X.w) a S n from I.UC a _ hq)
 have Wz:((es.size:Nat):Int) < 2 ^ 63:=by unfold scanBound at UQ;lia
 refine call_len_set ho hex hd hf Wz ⟨.int n,H,I.tok _,⟨s.toks+1,by rw[hn]⟩,q⟩
def l6:D->Option D:=λd=>(rg d).bind λns=>if ns.length+1 < scanBound then some (.int (many ns)) else none
def FR(hc:X.calm=true)(B:p8 X "len" (.builtin "len"))(C:p8 X "set" (.type "set"))(h:DE X e f)(he:starEach [e] X.env=(false,eval e X.env)::starEach [] X.env:=by rfl) :
  DE X (.Call (.Name "len" p) [.Call (.Name "set" p') [e] [] pos'] [] pos) (f1 l6 f) :=
 bb (lL vb B.gl B.mg B.bt (bO (o9 (FQ hc) C.gl C.mg C.bt (bO h dB he) (by decide) (by decide) he rfl) dB) (by decide) (by decide) rfl rfl) λσ H Q ⟨HF,ρ,d,sm,eo,hf,q⟩=>by
  let⟨x,hx,hf⟩:=bs hf;let⟨ns,h1,hf⟩:=bs hf;split at hf
  ·rename_i hb;cases hf;refine⟨HF,ρ,x,sm,eo,hx,λv1 H1 UB g1 r1=>?_⟩;rw[wx h1] at r1;simp?[Rep] at r1;let⟨a,vs,rfl,hs,rr⟩:=r1;have key:∀ {ns:List Int}{ws:List V},ax X.K UB (ns.map PyData.int) ws->ws=ns.map V.int:=λ{ns}=>by
    induction ns with
    | nil=>exactλh=>h.nil_inv
    | cons n ns ih =>
     intro ws h;let⟨v,r,rfl,a,b⟩:=h.cons_inv;simp?[Rep] at a;rw[a,ih b];rfl
   have:=key rr;subst this;refine⟨a,ns,rfl,aK g1.fh hs,hb,λb S V8=>⟨b,S,_,rfl,aH,q _ _ UB (g1.trans (.own g1.fh V8)) (by simp[Rep])⟩⟩
  ·cases hf
def lN(val:Nat->Int):∀i,(firstMet val i).length=i↔((List.range i).map val).Nodup
 | 0=>by simp[firstMet]
 | i+1=>by
  have hle:=firstMet_length_le val i;rw[firstMet_succ,step_length,wF,jC,Zr];have ha:=firstMet_any val i (val i);have ih:=lN val i;constructor
  ·intro h;by_cases Xj:(firstMet val i).any (· == val i)=true
   ·rw[yM Xj] at h;lia
   ·rw[yO Xj] at h;refine⟨ih.mp (by lia),by simp,λa hm b hb z=>?_⟩;have V8:b=val i:=by simpa using hb
    subst z V8;rw[ha] at Xj;exact Xj (List.any_eq_true.mpr ⟨_,hm,by simp⟩)
  ·rintro⟨h1,_,h3⟩;rw[yO ?_]
   ·rw[ih.mpr h1]
   ·rw[ha];intro Xj;let⟨x,hx,he⟩:=List.any_eq_true.mp Xj;have he':x=val i:=by simpa using he
    exact h3 x hx (val i) (by simp) he'
def CV(ns:List Int):many ns=ns.length↔ns.Nodup:=by
 unfold many;rw[lN];have:(List.range ns.length).map (λi=>ns.getD i 0)=ns:=lK ns 0;rw[this]
def Bz{K:W.Frag}(h:gD K r g)(h':gD K r' g'):gD K (λx y H Q=>r x y H Q\/r' x y H Q) (λx y=>(g x y).or (g' x y)):=by
 intro HF H x y v1 v2 d Q sm r1 r2 hg q;cases e:g x y with
 | some d' =>
  have hg:(g x y).or (g' x y)=some d:=hg;rw[e] at hg;cases hg;exact .inl (h HF H x y v1 v2 d Q sm r1 r2 e q)
 | none =>
  have hg:(g x y).or (g' x y)=some d:=hg;rw[e] at hg;exact .inr (h' HF H x y v1 v2 d Q sm r1 r2 hg q)
def Fo{K:W.Frag}:gD K (Ht K) (λx y=>(p9 x y).map PyData.list):=by
 intro HF H x y v1 v2 d Q sm r1 r2 hg q;let⟨zs,hg',rfl⟩:=ah hg;clear hg;cases x<;>cases y<;>simp?[p9] at hg'<;>try cases hg'
 let⟨rfl,hz⟩:=e8 hg';simp?[Rep] at r1 r2;let⟨a,vs,rfl,ha,ra⟩:=r1;let⟨b,us,rfl,hb,rb⟩:=r2;refine⟨a,b,vs,us,rfl,rfl,sm.seq ha,sm.seq hb,by rw[ra.length,rb.length,<- zN];exact hz,λp hp=>q _ _ _ (.new sm hp) ?_⟩;simp?[Rep];exact⟨p,_,rfl,.inl (.inl aH),(ra.append rb).mono (eA (sm.free hp))⟩
def aL:D->D->Option D:=λx y=>((zt (λ_ _=>True) λi j=>.int (i+j)) x y).or ((L9 x y).or ((p9 x y).map PyData.list))
def Bk.add(C:Bk X N sc k)(ha:DE X a fa)(hb:DE X b fb):DE X (.BinOp a .Add b pos) (f2 aL fa fb):=AC (On.or (Fy.or tQ)) (Bz Gx (Bz L6 Fo)) ha hb
def jd:D->D->Option D:=zt (λ_ _=>True) λi j=>.int (i - j)
def Bk.sub(C:Bk X N sc k)(ha:DE X a fa)(hb:DE X b fb):DE X (.BinOp a .Sub b pos) (f2 jd fa fb):=AC Nn Gx ha hb
def eQ:D->D->Option D:=λx y=>((zt yj λi j=>.int (i * j)) x y).or (IV x y)
def Bk.mul(C:Bk X N sc k)(ha:DE X a fa)(hb:DE X b fb):DE X (.BinOp a .Mult b pos) (f2 eQ fa fb):=AC (Nf.or Mo) (Bz Ig HA) ha hb
def nz:D->D->Option D:=zt KH λi j=>.int (i / j)
def Bk.div(C:Bk X N sc k)(ha:DE X a fa)(hb:DE X b fb):DE X (.BinOp a .FloorDiv b pos) (f2 nz fa fb):=AC Md Ig ha hb
def mh:D->D->Option D:=zt (λ_ j=>0 < j) λi j=>.int (i % j)
def Bk.mod(C:Bk X N sc k)(ha:DE X a fa)(hb:DE X b fb):DE X (.BinOp a .Mod b pos) (f2 mh fa fb):=AC NB Ig ha hb
def Bq:D->D->Option D:=zt (λ_ _=>True) λi j=>.bool (decide (i < j))
def EK:D->D->Option D:=zt (λ_ _=>True) λi j=>.bool (decide (i<=j))
def Bu:D->D->Option D:=zt (λ_ _=>True) λi j=>.bool (decide (j < i))
def bC:D->D->Option D:=λx y=>(Lf x y).map PyData.bool
def gN:D->D->Option D:=λx y=>(Kt x y).map PyData.bool
def Bk.u64(C:Bk X N sc k):X.A.units+64 < cLine:=C.room.units
def Bk.lt(C:Bk X N sc k)(ha:DE X a fa)(hb:DE X b fb):DE X (.Compare a [.Lt] [b] pos) (f2 Bq fa fb):=m5 Jy lH ha hb (dQ _)
def Bk.le(C:Bk X N sc k)(ha:DE X a fa)(hb:DE X b fb):DE X (.Compare a [.LtE] [b] pos) (f2 EK fa fb):=m5 Gi lH ha hb (dQ _)
def Bk.gt(C:Bk X N sc k)(ha:DE X a fa)(hb:DE X b fb):DE X (.Compare a [.Gt] [b] pos) (f2 Bu fa fb):=m5 MF lH ha hb (dQ _)
def Bk.eq(C:Bk X N sc k)(ha:DE X a fa)(hb:DE X b fb):DE X (.Compare a [.Eq] [b] pos) (f2 bC fa fb):=m5 (Je C.u64) zl ha hb (dQ _)
def Bk.ne(C:Bk X N sc k)(ha:DE X a fa)(hb:DE X b fb):DE X (.Compare a [.NotEq] [b] pos) (f2 gN fa fb):=m5 (JT C.u64) zl ha hb (dQ _)
def Bk.tlt(C:Bk X N sc k)(ha:DE X a fa)(hb:DE X b fb):DT X (.Compare a [.Lt] [b] pos) (fB (f2 Bq fa fb)):=mJ Jy lH ha hb (dQ _)
def Bk.tle(C:Bk X N sc k)(ha:DE X a fa)(hb:DE X b fb):DT X (.Compare a [.LtE] [b] pos) (fB (f2 EK fa fb)):=mJ Gi lH ha hb (dQ _)
def Bk.tgt(C:Bk X N sc k)(ha:DE X a fa)(hb:DE X b fb):DT X (.Compare a [.Gt] [b] pos) (fB (f2 Bu fa fb)):=mJ MF lH ha hb (dQ _)
def Bk.teq(C:Bk X N sc k)(ha:DE X a fa)(hb:DE X b fb):DT X (.Compare a [.Eq] [b] pos) (fB (f2 bC fa fb)):=mJ (Je C.u64) zl ha hb (dQ _)
def Bk.tne(C:Bk X N sc k)(ha:DE X a fa)(hb:DE X b fb):DT X (.Compare a [.NotEq] [b] pos) (fB (f2 gN fa fb)):=mJ (JT C.u64) zl ha hb (dQ _)
def cU:D->Option Int->Option Int->Option D|.tuple ds,lo,hi=>some (.tuple (cut ds lo hi))|.list ds,lo,hi=>some (.list (cut ds lo hi))|_,_,_=>none
def Bk.cut(C:Bk X N sc k){lo:Option Expr}{fl:Env->Option (Option Int)}(ha:DE X a fa)(hl:DO X lo fl)(hh:DO X hi fh):DE X (.Subscript a (.Slice lo hi none p2) pos) (gE cU fa fl fh):=bb (Im (Pk.or Ks) ha hl hh) λσ H Q ⟨HF,ρ,d,sm,eo,hf,q⟩=>by
 let⟨x,hx,hf⟩:=bs hf;let⟨l,hl,hf⟩:=bs hf;let⟨u,hu,hf⟩:=bs hf;refine⟨HF,ρ,x,sm,eo,hx,λv1 H1 UB g1 r1=>⟨UB,ρ,l,g1.fh,eo.mono g1.ff,hl,λH2 UL g2=>⟨UL,ρ,u,g2.fh,eo.mono (g1.ff.trans g2.ff),hu,λH3 U3 g3=>?_⟩⟩⟩;have G:=(g1.trans g2).trans g3;have r3:=r1.mono (g2.ff.trans g3.ff);cases x<;>try cases hf
 ·simp?[Rep] at r3;let⟨b,vs,rfl,hs,rr⟩:=r3;refine .inr ⟨b,vs,rfl,G.fh.seq hs,λp hp=>q _ _ _ (G.trans (.new G.fh hp)) ?_⟩;simp?[Rep];exact⟨p,_,rfl,.inl (.inl aH),(sg rr l u).mono (eA (G.fh.free hp))⟩
 ·simp?[Rep] at r3;let⟨b,vs,rfl,hs,rr⟩:=r3;refine .inl ⟨b,vs,rfl,aK G.fh hs,λe=>q _ H3 U3 G ?_,λp hp=>q _ _ _ (G.trans (.new G.fh hp)) (eY (G.fh.free hp) (sg rr l u))⟩;simp?[Rep];refine⟨b,vs,rfl,hs,?_⟩;have:=sg rr l u;rw[e] at this;exact this
def Kb:D->Option D|.int i=>some (.int (-i))|_=>none
def Bk.neg(C:Bk X N sc k)(ha:DE X a fa):DE X (.UnaryOp .USub a pos) (f1 Kb fa):=bb (Rb N2 ha) λσ H Q ⟨HF,ρ,d,sm,eo,hf,q⟩=>by
 let⟨x,hx,hf⟩:=bs hf;refine⟨HF,ρ,x,sm,eo,hx,λv1 H1 UB g1 r1=>?_⟩;cases x<;>try cases hf
 exact⟨_,by simpa only[Rep] using r1,q _ H1 UB g1 (by simp[Rep])⟩
def CQ:bootBuiltins "len"=some (.builtin "len"):=by decide +kernel
def uk:bootBuiltins "isinstance"=some (.builtin "isinstance"):=by decide +kernel
def J0:bootBuiltins "tuple"=some (.type "tuple"):=by decide +kernel
def A4:bootBuiltins "range"=some (.type "range"):=by decide +kernel
def OQ:bootBuiltins "all"=some (.builtin "all"):=by decide +kernel
def Hm:bootBuiltins "set"=some (.type "set"):=by decide +kernel
def o6:bootBuiltins "sorted"=some (.builtin "sorted"):=by decide +kernel
def zi:bootBuiltins "enumerate"=some (.type "enumerate"):=by decide +kernel
def NK:bootBuiltins "zip"=some (.type "zip"):=by decide +kernel
abbrev bS(f:Env->Option (List D)):Env->Option D:=λρ=>(f ρ).map PyData.list
abbrev bp:List D->Option D:=λds=>(eO ds).map PyData.tuple
def Bk.aag(C:Bk X N sc k)(h:decide (sc.names.lookup x=some .local)=true):X.env.scope.names.lookup x=some .local:=by
 rcases C.tb x _ (yR h) with q|⟨q,_⟩
 ·exact q
 ·cases q
def isStar:Expr->Bool|.Starred ..=>true|_=>false
def bj{env:PySem.Env}(h:isStar e=false):starEach (e::es) env=(false,eval e env)::starEach es env:=by
 cases e<;>first|rfl|cases h
def Ol(he:DE X e f)(hs:DA X es g)(h:isStar e=false:=by rfl):DA X (e::es) (aa f g):=Ea he hs (bj h)
def tJ{env:PySem.Env}:swapsWith (.ListComp elt gens scope pos) (some (.Name x py)) line env=pure (env.blockKind == .function&&env.kindOf x == some .local && py.line == pos.line
     &&!(scope.names.any λ(n,k)=>n == x&&(k == .local || k == .cell))):=rfl
def Mx{env:PySem.Env}(h:env.scope.kind=.function):env.blockKind=.function:=by unfold PySem.Env.blockKind;rw[h];rfl
def Bk.swap(C:Bk X N sc k)(h:decide (sc.names.lookup x=some .local)=true)(h2:(py.line == pos.line&&!(scope.names.any λ(n,k)=>n == x&&(k == .local || k == .cell)))=true) :
  swapsWith (.ListComp elt gens scope pos) (some (.Name x py)) line X.env=pure true:=by
 rw[tJ,Mx C.kd,show X.env.kindOf x=some .local from C.aag h];rw[Bool.and_assoc,h2];rfl
def Bk.aah(C:Bk X N sc k)(h:decide (sc.names.lookup x=some .cell)=true) :
  swapsWith (.ListComp elt gens scope pos) (some (.Name x py)) line X.env=pure false:=by
 have q:X.env.kindOf x=some .cell:=by
  rcases C.tb x _ (yR h) with q|⟨q,_⟩
  ·exact q
  ·cases q
 rw[tJ,q,Mx C.kd];rfl
section
variable {K:W.Frag}
structure hV(K:W.Frag)(x:Str)(st:Stmt)(ps:List Str):Prop where
 ex:∃ (f:Addr) (fd:FuncData),W.nsIn K mainGlobals x=some (some (.ref f))/\Hu K x x st f fd/\Binds K fd ps []
structure BN(K:W.Frag)(mg:Str->Option Value)(x:Str)(st:Stmt)(ps:List Str):Prop where
 ex:∃ (f:Addr) (fd:FuncData),mg x=some (.ref f)/\Hu K x x st f fd/\Binds K fd ps []
def hV.mg{h:Heap}{mg:Str->Option Value}{st:Stmt}(D:hV K x st ps)(X:K.In h)(G:h.Ns mainGlobals mg):BN K mg x st ps:=by
 let⟨f,fd,a,b,c⟩:=D.ex;exact⟨f,fd,W.mg_of X G a,b,c⟩
def gT(st:Stmt)(ps:List Str):Prop:=∀ (x qual:Str) (kV doc pm:Value) (an:Option Addr) (UT ct:Value) (us:List Value),us.length=ps.length->bindArgs (W.fnOf x qual (gy st) (bx st) (ai st) .none kV doc pm an UT ct) ⟨us,[]⟩=pure (ps.zip us)
def QY{st:Stmt}{kV:Value}(hb:gT st ps)(a:W.nsIn K mainGlobals x=some (some (.ref f)))(l:K.lookup f=some ⟨oc,od,.func (W.fnOf x x (gy st) (bx st) (ai st) .none kV doc pm an UT ct),Wx⟩)
  (c:W.codeIn K UT x=true) (k:W.keepIn K (.ref f)=true):hV K x st ps:=⟨f,_,a,yv (st:=st) l c k,(yv (st:=st) l c k).binds λkV doc pm an UT ct us h=>hb _ _ kV doc pm an UT ct us h⟩
structure pR(K:W.Frag)(x:Str)(st:Stmt)(ps:List Str):Prop where
 ex:∃ (f:Addr) (fd:FuncData) (c P:Addr),W.nsIn K mainGlobals x=some (some (.ref f))/\Hu K x x st f fd/\Binds K fd ps []/\fd.code=.ref c/\W.codeHdIn K c P=true
structure OV(K:W.Frag)(mg:Str->Option Value)(x:Str)(st:Stmt)(ps:List Str):Prop where
 ex:∃ (f:Addr) (fd:FuncData) (c P:Addr),mg x=some (.ref f)/\Hu K x x st f fd/\Binds K fd ps []/\fd.code=.ref c/\W.codeHdIn K c P=true
def pR.mg{h:Heap}{mg:Str->Option Value}{st:Stmt}(D:pR K x st ps)(X:K.In h)(G:h.Ns mainGlobals mg):OV K mg x st ps:=by
 let⟨f,fd,c,P,a,b⟩:=D.ex;exact⟨f,fd,c,P,W.mg_of X G a,b⟩
def HG(K:W.Frag)(c:Addr):Addr:=match K.lookup c with
 | some ⟨_,_,.fields vs,_⟩=>(match (vs[11]?:Option Value) with|some (.ref P)=>P|_=>0)
 | _=>0
def Qo{st:Stmt}{kV:Value}(hb:gT st ps)(a:W.nsIn K mainGlobals x=some (some (.ref f)))(l:K.lookup f=some ⟨oc,od,.func (W.fnOf x x (gy st) (bx st) (ai st) .none kV doc pm an (.ref c) ct),Wx⟩)
  (cd:W.codeIn K (.ref c) x=true) (k:W.keepIn K (.ref f)=true) (hh:W.codeHdIn K c (HG K c)=true):pR K x st ps:=⟨f,_,c,HG K c,a,yv (st:=st) l cd k,(yv (st:=st) l cd k).binds λkV doc pm an UT ct us h=>hb _ _ kV doc pm an UT ct us h,rfl,hh⟩
def NW{K:W.Frag}(h:(cL.all λx=>match W.nsIn K mainGlobals x with|some none=>true|_=>false)=true):∀x∈cL,W.nsIn K mainGlobals x=some none:=by
 intro x hx;have:=List.all_eq_true.mp h x hx;split at this
 ·assumption
 ·cases this
def B6{K:W.Frag}{H:Hp}{a:Addr}{ns:List Int}{m:List D->Option D}(hS:iM K H a (ns.map V.int))(hT:eS K H)(h:m [.list (ns.map PyData.int)]=some (.bool true)){X:_}:Pq K 1 m [.ref a] H (λv _=>v=.bl true) X:=by
 refine⟨H,[.list (ns.map PyData.int)],.bool true,.refl _,hT,ax.cons ?_ ax.nil,rfl,h,λv H' UA G r=>by simpa only[Rep] using r⟩;simp?[Rep];refine⟨a,_,rfl,hS,?_⟩;clear h hS hT
 induction ns with
 | nil=>exact ax.nil
 | cons n ns ih=>exact ax.cons (by simp[Rep]) ih
end
def RK(h:isStar e=false)(he:DE X e f)(hs:DA X es g):DA X (e::es) (aa f g):=Ol he hs h
def PH:au->Option Out:=λ_=>none
def P7{st:Stmt}:DS X Uy Uz st PH:=λpins s σ H E I ⟨HF,ρ,o,S,hg,q⟩=>by cases hg
def jn(f:Env->Option D):au->Option Out:=λρ=>(f (aG ρ)).map λ_=>.nx ρ
def Kn(hs:swapsWith e none pos.line X.env=pure false)(h:DE X e f):DS X Uy Uz (.Expr e pos) (jn f):=cq (n6 h hs) λE σ H ⟨HF,ρ,o,S,hg,q⟩=>by
 let⟨d,h,rfl⟩:=ah hg;exact⟨H,aG ρ,d,.refl _,S.all,h,λv H' UA G r=>q σ H' HF (S.step G.hh) (.refl _)⟩
def Lj(t:Env->Option Bool)(gb:au->Option Out):Nat->au->Option Out
 | 0,_=>none
 | n+1,ρ=>(t (aG ρ)).bind λb=>if b=true then (gb ρ).bind fun|.nx ρ'=>Lj t gb n ρ'|.rt d=>some (.rt d) else some (.nx ρ)
def Ii(n:Nat)(hp:PassesOwn (model X.prog X.w) X.A X.env X.xe)(hc:DT X c t)(hb:C7 X Uy Uz body gb):DS X Uy Uz (.While c body [] pos) (Lj t gb n) :=
 cq (JF hp hc hb) λE σ H ⟨HF,ρ,o,S,hg,q⟩=>by
  refine⟨λm σ' H'=>∃UA ρ',ki X.K Uy Uz UA H' ρ' σ'/\aS HF UA/\Lj t gb m ρ'=some o,⟨n,HF,ρ,S,.refl _,hg⟩,?_⟩;rintro m σ' H' ⟨UA,ρ',S',s',hf⟩;cases m with
  | zero=>cases hf
  | succ m =>
   unfold Lj at hf;let⟨b,hb,hf⟩:=bs hf;refine⟨H',aG ρ',b,.refl _,S'.all,hb,λH1 UB G=>?_⟩;cases b with
   | false =>
    rw[yO xA] at hf ⊢;cases hf;exact q σ' H1 UA (S'.step G.hh) s'
   | true =>
    rw[yM rfl] at hf ⊢;let⟨o1,h2,hf⟩:=bs hf;refine⟨λWS H3=>∃U3 Yl,ki X.K Uy Uz U3 H3 Yl WS/\aS HF U3/\Lj t gb m Yl=some o,λWS H3 ⟨U3,Yl,a1,a2,a3⟩=>⟨m,kZ _,U3,Yl,a1,a2,a3⟩,UA,ρ',o1,S'.step G.hh,h2,?_⟩;cases o1 with
    | nx VO=>exactλσ4 H4 Vy S4 s4=>⟨Vy,VO,S4,s'.trans s4,hf⟩
    | rt d=>cases hf;exact q
def AU:List D->Option D
 | [.int a,.int b]=>some (.int (min a b))
 | [.int a,.int b,.int c]=>some (.int (min (min a b) c))
 | _=>none
def GR(hc:X.calm=true):f9 X (.builtin "min") (λxs H Q=>(∃a b:Int,xs=[.int a,.int b]/\Q (.int (min a b)) H)\/(∃a b c:Int,xs=[.int a,.int b,.int c]/\Q (.int (min (min a b) c)) H)):=by
 intro pins s σ H xs us Q I r h;have hh:X.A.handled=none:=I.ok.hd hc;rcases h with ⟨a,b,rfl,q⟩|⟨a,b,c,rfl,q⟩
 ·cases r with
  | cons r1 r =>
   cases r with
   | cons r2 r =>
    cases r;let⟨t,rfl⟩:=r1;let⟨u,rfl⟩:=r2;refine min_two_ints hh λh' tk kp=>⟨.int (min a b),H,I.kept (t':=tk) kp,?_,q⟩
    by_cases h:b < a
    ·rw[yM h,show min a b=b by lia];exact⟨_,rfl⟩
    ·rw[yO h,show min a b=a by lia];exact⟨_,rfl⟩
 ·cases r with
  | cons r1 r =>
   cases r with
   | cons r2 r =>
    cases r with
    | cons r3 r =>
     cases r;let⟨t,rfl⟩:=r1;let⟨u,rfl⟩:=r2;let⟨x,rfl⟩:=r3;refine min_three_ints hh λh' tk kp=>⟨.int (min (min a b) c),H,I.kept (t':=tk) kp,?_,q⟩
     by_cases h:b < a
     ·rw[yM h];by_cases h2:c < b
      ·rw[yM h2,show min (min a b) c=c by lia];exact⟨_,rfl⟩
      ·rw[yO h2,show min (min a b) c=b by lia];exact⟨_,rfl⟩
     ·rw[yO h];by_cases h2:c < a
      ·rw[yM h2,show min (min a b) c=c by lia];exact⟨_,rfl⟩
      ·rw[yO h2,show min (min a b) c=a by lia];exact⟨_,rfl⟩
def Ad{K:W.Frag}(r:Rep K H d v):∀ {ds:List D}{vs:List V}(j:Nat),ax K H ds vs->ax K H (ds.set j d) (vs.set j v)
 | [],vs,j,h=>by rw[h.nil_inv];exact ax.nil
 | x::ds,vs,j,h=>by
  let⟨u,us,rfl,a,b⟩:=h.cons_inv;cases j with
  | zero=>exact ax.cons r b
  | succ j=>exact ax.cons a (Ad r j b)
def Cy(i:Nat)(fz:List Nat)(fk f:Env->Option D):au->Option Out:=λρ=>(kh fz f ρ).bind λp=>(fk (aG p.2)).bind λkd=>match kd with
 | .int k=>oE i (λds=>(DZ ds.length k).map λj=>ds.set j p.1) p.2
 | _=>none
def JZ(i:Nat)(fz:List Nat)(hN:X.N[i]?=some x)(hv:Kr X.env.scope x)(hk:DE X e fk)(h:DE X e2 f)(hd:(x == ("__debug__":Str))=false:=by decide)(Vd:(x == ("__classdict__":Str))=false:=by decide)
  (ha:∀v,assign (.Subscript (.Name x px) e Vw) X.env v=(do
   let ov <- holding [v] (eval (.Name x px) X.env)
   let iv <- holding [v,ov] (eval e X.env)
   standAt Vw
   holding [v,ov,iv] (setItem ov iv v)
   release [v,ov,iv] []):=by intro _;rfl)
  (hs:swapsWithSole [.Subscript (.Name x px) e Vw] e2 pos.line X.env=pure false:=by rfl) (hw:swappedStores [.Subscript (.Name x px) e Vw] e2 X.env=pure none:=by rfl)
  (h1:(assignEach [.Subscript (.Name x px) e Vw] X.env).map (·.2)=[assign (.Subscript (.Name x px) e Vw) X.env]:=by rfl):DS X Uy Uz (.Assign [.Subscript (.Name x px) e Vw] e2 pos) (Cy i fz fk f) :=
 cq (HR h (M7 (ll hN hv hd Vd) hk set_list ha) hs hw h1) λE σ H ⟨HF,ρ,o,S,hg,q⟩=>by
  let⟨⟨d,ρ'⟩,h1,hg⟩:=bs hg;let⟨kd,h2,hg⟩:=bs hg;cases kd<;>try cases hg
  rename_i k;let⟨ds,es,h3,h4,rfl⟩:=l4 hg;let⟨j,hj,rfl⟩:=ah h4;refine o5 S h1 λv H1 UB s1 S1 s2 r=>?_;let⟨a,vs,e1,e2,e3,e5,e4⟩:=S1.own i ds h3;refine⟨.ref a,e1,H1,aG ρ',.int k,.refl _,S1.all,h2,λkv H2 UL G rk=>?_⟩;simp?[Rep] at rk;have S2:=S1.step G.hh;let⟨a',YN,f1,f2,f3,f5,f4⟩:=S2.own i ds h3;rw[e1] at f1;cases f1;exact⟨a,YN,k,j,rfl,rk,f2,by rw[f4.length];exact hj,q σ _ UB (S2.mut h3 e1 f2 (Ad r j f4)) s1⟩
def Rn:D->Bool|.none=>true|_=>false
def qp{K:W.Frag}(r:Rep K HF d v):decide (v=.Ux)=Rn d:=by
 cases d<;>simp?[Rep] at r<;>first
  | (subst r;rfl)
  | (let⟨a,vs,rfl,_⟩:=r;rfl)
  | exact r.elim
def yg:D->D->Option D:=λx y=>if Rn y=true then some (.bool (Rn x)) else none
def rF:D->D->Option D:=λx y=>if Rn y=true then some (.bool (!Rn x)) else none
def D8{K:W.Frag}:gD K (λx y H Q=>y=.Ux/\Q (.bl (decide (x=.Ux))) H) yg:=by
 intro HF H x y v1 v2 d Q sm r1 r2 hg q;unfold yg at hg;split at hg
 ·rename_i h;cases hg;have h2:=qp r2;rw[h,zJ] at h2;refine⟨h2,?_⟩;rw[qp r1];exact q _ H HF (.refl sm) (by simp[Rep])
 ·cases hg
def Bp{K:W.Frag}:gD K (λx y H Q=>y=.Ux/\Q (.bl (!decide (x=.Ux))) H) rF:=by
 intro HF H x y v1 v2 d Q sm r1 r2 hg q;unfold rF at hg;split at hg
 ·rename_i h;cases hg;have h2:=qp r2;rw[h,zJ] at h2;refine⟨h2,?_⟩;rw[qp r1];exact q _ H HF (.refl sm) (by simp[Rep])
 ·cases hg
def Bk.is0(C:Bk X N sc k)(ha:DE X a fa)(hb:DE X b fb):DE X (.Compare a [.Is] [b] pos) (f2 yg fa fb):=m5 Gh D8 ha hb (dQ _)
def Bk.aep(C:Bk X N sc k)(ha:DE X a fa)(hb:DE X b fb):DE X (.Compare a [.IsNot] [b] pos) (f2 rF fa fb):=m5 DR Bp ha hb (dQ _)
def Bk.aeq(C:Bk X N sc k)(ha:DE X a fa)(hb:DE X b fb):DT X (.Compare a [.Is] [b] pos) (fB (f2 yg fa fb)):=mJ Gh D8 ha hb (dQ _)
def Bk.abx(C:Bk X N sc k)(ha:DE X a fa)(hb:DE X b fb):DT X (.Compare a [.IsNot] [b] pos) (fB (f2 rF fa fb)):=mJ DR Bp ha hb (dQ _)
def Ox(hc:X.calm=true)(B:p8 X "min" (.builtin "min"))(he:starEach (e::es) X.env=(false,eval e X.env)::starEach es X.env)(U7:(backTo pos (starEach es X.env)).any (·.1)=false)(ha:DA X (e::es) fs):DE X (.Call (.Name "min" p) (e::es) [] pos) (bD AU fs) :=
 lE (GR hc) (by
  intro HF H ds vs d Q sm r hg q;unfold AU at hg;split at hg
  ·cases hg;let⟨v1,r1,rfl,a1,b1⟩:=r.cons_inv;let⟨v2,r2,rfl,a2,b2⟩:=b1.cons_inv;rw[b2.nil_inv];simp?[Rep] at a1 a2;exact .inl ⟨_,_,by rw[a1,a2],q _ H HF (.refl sm) (by simp[Rep])⟩
  ·cases hg;let⟨v1,r1,rfl,a1,b1⟩:=r.cons_inv;let⟨v2,r2,rfl,a2,b2⟩:=b1.cons_inv;let⟨v3,r3,rfl,a3,b3⟩:=b2.cons_inv;rw[b3.nil_inv];simp?[Rep] at a1 a2 a3;exact .inr ⟨_,_,_,by rw[a1,a2,a3],q _ H HF (.refl sm) (by simp[Rep])⟩
  ·cases hg) B ha (by decide) (by decide) he U7
section
variable {fl fs:Env->Option (List D)}
def ED(ds:List D):D->Option (List D)
 | .int k=>if Bx k=true/\ds.length * k.toNat<=sizeLine then some (List.replicate k.toNat ds).flatten else none
 | _=>none
def uK(fl:Env->Option (List D))(fb:Env->Option D):Env->Option (List D):=λρ=>(fl ρ).bind λds=>(fb ρ).bind (ED ds)
def Pm(ha:DF X a fl)(hb:DE X b fb):DF X (.BinOp a .Mult b pos) (uK fl fb):=bb (C0 NM ha hb) λσ H Q ⟨HF,ρ,d,sm,eo,hf,q⟩=>by
 let⟨ds,hx,hf⟩:=bs hf;let⟨y,hy,hg⟩:=bs hf;refine⟨HF,ρ,ds,sm,eo,hx,λl vs H1 UB g1 h0 hn h1 r1=>⟨UB,ρ,y,g1.fh,eo.mono g1.ff,hy,λv2 H2 UL g2 r2=>?_⟩⟩;cases y<;>try cases hg
 rename_i k;have hg:(if Bx k=true/\ds.length * k.toNat<=sizeLine then some (List.replicate k.toNat ds).flatten else none)=some d:=hg;split at hg
 ·rename_i hz;cases hg;simp?[Rep] at r2;have r1:=r1.mono g2.ff;have G:=g1.trans g2;have ok:=hz.1;simp?[Bx,zF,zJ] at ok;exact⟨l,k,vs,rfl,r2,g2.hh _ _ h1,by lia,by lia,by rw[r1.length];exact hz.2,λp hp=>q p _ _ UL (G.trans (.own G.fh hp)) (G.hh.free hp) (G.fh.free hp) aH (oq r1 _)⟩
 ·cases hg
def Cs(hc:X.calm=true):f9 X (.builtin "any") (λxs H Q=>∃ (a:Addr) (bs:List Bool),xs=[.ref a]/\iM X.K H a (bs.map V.bl)/\Q (.bl (bs.any id)) H):=by
 intro pins s σ H xs us Q I r h;let⟨a,bs,rfl,hq,q⟩:=h;let⟨u,rfl,rx⟩:=vals1 r;cases rx;let⟨its,rv,pl,hz⟩:=I.list hq;have hv:=mD rv;subst hv;have hh:X.A.in1.handled=none:=I.ok.hd hc;refine call_any_walk (qM pl.isList ?_);let⟨o,ho,Vp,n,hd⟩:=pl.isList;have UN:a≠s.heap.objs.size:=yS (zY ho);refine⟨_,_,_,_,_,_,λi=>bs.getD i false,rfl,Walks.list hh s.heap.objs.size a UN (bs.map Value.bool).toArray,⟨⟨_,zX _ rfl,rfl,rfl⟩,pl.isList.push _⟩,λi v s' Q' E' hP hQ=>?_,λh' tk kp=>?_⟩
 ·have e:v=Value.bool (bs.getD i false):=by
   have hP:(bs.map Value.bool).toArray[i]?=some v:=hP;rw[wL,zO] at hP;let⟨b,hb,rfl⟩:=ah hP;rw[zG,hb];rfl
  subst e;exact xY hQ
 ·refine⟨.bl (bs.any id),H,?_,?_,q⟩
  ·exact I.kept (t':=tk) λb o' e=>kp b o' (by simp;exact yS (zY e)) (zU _ e)
  ·show Value.bool _=Value.bool _;have:=range_any bs;simp?[zH,zD];rw[this]
end
def Pi(hc:X.calm=true)(B:p8 X "any" (.builtin "any"))(he:starEach [e] X.env=(false,eval e X.env)::starEach [] X.env)(ha:DA X [e] fs):DE X (.Call (.Name "any" p) [e] [] pos) (bD (λds=>(oneOf ds).bind λd=>match d with
 | .list es=>(boolsOf es).map λbs=>.bool (bs.any id)
 | _=>none) fs) :=
 lE (Cs hc) (by
  intro HF H ds vs d Q sm r hg q;let⟨x,hx,hg⟩:=bs hg;rw[gW hx] at r;cases x<;>try cases hg
  let⟨bs,hb,rfl⟩:=ah hg;let⟨v,r',rfl,a,b⟩:=r.cons_inv;rw[b.nil_inv];simp?[Rep] at a;let⟨p,us,rfl,h,rr⟩:=a;rw[ju hb] at rr;have:=eZ rr;subst this;exact⟨p,bs,rfl,sm.seq h,q _ H HF (.refl sm) (by simp[Rep])⟩) B ha (by decide) (by decide) he rfl
def pP(ns:List Int):∀j:Nat,preSum (λi=>ns.getD i 0) j=(ns.take j).sum
 | 0=>by simp[preSum]
 | j+1=>by
  rw[preSum,pP ns j,Zq,List.sum_append]
  congr 1
  rw[zG];cases ns[j]?<;>simp
def uL(val:Nat->Int)(B:Int)(h:∀i,-B<=val i/\val i<=B):∀j:Nat,-(B * j)<=preSum val j/\preSum val j<=B * j
 | 0=>by simp[preSum]
 | j+1=>by
  have ih:=uL val B h j;have:=h j;rw[preSum];have e:B * ((j+1:Nat):Int)=B * (j:Int)+B:=by rw[Int.natCast_add,Int.mul_add];simp
  rw[e];lia
def ML(ns:List Int):Bool:=decide (ns.length<=1000)&&ns.all λn=>decide (-1000000<=n)&&decide (n<=1000000)
def Nb(h:ML ns=true):ns.length<=1000/\∀i,-1000000<=ns.getD i 0/\ns.getD i 0<=1000000:=by
 unfold ML at h;rw[zF,zJ,xI] at h;refine⟨h.1,λi=>?_⟩;rw[zG];cases e:ns[i]? with
 | none=>simp
 | some n =>
  have:=h.2 n (qD e);simpa using this
def rA{ns:List Int}{its:List Value}(r:aN (ns.map V.int) its){i:Nat}(h:its.toArray[i]?=some v):∃t,v=.int (ns.getD i 0) t:=by
 rw[wL] at h
 induction ns generalizing its i with
 | nil=>cases r;simp at h
 | cons n ns ih =>
  cases r with
  | cons r1 rr =>
   cases i with
   | zero =>
    simp?[xS,yL] at h;subst h;let⟨t,rfl⟩:=r1;exact⟨t,rfl⟩
   | succ i =>
    simp?[yZ] at h;exact ih rr h
def CS(hc:X.calm=true):f9 X (.builtin "sum") (λxs H Q=>∃ (a:Addr) (ns:List Int),xs=[.ref a]/\(iM X.K H a (ns.map V.int)\/ku X.K H a (ns.map V.int))/\ML ns=true/\Q (.int ns.sum) H):=by
 intro pins s σ H xs us Q I r h;let⟨a,ns,rfl,hq,UC,q⟩:=h;let⟨u,rfl,rx⟩:=vals1 r;cases rx;have hh:X.A.in1.handled=none:=I.ok.hd hc;let⟨hlen,hbd⟩:=Nb UC;have Xj:∀n:Nat,n<=1000->∀j,j < n->InLong ((λi=>ns.getD i 0) j)/\InLong (preSum (λi=>ns.getD i 0) (j+1)):=λn hn j hj=>by
  have h1:=hbd j;have h2:=uL (λi=>ns.getD i 0) 1000000 hbd (j+1);refine⟨⟨?_,?_⟩,?_,?_⟩
  ·show -(2 ^ 63)<=ns.getD j 0;lia
  ·show ns.getD j 0 < 2 ^ 63;lia
  ·lia
  ·lia
 have abz:preSum (λi=>ns.getD i 0) ns.length=ns.sum:=by rw[pP,List.take_length]
 rcases hq with hq|hq
 ·let⟨its,rv,pl,hz⟩:=I.list hq;have hl:its.length=ns.length:=by rw[<- rv.length,zD]
  refine call_sum_walk (qM pl.isList ?_);let⟨o,ho,Vp,n,hd⟩:=pl.isList;have UQ:=zY ho;have UN:a≠s.heap.objs.size:=yS UQ;refine⟨_,_,_,_,_,_,λi=>ns.getD i 0,rfl,Walks.list hh s.heap.objs.size a UN its.toArray,⟨⟨_,zX _ rfl,rfl,rfl⟩,pl.isList.push _⟩,λb hb=>?_,λi v hP=>rA rv hP,by rw[zH,hl];exact Xj _ hlen,λh' tk t' kp=>?_⟩
  ·show b < (s.heap.push _).objs.size;rw[xM];simp?[zQ,yF,xW] at hb;rcases hb with rfl|rfl
   ·exact kZ _
   ·exact jQ UQ
  ·refine⟨.int ns.sum,H,I.kept (t':=tk) λb o' e=>kp b o' (by simp;exact yS (zY e)) (zU _ e),⟨t',?_⟩,q⟩;rw[zH,hl,abz]
 ·let⟨its,rv,pl,hz⟩:=I.tuple hq;have pl:s.heap.IsTuple a its.toArray:=pl;have hl:its.length=ns.length:=by rw[<- rv.length,zD]
  refine call_sum_walk (xU pl ?_);let⟨o,ho,Vp,n,hd⟩:=id pl;have UQ:=zY ho;have UN:a≠s.heap.objs.size:=yS UQ;refine⟨_,_,_,_,_,_,λi=>ns.getD i 0,rfl,Walks.tuple hh s.heap.objs.size a UN its.toArray,⟨⟨_,zX _ rfl,rfl,rfl⟩,pl.push _⟩,λb hb=>?_,λi v hP=>rA rv hP,by rw[zH,hl];exact Xj _ hlen,λh' tk t' kp=>?_⟩
  ·show b < (s.heap.push _).objs.size;rw[xM];simp?[zQ,yF,xW] at hb;rcases hb with rfl|rfl
   ·exact kZ _
   ·exact jQ UQ
  ·refine⟨.int ns.sum,H,I.kept (t':=tk) λb o' e=>kp b o' (by simp;exact yS (zY e)) (zU _ e),⟨t',?_⟩,q⟩;rw[zH,hl,abz]
def uf:List D->Option D:=λds=>(eO ds).bind λes=>(intsOf es).bind λns=>if ML ns=true then some (.int ns.sum) else none
def jg{K:W.Frag}:∀ {ns:List Int}{vs:List V},ax K H (ns.map PyData.int) vs->vs=ns.map V.int
 | [],vs,h=>h.nil_inv
 | b::bs,vs,h=>by
  let⟨v,r,rfl,a,c⟩:=h.cons_inv;simp?[Rep] at a;rw[a,jg c];rfl
def Oi(hc:X.calm=true)(B:p8 X "sum" (.builtin "sum"))(he:starEach [e] X.env=(false,eval e X.env)::starEach [] X.env)(ha:DA X [e] fs):DE X (.Call (.Name "sum" p) [e] [] pos) (bD uf fs) :=
 lE (CS hc) (by
  intro HF H ds vs d Q sm r hg q;let⟨es,h1,hg⟩:=bs hg;let⟨ns,h2,hg⟩:=bs hg;have hg:(if ML ns=true then some (PyData.int ns.sum) else none)=some d:=hg;split at hg
  ·rename_i UC;cases hg;have e2:=dm h2;subst e2;rcases lJ h1 with rfl|rfl
   all_goals
    let⟨v,r',rfl,a,b⟩:=r.cons_inv;rw[b.nil_inv];simp?[Rep] at a;let⟨p,us,rfl,h,rr⟩:=a;have:=jg rr;subst this
   ·exact⟨p,ns,rfl,.inr (aK sm h),UC,q _ H HF (.refl sm) (by simp[Rep])⟩
   ·exact⟨p,ns,rfl,.inl (sm.seq h),UC,q _ H HF (.refl sm) (by simp[Rep])⟩
  ·cases hg) B ha (by decide) (by decide) he rfl
def PN(i:Int):Value->Bool|.int a _=>a == i|_=>false
def Fg:Pu X "list.index" (λx vs H Q=>∃ (l:Addr) (ns:List Int) (i:Int) (j:Nat),x=.ref l/\vs=[.int i]/\iM X.K H l (ns.map V.int)/\ns[j]?=some i/\(∀m,m < j->ns[m]?≠some i)/\Q (.int j) H):=by
 intro pins s σ H x vs v us Q I rx rv h;let⟨l,ns,i,j,rfl,rfl,hq,hj,Yg,q⟩:=h;cases rx;let⟨u,rfl,ru⟩:=rv.one;let⟨t,rfl⟩:=ru;let⟨its,r,pl,hz⟩:=I.list hq;let⟨⟨cls,dd,data,sl⟩,ho,hc,n,hd⟩:=id pl.isList;simp only at hc hd;subst hc hd;have hl:its.length=ns.length:=by rw[<- r.length,zD]
 have YT:j < ns.length:=(List.getElem?_eq_some_iff.mp hj).1;have hz':ns.length<=sizeLine:=by rw[zD] at hz;exact hz
 have aes:(sizeLine:Nat) < 2 ^ 62:=by decide
 have at_:∀m (hm:m < its.toArray.size),∃t',its.toArray[m]=.int (ns.getD m 0) t':=λm hm=>rA r (kC hm);refine qZ F.slot_list_index ⟨_,ho,rfl⟩ F.entry_list_index (F.args_list_index_2 _ _) (PySem.SeqAt.list_indexAt l its.toArray n dd sl (.int i t) (PN i) j (by rw[zH,hl];exact YT) (by lia) ?_ ?_) ⟨ho,?_,?_⟩
 ·let⟨t',e⟩:=at_ j (by rw[zH,hl];exact YT);rw[e,PN,zG,hj];simp
 ·intro m hm hmj;let⟨t',e⟩:=at_ m hm;have VP:m < ns.length:=by lia
  have:=Yg m hmj;rw[e,PN,zG];rw[zK VP] at this ⊢;simp?[qJ,beq_eq_false_iff_ne];exactλh=>this (by rw[h])
 ·intro y hy;let⟨m,hm,rfl⟩:=Array.getElem_of_mem hy;let⟨t',e⟩:=at_ m hm;rw[e];exact PySem.SeqAt.EqAt.int_int _ _ _ _
 ·exact⟨.int j,H,I.tok _,⟨_,rfl⟩,q⟩
def Ag(i:Int):List Int->Option Nat
 | []=>none
 | n::ns=>if n=i then some 0 else (Ag i ns).map (·+1)
def oQ:∀ {ns:List Int}{j:Nat},Ag i ns=some j->ns[j]?=some i/\∀m,m < j->ns[m]?≠some i
 | [],j,h=>by cases h
 | n::ns,j,h=>by
  unfold Ag at h;split at h
  ·cases h;rename_i e;exact⟨by rw[e];rfl,λm hm=>absurd hm (wD _)⟩
  ·rename_i e;let⟨k,hk,rfl⟩:=ah h;let⟨a,b⟩:=oQ hk;refine⟨by simpa using a,λm hm=>?_⟩;cases m with
   | zero=>simpa using e
   | succ m=>simpa using b m (by lia)
def Sj:D->D->Option D
 | .list es,.int i=>(intsOf es).bind λns=>(Ag i ns).map λj=>.int ((j:Nat):Int)
 | _,_=>none
def Hn{fo:Env->Option D}(V0:attributeBase o "index" X.env (eval o X.env)=eval o X.env)
  (VC:((backTo cpos (starEach [e] X.env)).all (λx=>!x.1)&&(backToKw cpos (keywordEach [] X.env)).all (λx=>x.1.isSome)&&decide ([e].length+([]:List Keyword).length+(if ([]:List Keyword).isEmpty then 0 else 1) < 30))=true)
  (UR:(apos.endLine == cpos.line)=true) (hs:starEach [e] X.env=(false,eval e X.env)::starEach [] X.env) (ho:DE X o fo) (he:DE X e fe):DE X (.Call (.Attribute o "index" apos) [e] [] cpos) (f2 Sj fo fe) :=
 bb (sZ qQ PySem.F.slot_list_index PySem.F.type_list_index Fg ho (bO he dB hs) V0 VC UR hs rfl) λσ H Q ⟨HF,ρ,d,sm,eo,hf,q⟩=>by
  let⟨x,hx,hf⟩:=bs hf;let⟨y,hy,hg⟩:=bs hf;refine⟨HF,ρ,x,sm,eo,hx,λv1 H1 UB g1 r1=>?_⟩;cases x<;>try cases hg
  cases y<;>try cases hg
  rename_i es i;let⟨ns,h1,hg⟩:=bs hg;let⟨j,h2,rfl⟩:=ah hg;have e1:=dm h1;subst e1;simp?[Rep] at r1;let⟨l,us,rfl,hq,rr⟩:=r1;have:=jg rr;subst this;refine⟨.inl ⟨rfl,_,g1.fh.seq hq⟩,UB,ρ,.int i,g1.fh,eo.mono g1.ff,hy,λv2 H2 UL g2 r2=>?_⟩;simp?[Rep] at r2;let⟨a,b⟩:=oQ h2;exact⟨l,ns,i,j,rfl,by rw[r2],g2.fh.seq (g2.ff.seq hq),a,b,q _ H2 UL (g1.trans g2) (by simp[Rep])⟩
end Dl
namespace Tx
open PySem PySem.SeqAt PyProof.Rows
open PySem.AutoSeq1 (wpAny_loadPart')
open PySem.MeetsSeq PySem.MeetsSeq2 PySem.MeetsSeq3
def wpR(f:Nat->β->Sem (ForInStep β))(I:List Nat->β->Shared->Prop)(Q:β->Shared->Prop)
  (turn:∀x rest b s,I (x::rest) b s->wpAny M A (f x b) (λr s'=>match r with|.yield b'=>I rest b' s'|.done b'=>Q b' s') E s)
  (fin:∀b s,I [] b s->Q b s) (n:Nat) (b:β) (h:I (List.range' 0 n 1) b s):wpAny M A (forIn [:n] b f) Q E s:=by
 have e:forIn [:n] b f=forIn (List.range' 0 n 1) b f:=by
  rw[Std.Legacy.Range.forIn_eq_forIn_range'];simp[Std.Legacy.Range.size]
 rw[e];exact wpAny_forIn_list f I Q turn fin _ b h
def VT(l:Addr)(items:Array Value)(n:Nat)(dd:Option Addr)(sl:Array (Option Value))(x:Value)(e:Value->Bool)(j:Nat)(hj:j < items.size)(h1:e items[j]=true)(h2:∀m (hm:m < items.size),m < j->e items[m]=false) :
  Meets (Builtin.«tuple.index» ⟨[.ref l,x],[]⟩)
   (λA R s=>s.heap.get? l=some { cls:=.type "tuple",dict:=dd,data:=.seq items n,slots:=sl }/\(∀y,y∈items->EqAt A.in1 s y x (e y))/\R (.ok (.ret (.int (j:Nat) s.toks))) { s with toks:=s.toks+1 }) :=
 .of_wp λprog w A R s h=>by
  let⟨hp,g,d,tk,os⟩:=s;let⟨hl,he,h⟩:=h
  wp_walk using wpAny_loadPart' hl,wpR _ (λrest b s'=>s'=⟨hp,g,d,tk,os⟩/\b.1=none/\∃i,i<=j/\rest=List.range' i (items.size - i) 1) _
  case turn =>
   rintro i rest b s' ⟨rfl,hb,i',hi,e1⟩;have UQ:i' < items.size:=by lia
   rw[show items.size - i'=(items.size - (i'+1))+1 by lia,vQ] at e1;injection e1 with e2 e3
   subst e2;subst e3;simp?[kC UQ];refine zV (he _ (Array.getElem_mem UQ) prog w _ _ ?_);by_cases UU:i=j
   ·subst UU;rw[h1]
    wp_walk
    exact⟨_,rfl,h⟩
   ·rw[h2 i UQ (by lia)]
    wp_walk
    exact⟨rfl,rfl,i+1,by lia,rfl⟩
  case fin =>
   rintro b s' ⟨rfl,hb,i,hi,e1⟩;have:=jE List.length e1;simp at this;lia
  case h =>
   exact⟨rfl,rfl,0,xX _,by simp⟩
end Tx
namespace Dl
open PySem L2 PySem.Spec PyProof.Rows
def FP:Pu X "tuple.index" (λx vs H Q=>∃ (l:Addr) (ns:List Int) (i:Int) (j:Nat),x=.ref l/\vs=[.int i]/\ku X.K H l (ns.map V.int)/\ns[j]?=some i/\(∀m,m < j->ns[m]?≠some i)/\Q (.int j) H):=by
 intro pins s σ H x vs v us Q I rx rv h;let⟨l,ns,i,j,rfl,rfl,hq,hj,Yg,q⟩:=h;cases rx;let⟨u,rfl,ru⟩:=rv.one;let⟨t,rfl⟩:=ru;let⟨its,r,pl,hz⟩:=I.tuple hq;let⟨⟨cls,dd,data,sl⟩,ho,hc,n,hd⟩:=id pl;simp only at hc hd;subst hc hd;have hl:its.length=ns.length:=by rw[<- r.length,zD]
 have YT:j < ns.length:=(List.getElem?_eq_some_iff.mp hj).1;have at_:∀m (hm:m < its.toArray.size),∃t',its.toArray[m]=.int (ns.getD m 0) t':=λm hm=>rA r (kC hm);refine qZ F.slot_tuple_index ⟨_,ho,rfl⟩ F.entry_tuple_index (F.args_tuple_index_2 _ _) (Tx.VT l its.toArray n dd sl (.int i t) (PN i) j (by rw[zH,hl];exact YT) ?_ ?_) ⟨ho,?_,?_⟩
 ·let⟨t',e⟩:=at_ j (by rw[zH,hl];exact YT);rw[e,PN,zG,hj];simp
 ·intro m hm hmj;let⟨t',e⟩:=at_ m hm;have VP:m < ns.length:=by
   rw[zH] at hm;lia
  have:=Yg m hmj;rw[e,PN,zG];rw[zK VP] at this ⊢;simp?[qJ,beq_eq_false_iff_ne];exactλh=>this (by rw[h])
 ·intro y hy;let⟨m,hm,rfl⟩:=Array.getElem_of_mem hy;let⟨t',e⟩:=at_ m hm;rw[e];exact PySem.SeqAt.EqAt.int_int _ _ _ _
 ·exact⟨.int j,H,I.tok _,⟨_,rfl⟩,q⟩
def IM(h:PE X e t)(g:PE X e u):PE X e (λσ H Q=>t σ H Q\/u σ H Q):=λpins s σ H Q I q=>q.elim (h pins s σ H Q I) (g pins s σ H Q I)
def mW:D->D->Option D
 | .list es,.int i=>(intsOf es).bind λns=>(Ag i ns).map λj=>.int ((j:Nat):Int)
 | .tuple es,.int i=>(intsOf es).bind λns=>(Ag i ns).map λj=>.int ((j:Nat):Int)
 | _,_=>none
def ET{fo:Env->Option D}(V0:attributeBase o "index" X.env (eval o X.env)=eval o X.env)
  (VC:((backTo cpos (starEach [e] X.env)).all (λx=>!x.1)&&(backToKw cpos (keywordEach [] X.env)).all (λx=>x.1.isSome)&&decide ([e].length+([]:List Keyword).length+(if ([]:List Keyword).isEmpty then 0 else 1) < 30))=true)
  (UR:(apos.endLine == cpos.line)=true) (hs:starEach [e] X.env=(false,eval e X.env)::starEach [] X.env) (ho:DE X o fo) (he:DE X e fe):DE X (.Call (.Attribute o "index" apos) [e] [] cpos) (f2 mW fo fe) :=
 bb (IM (Hn V0 VC UR hs ho he) (sZ PySem.F.plainAttrs_tuple PySem.F.slot_tuple_index PySem.F.type_tuple_index FP ho (bO he dB hs) V0 VC UR hs rfl)) λσ H Q ⟨HF,ρ,d,sm,eo,hf,q⟩=>by
  let⟨x,hx,hf⟩:=bs hf;let⟨y,hy,hg⟩:=bs hf;cases x<;>try cases hg
  ·cases y<;>try cases hg
   rename_i es i;exact .inl ⟨HF,ρ,d,sm,eo,by simp?[f2,hx,hy,zA];exact hg,q⟩
  ·cases y<;>try cases hg
   rename_i es i;let⟨ns,h1,hg⟩:=bs hg;let⟨j,h2,rfl⟩:=ah hg;have e1:=dm h1;subst e1;refine .inr ⟨HF,ρ,_,sm,eo,hx,λv1 H1 UB g1 r1=>?_⟩;simp?[Rep] at r1;let⟨l,us,rfl,hq,rr⟩:=r1;have:=jg rr;subst this;refine⟨?_,UB,ρ,.int i,g1.fh,eo.mono g1.ff,hy,λv2 H2 UL g2 r2=>?_⟩
   ·first|exact .inr (.inl ⟨rfl,_,aK g1.fh hq⟩)|exact .inl ⟨rfl,_,aK g1.fh hq⟩|exact .inr ⟨rfl,_,aK g1.fh hq⟩
   ·simp?[Rep] at r2;let⟨a,b⟩:=oQ h2;exact⟨l,ns,i,j,rfl,by rw[r2],aK g2.fh (aK g2.ff hq),a,b,q _ H2 UL (g1.trans g2) (by simp[Rep])⟩
end Dl
namespace Zp
open PySem PyProof.Rows
def Va(b:Bool)(h:Heap)(it l:Addr)(k:Nat):Prop:=match b with|true=>h.IsTupleIter it l k|false=>h.IsListIter it l k
def Vj(b:Bool)(h:Heap)(l:Addr)(xs:Array Value):Prop:=match b with|true=>h.IsTuple l xs|false=>h.IsList l xs
def Va.obj(x:Va b h it l k):∃o,h.get? it=some o/\∀v,o.data≠.cell v:=by
 cases b
 ·let⟨o,e,_,d⟩:=(show h.IsListIter it l k from x);exact⟨o,e,λv q=>by rw[d] at q;cases q⟩
 ·let⟨o,e,_,d⟩:=(show h.IsTupleIter it l k from x);exact⟨o,e,λv q=>by rw[d] at q;cases q⟩
def Va.at(x:Va b h it l k)(e:∀o,h.get? it=some o->h'.get? it=some o):Va b h' it l k:=by
 cases b
 ·exact Heap.IsListIter.at x e
 ·exact Heap.IsTupleIter.at x e
def Va.extBut(x:Va b h it l k)(e:Heap.ExtBut a h h')(n:it≠a):Va b h' it l k:=x.at λo q=>e it o n q
def Vj.at(x:Vj b h l xs)(e:∀o,h.get? l=some o->h'.get? l=some o):Vj b h' l xs:=by
 cases b
 ·let⟨o,q,r⟩:=(show h.IsList l xs from x);exact⟨o,e o q,r⟩
 ·let⟨o,q,r⟩:=(show h.IsTuple l xs from x);exact⟨o,e o q,r⟩
def Vj.extBut(x:Vj b h l xs)(e:Heap.ExtBut a h h')(n:l≠a):Vj b h' l xs:=x.at λo q=>e l o n q
section
def nxt(hj:Va b s.heap j t k)(ht:Vj b s.heap t its)(hv:its[k]?=some v)
  (hQ:∀g,Va b g j t (k+1)->Heap.SameBut j s.heap g->Q v { s with heap:=g }):wpAny (model prog w) A (Builtin.SmallTypes.nextOf (.ref j)) Q E s:=by
 cases b
 ·exact wpAny_nextOf_list_item hj ht hv hQ
 ·exact En.WI hj ht hv hQ
def Yp{Q:Value->Shared->Prop}(hh:A.handled=none)(hj:Va b s.heap j t k)(ht:Vj b s.heap t its)(hv:its[k]?=none)
  (hE:∀g x,Heap.ExtBut j s.heap g->(∃o,g.get? x=some o/\o.cls=.type "StopIteration")->E (.ref x) { s with heap:=g }):wpAny (model prog w) A (Builtin.SmallTypes.nextOf (.ref j)) Q E s:=by
 cases b
 ·exact wpAny_nextOf_list_end hh hj ht hv hE
 ·exact En.W9 hh hj ht hv hE
structure ZS(UJ UW:Bool)(h₀ h:Heap)(z TI TO i j l m:Addr)(xs ys:Array Value)(f:Value)(p q:Nat)(a b:Value):Prop where
 zo:IsZip h z TI TO f
 ti:IsPair h TI (.ref i) (.ref j)
 to:IsPair h TO a b
 wi:Va UJ h i l p
 wj:Va UW h j m q
 sl:Vj UJ h l xs
 sm:Vj UW h m ys
 kp:∀c o,c≠z->c≠TO->c≠i->c≠j->h₀.get? c=some o->h.get? c=some o
 sz:h.objs.size=h₀.objs.size
section
variable {z TI TO i j l m:Addr}
def ZS.fl(Z:ZS UJ UW h₀ h z TI TO i j l m xs ys f p q a b)(D:ZipApart z TI TO i j l m)(e:IsZip g z TI TO f')(t:Heap.SameBut z h g):ZS UJ UW h₀ g z TI TO i j l m xs ys f' p q a b :=
 ⟨e,t.extBut _ _ D.TIz Z.ti,t.extBut _ _ D.TOz Z.to,Z.wi.extBut t.extBut D.i1z,Z.wj.extBut t.extBut D.i2z,Z.sl.extBut t.extBut D.l1z,Z.sm.extBut t.extBut D.l2z,λc o n1 n2 n3 n4 r=>t.extBut _ _ n1 (Z.kp c o n1 n2 n3 n4 r),t.1.trans Z.sz⟩
def ZS.fst(Z:ZS UJ UW h₀ h z TI TO i j l m xs ys f p q a b)(D:ZipApart z TI TO i j l m)(e:Va UJ g i l (p+1))(t:Heap.SameBut i h g):ZS UJ UW h₀ g z TI TO i j l m xs ys f (p+1) q a b :=
 ⟨t.extBut _ _ D.i1z.symm Z.zo,t.extBut _ _ D.TIi1 Z.ti,t.extBut _ _ D.TOi1 Z.to,e,Z.wj.extBut t.extBut D.i12.symm,Z.sl.extBut t.extBut D.l1i1,Z.sm.extBut t.extBut D.l2i1,λc o n1 n2 n3 n4 r=>t.extBut _ _ n3 (Z.kp c o n1 n2 n3 n4 r),t.1.trans Z.sz⟩
def ZS.snd(Z:ZS UJ UW h₀ h z TI TO i j l m xs ys f p q a b)(D:ZipApart z TI TO i j l m)(e:Va UW g j m (q+1))(t:Heap.SameBut j h g):ZS UJ UW h₀ g z TI TO i j l m xs ys f p (q+1) a b :=
 ⟨t.extBut _ _ D.i2z.symm Z.zo,t.extBut _ _ D.TIi2 Z.ti,t.extBut _ _ D.TOi2 Z.to,Z.wi.extBut t.extBut D.i12,e,Z.sl.extBut t.extBut D.l1i2,Z.sm.extBut t.extBut D.l2i2,λc o n1 n2 n3 n4 r=>t.extBut _ _ n4 (Z.kp c o n1 n2 n3 n4 r),t.1.trans Z.sz⟩
def ZS.put(Z:ZS UJ UW h₀ h z TI TO i j l m xs ys f p q a b)(D:ZipApart z TI TO i j l m)(e:IsPair g TO x y)(t:Heap.SameBut TO h g):ZS UJ UW h₀ g z TI TO i j l m xs ys f p q x y :=
 ⟨t.extBut _ _ D.TOz.symm Z.zo,t.extBut _ _ D.TITO Z.ti,e,Z.wi.extBut t.extBut D.TOi1.symm,Z.wj.extBut t.extBut D.TOi2.symm,Z.sl.extBut t.extBut D.l1TO,Z.sm.extBut t.extBut D.l2TO,λc o n1 n2 n3 n4 r=>t.extBut _ _ n2 (Z.kp c o n1 n2 n3 n4 r),t.1.trans Z.sz⟩
end
variable {z TI TO i j l m:Addr}
def abB{Q:Value->Shared->Prop}(hn:A.handled=none)(D:ZipApart z TI TO i j l m)(Z:ZS UJ UW s.heap s.heap z TI TO i j l m xs ys .none p q a b)
  (item:∀x y g g',xs[p]?=some x->ys[q]?=some y->ZS UJ UW s.heap g z TI TO i j l m xs ys .ellipsis (p+1) (q+1) x y->IsZip g' z TI TO (rawInt g.objs.size) ->
   Heap.SameBut z (g.push { cls:=.type "tuple",data:=.seq #[x,y] }) g'->Q (.ref g.objs.size) { s with heap:=g' })
  (over:(xs[p]?=none\/ys[q]?=none)->∀g e,(∀c o,c≠z->c≠TO->c≠i->c≠j->s.heap.get? c=some o->g.get? c=some o)->(∃o,g.get? e=some o/\o.cls=.type "StopIteration")->E (.ref e) { s with heap:=g }) :
  wpAny (model prog w) A (Builtin.«zip.__next__» ⟨[.ref z],[]⟩) (λr s'=>∃v,r=.done (.ret v)/\Q v s') E s:=by
 have stop:∀ {g1 g2:Heap}{e:Addr}{c:Addr}{p' q':Nat}{a' b':Value},ZS UJ UW s.heap g1 z TI TO i j l m xs ys .ellipsis p' q' a' b'->(c=i\/c=j)->(xs[p]?=none\/ys[q]?=none)->Heap.ExtBut c g1 g2 ->
   (∃o,g2.get? e=some o/\o.cls=.type "StopIteration")->wpAny (model prog w) A (setField (.ref z) 0 Value.none) (λ_ t=>E (.ref e) t) E { s with heap:=g2 }:=by
  intro g1 g2 e c p' q' a' b' Y hc hv k ⟨o,ho,ht⟩;have cz:z≠c:=hc.elim (λe=>e ▸ D.i1z.symm) λe=>e ▸ D.i2z.symm;have Yz:IsZip g2 z TI TO .ellipsis:=k _ _ cz Y.zo;refine vH Yz (by simp) λg3 _ t=>over hv g3 e (λd u n1 n2 n3 n4 r=>t.extBut _ _ n1 (k _ _ ?_ (Y.kp d u n1 n2 n3 n4 r))) ⟨o,t.extBut _ _ ?_ ho,ht⟩
  ·exact hc.elim (λe=>e ▸ n3) λe=>e ▸ n4
  ·rintro rfl;rw[Yz] at ho;cases ho;simp at ht
 show wpAny _ _ (field (.ref z) 2 >>= _) _ _ _;refine zV (qV Z.zo rfl (x:=.bool false) rfl (zV (qV Z.zo rfl (x:=.ref TI) rfl (zV (kM Z.ti rfl (zV (m:=Builtin.SmallTypes.ownedTupleIsFree _) ?_))))));refine zV (qV Z.zo rfl (x:=.none) rfl (zW ?_));rw[yM rfl];refine zV (Za (zV (qV Z.zo rfl (x:=.ref TO) rfl (zV (vH Z.zo (by simp) λg1 e1 t1=>?_)))));have Z1:=Z.fl D (f':=.ellipsis) e1 t1;refine zV ?_;simp?[List.zipIdx_cons,List.zipIdx_nil,List.forIn_cons,List.forIn_nil];refine zV (zV (wpAny_onRaise (zV (m:=Builtin.SmallTypes.nextOf _) ?_)));cases hx:xs[p]? with
 | none=>exact Yp hn Z1.wi Z1.sl hx λg2 e k o=>stop Z1 (.inl rfl) (.inl hx) k o
 | some x =>
 refine nxt Z1.wi Z1.sl hx λg2 e2 t2=>zW ?_;have Z2:=Z1.fst D e2 t2;refine zV (kM Z2.to rfl (zV (wpAny_updateSeq_pair Z2.to λg3 e3 t3=>zV (wpAny_letGo (zW ?_)))));have Z3:=Z2.put D (x:=x) (y:=b) e3 t3;refine zV (zV (wpAny_onRaise (zV (m:=Builtin.SmallTypes.nextOf _) ?_)));cases hy:ys[q]? with
 | none=>exact Yp hn Z3.wj Z3.sm hy λg4 e k o=>stop Z3 (.inr rfl) (.inr hy) k o
 | some y =>
 refine nxt Z3.wj Z3.sm hy λg4 e4 t4=>zW ?_;have Z4:=Z3.snd D e4 t4;refine zV (kM Z4.to rfl (zV (wpAny_updateSeq_pair Z4.to λg5 e5 t5=>zV (wpAny_letGo (zW (zW ?_))))));have Z5:=Z4.put D (x:=x) (y:=y) e5 t5;refine zV (kM Z5.to rfl (zV (wpAny_newTuple (zV (m:=Builtin.SmallTypes.ownedTupleHandOut _ _) ?_))));refine zV (vH (zU _ Z5.zo) (by simp) λg6 e6 t6=>vH e6 (by simp) λg7 e7 t7=>zW ⟨_,rfl,?_⟩);exact item x y g5 g7 hx hy Z5 e7 (t6.trans t7)
def abC(hn:A.handled=none)(D:ZipApart z TI TO i j l m)
  (qz:IsZip s.heap z TI TO .none) (qI:IsPair s.heap TI (.ref i) (.ref j)) (qO:IsPair s.heap TO a b)
  (p1:Va UJ s.heap i l p) (p2:Va UW s.heap j m q) (r1:Vj UJ s.heap l xs) (r2:Vj UW s.heap m ys) (ex:xs[p]?=some x) (ey:ys[q]?=some y)
  (kQ:∀g,IsZip g z TI TO (rawInt s.heap.objs.size)->IsPair g TO x y->Va UJ g i l (p+1)->Va UW g j m (q+1)->IsPair g s.heap.objs.size x y->g.objs.size=s.heap.objs.size+1 ->
   (∀c o,c≠z->c≠TO->c≠i->c≠j->s.heap.get? c=some o->g.get? c=some o)->Q (some (.ref s.heap.objs.size)) { s with heap:=g }) :
  wpAny (model prog w) A (pyNext (.ref z)) Q E s:=by
 have ty:s.TypeIs (.ref z) "zip":=⟨_,qz,rfl⟩
 have Z:ZS UJ UW s.heap s.heap z TI TO i j l m xs ys .none p q a b:=⟨qz,qI,qO,p1,p2,r1,r2,λ_ _ _ _ _ _ e=>e,rfl⟩
 refine zV (vB (qE (name:=Str.ofString "__next__") ty wJ (qY wJ ty F.entry_zip_next (abB hn D Z ?_ ?_) (F.args_zip_next_1 _))))
 ·intro x' y' g g' hx hy Y ez t;rw[ex] at hx;rw[ey] at hy;cases hx;cases hy;rw[Y.sz] at ez ⊢;have lt:=zY Y.zo;have up:∀c o,c≠z->g.get? c=some o->g'.get? c=some o:=λc o n e=>t.extBut _ _ n (zU _ e);refine zW (kQ g' ez (up _ _ D.TOz Y.to) (Y.wi.at λo e=>up _ _ D.i1z e) (Y.wj.at λo e=>up _ _ D.i2z e) ?_ (by rw[t.1,xM,Y.sz]) λc o n1 n2 n3 n4 e=>up c o n1 (Y.kp c o n1 n2 n3 n4 e));rw[<- Y.sz];exact t.extBut _ _ (jK lt) (zX _ rfl)
 ·intro no;rw[ex,ey] at no;rcases no with no|no<;>cases no
def aai(hn:A.handled=none)(D:ZipApart z TI TO i j l m)
  (qz:IsZip s.heap z TI TO .none) (qI:IsPair s.heap TI (.ref i) (.ref j)) (qO:IsPair s.heap TO a b)
  (p1:Va UJ s.heap i l p) (p2:Va UW s.heap j m q) (r1:Vj UJ s.heap l xs) (r2:Vj UW s.heap m ys) (ends:xs[p]?=none\/ys[q]?=none)
  (kQ:∀g,(∀c o,c≠z->c≠TO->c≠i->c≠j->s.heap.get? c=some o->g.get? c=some o)->Q none { s with heap:=g }):wpAny (model prog w) A (pyNext (.ref z)) Q E s:=by
 have ty:s.TypeIs (.ref z) "zip":=⟨_,qz,rfl⟩
 have Z:ZS UJ UW s.heap s.heap z TI TO i j l m xs ys .none p q a b:=⟨qz,qI,qO,p1,p2,r1,r2,λ_ _ _ _ _ _ e=>e,rfl⟩
 refine zV (vB (qE (name:=Str.ofString "__next__") ty wJ (qY wJ ty F.entry_zip_next (abB hn D Z ?_ ?_) (F.args_zip_next_1 _))))
 ·intro x y g g' hx hy;rw[hx,hy] at ends;rcases ends with no|no<;>cases no
 ·rintro _ g e kp ⟨o,ho,ht⟩;exact zV (wpAny_isInstance (T:="StopIteration") (b:=true) ⟨o,ho,ht⟩ isSubtype_stop (zW (kQ _ kp)))
end
abbrev itO(b:Bool)(l:Addr):Obj:={ cls:=.type (if b then "tuple_iterator" else "list_iterator"),data:=.fields #[.ref l,.int 0 0] }
abbrev z1(b:Bool)(h:Heap)(l:Addr):Heap:=h.push (itO b l)
abbrev z2(b c:Bool)(h:Heap)(l m:Addr):Heap:=(z1 b h l).push (itO c m)
abbrev z3(b c:Bool)(h:Heap)(l m:Addr):Heap:=(z2 b c h l m).push { cls:=.type "tuple",data:=.seq #[.ref h.objs.size,.ref (z1 b h l).objs.size] }
abbrev z4(b c:Bool)(h:Heap)(l m:Addr):Heap:=(z3 b c h l m).push { cls:=.type "tuple",data:=.seq #[.none,.none] }
abbrev z5(b c:Bool)(h:Heap)(l m:Addr):Heap:=(z4 b c h l m).push { cls:=.type "zip",data:=.fields #[.none,.bool false,.bool false,.ref (z2 b c h l m).objs.size,.ref (z3 b c h l m).objs.size] }
def Vj.push(x:Vj b h l xs)(o:Obj):Vj b (h.push o) l xs:=x.at λo' e=>zU _ e
def Yq(b c:Bool)(l m:Addr)(xs ys:Array Value):Meets (Builtin.«zip.__new__» ⟨[.type "zip",.ref l,.ref m],[]⟩) (λ_ R s=>Vj b s.heap l xs/\Vj c s.heap m ys/\R (.ok (.ret (.ref (z4 b c s.heap l m).objs.size))) { s with heap:=z5 b c s.heap l m }) :=
 .of_wp λprog w A R s h=>by
  let⟨hp,g,d,tk,os⟩:=s;let⟨q1,q2,h⟩:=h;have abp:=sub_zip;cases b<;>cases c
  ·have L1:Heap.IsList (Shared.heap ⟨hp,g,d,tk,os⟩) l xs:=q1;have L2:Heap.IsList (Shared.heap ⟨hp.push { cls:=.type "list_iterator",data:=.fields #[.ref l,.int 0 0] },g,d,tk,os⟩) m ys:=Vj.push (b:=false) q2 _
   wp_walk using qM L1,qM L2
   exact⟨_,rfl,h⟩
  ·have L1:Heap.IsList (Shared.heap ⟨hp,g,d,tk,os⟩) l xs:=q1;have L2:Heap.IsTuple (Shared.heap ⟨hp.push { cls:=.type "list_iterator",data:=.fields #[.ref l,.int 0 0] },g,d,tk,os⟩) m ys:=Vj.push (b:=true) q2 _
   wp_walk using qM L1,xU L2
   exact⟨_,rfl,h⟩
  ·have L1:Heap.IsTuple (Shared.heap ⟨hp,g,d,tk,os⟩) l xs:=q1;have L2:Heap.IsList (Shared.heap ⟨hp.push { cls:=.type "tuple_iterator",data:=.fields #[.ref l,.int 0 0] },g,d,tk,os⟩) m ys:=Vj.push (b:=false) q2 _
   wp_walk using xU L1,qM L2
   exact⟨_,rfl,h⟩
  ·have L1:Heap.IsTuple (Shared.heap ⟨hp,g,d,tk,os⟩) l xs:=q1;have L2:Heap.IsTuple (Shared.heap ⟨hp.push { cls:=.type "tuple_iterator",data:=.fields #[.ref l,.int 0 0] },g,d,tk,os⟩) m ys:=Vj.push (b:=true) q2 _
   wp_walk using xU L1,xU L2
   exact⟨_,rfl,h⟩
def WX(e:h.get? it=some (itO b l)):Va b h it l 0:=by
 cases b
 ·exact⟨_,e,rfl,rfl⟩
 ·exact⟨_,e,rfl,rfl⟩
def XG(q1:Vj b s.heap l xs)(q2:Vj c s.heap m ys)
  (h:∀g,IsZip g (s.heap.objs.size+4) (s.heap.objs.size+2) (s.heap.objs.size+3) .none->IsPair g (s.heap.objs.size+2) (.ref s.heap.objs.size) (.ref (s.heap.objs.size+1))->IsPair g (s.heap.objs.size+3) .none .none ->
   Va b g s.heap.objs.size l 0->Va c g (s.heap.objs.size+1) m 0->(∀a o,s.heap.get? a=some o->g.get? a=some o)->Q (.ref (s.heap.objs.size+4)) { s with heap:=g }) :
  wpAny (model prog w) A (call (.type "zip") [.ref l,.ref m]) Q E s:=by
 refine callType_new F.called_zip (by decide) (F.typeCall_zip_2 _ _) (F.newCall_zip_2 _ _) (λobj=>F.args_object_init_3 obj _ _) F.entry_zip_new (Yq b c l m xs ys) ⟨q1,q2,?_⟩;have n1:(z1 b s.heap l).objs.size=s.heap.objs.size+1:=xM ..;have n2:(z2 b c s.heap l m).objs.size=s.heap.objs.size+2:=by rw[xM,n1]
 have n3:(z3 b c s.heap l m).objs.size=s.heap.objs.size+3:=by rw[xM,n2]
 have n4:(z4 b c s.heap l m).objs.size=s.heap.objs.size+4:=by rw[xM,n3]
 have g5:(z5 b c s.heap l m).get? (z4 b c s.heap l m).objs.size=some _:=zX _ rfl;have g4:(z5 b c s.heap l m).get? (z3 b c s.heap l m).objs.size=some _:=zU _ (zX _ rfl);have g3:(z5 b c s.heap l m).get? (z2 b c s.heap l m).objs.size=some _:=zU _ (zU _ (zX _ rfl));have g2:(z5 b c s.heap l m).get? (z1 b s.heap l).objs.size=some (itO c m):=zU _ (zU _ (zU _ (zX _ rfl)));have g1:(z5 b c s.heap l m).get? s.heap.objs.size=some (itO b l):=zU _ (zU _ (zU _ (zU _ (zX _ rfl))));show _/\_;rw[n2,n3,n4] at g5;rw[n1,n2] at g3;rw[n3] at g4;rw[n1] at g2;rw[n4];exact⟨⟨_,g5,rfl⟩,h _ g5 g3 g4 (WX g1) (WX g2) λa o x=>zU _ (zU _ (zU _ (zU _ (zU _ x))))⟩
end Zp
namespace Dl
open PySem L2 PySem.Spec PyProof.Rows Zp
def va(K:W.Frag)(b:Bool)(a:Addr)(H:Hp)(xs:List V):Prop:=match b with|true=>ku K H a xs|false=>iM K H a xs
def va.src(I:Inv X pins σ H s)(h:va X.K b a H xs):∃its:List Value,aN xs its/\Vj b s.heap a its.toArray/\xs.length<=sizeLine:=by
 cases b
 ·let⟨its,rv,pl,hz⟩:=I.list (show iM X.K H a xs from h);exact⟨its,rv,pl.isList,hz⟩
 ·let⟨its,rv,pl,hz⟩:=I.tuple (show ku X.K H a xs from h);exact⟨its,rv,pl,hz⟩
def va.ne(I:Inv X pins σ H s)(hf:cN X pins H c)(h:va X.K b a H xs):a≠c:=by
 cases b
 ·exact Og I hf h
 ·exact Nh I hf h
def va.inj(I:Inv X pins σ H s)(h:va X.K b a H xs)(h':va X.K b a H ys):xs=ys:=by
 cases b
 ·exact I.Wh h h'
 ·exact I.VY h h'
def va.mono{K:W.Frag}(e:aS H H')(h:va K b a H xs):va K b a H' xs:=by
 cases b
 ·exact e.seq h
 ·exact aK e h
def FH{K:W.Frag}(b c:Bool)(l1 l2 z TI TO i1 i2:Addr)(Z:T5 z TI TO i1 i2) :
  Turn P w K (.Tuple elts k pos) (Si (va K b l1) (va K c l2)) [z,TI,TO,i1,i2] z (λi h=>IsZip h z TI TO .none/\IsPair h TI (.ref i1) (.ref i2)/\(∃a b,IsPair h TO a b)/\Va b h i1 l1 i/\Va c h i2 l2 i) where
 mem:=by simp
 obj:=λi h st d hd=>by
  let⟨hz,Yr,⟨a,b',YU⟩,p1,p2⟩:=st;simp?[zQ,yF,xW] at hd;rcases hd with rfl|rfl|rfl|rfl|rfl
  ·exact⟨_,hz,λv q=>by have q:Data.fields _=Data.cell v:=q;cases q⟩
  ·exact⟨_,Yr,λv q=>by have q:Data.seq _ _=Data.cell v:=q;cases q⟩
  ·exact⟨_,YU,λv q=>by have q:Data.seq _ _=Data.cell v:=q;cases q⟩
  ·exact p1.obj
  ·exact p2.obj
 keep:=λi h h' st kk=>by
  let⟨hz,Yr,⟨a,b',YU⟩,h1,h2⟩:=st;exact⟨kk z (by simp) _ hz,kk TI (by simp) _ Yr,⟨a,b',kk TO (by simp) _ YU⟩,h1.at λo q=>kk i1 (by simp) o q,h2.at λo q=>kk i2 (by simp) o q⟩
 item:=by
  intro X hP hw hK hc i pins s σ H E I hf st hg;subst hP hw hK;let⟨xs,ys,x,y,V3,V4,hx,hy⟩:=hg;let⟨aaj,rv1,p1,hz1⟩:=V3.src I;let⟨Vu,rv2,p2,hz2⟩:=V4.src I;let⟨u1,hu1,ru1⟩:=rv1.get hx;let⟨u2,hu2,ru2⟩:=rv2.get hy;have D:ZipApart z TI TO i1 i2 l1 l2:=⟨Z.a1,Z.a2,Z.a3,Z.a4,Z.a5,Z.a6,Z.a7,Z.a8,Z.a9,Z.a0,V3.ne I (hf z (by simp)),V3.ne I (hf TO (by simp)),V3.ne I (hf i1 (by simp)),V3.ne I (hf i2 (by simp)),V4.ne I (hf z (by simp)),V4.ne I (hf TO (by simp)),V4.ne I (hf i1 (by simp)),V4.ne I (hf i2 (by simp))⟩
  let⟨hz,Yr,⟨a,b',YU⟩,h1,h2⟩:=st;refine abC (I.ok.hd hc) D hz Yr YU h1 h2 p1 p2 (x:=u1) (y:=u2) (by simpa using hu1) (by simpa using hu2) λg b1 b2 b3 b4 b5 b6 hk=>⟨.ref s.heap.objs.size,rfl,?_⟩
  have lt:∀ {c:Addr}{o:Obj},s.heap.get? c=some o->s.heap.objs.size≠c:=λe=>jK (zY e);refine wpAny_letOwnedTupleGo_zip (s:={ s with heap:=g }) b1 λg' hz' VN=>?_;have b5':g'.get? s.heap.objs.size=some { cls:=.type "tuple",data:=.seq #[u1,u2] }:=VN.extBut _ _ (lt hz) b5;have ht:rK g' s.heap.objs.size (List.toArray [u1,u2]):=⟨⟨_,b5',rfl,_,rfl⟩,_,b5',rfl⟩
  refine⟨.ref s.heap.objs.size,_,AF (ch:=[z,TI,TO,i1,i2]) (xs:=[x,y]) (t':=s.toks) I hf (λb o hb q=>?_) (yN _) ht (.cons ru1 (.cons ru2 .nil)) (by show 2<=sizeLine;decide),rfl,
   ⟨s.heap.objs.size,x,y,rfl,I.fresh,rfl,λzs hzs=>by rw[hzs.inj I V3];exact hx,λzs hzs=>by rw[hzs.inj I V4];exact hy⟩,
   ⟨hz',VN.extBut _ _ Z.a1 (hk _ _ D.TIz D.TITO D.TIi1 D.TIi2 Yr),⟨_,_,VN.extBut _ _ Z.a2 b2⟩,b3.extBut VN.extBut Z.a3,b4.extBut VN.extBut Z.a4⟩,λb hb=>?_⟩
  ·simp?[zQ,yF,xW,not_or] at hb;exact VN.extBut _ _ hb.1 (hk b o hb.1 hb.2.2.1 hb.2.2.2.1 hb.2.2.2.2 q)
  ·have:s.heap.objs.size≠b:=by
    simp?[zQ,yF,xW] at hb;let⟨o1,g1,_⟩:=h1.obj;let⟨o2,g2,_⟩:=h2.obj;rcases hb with rfl|rfl|rfl|rfl|rfl
    ·exact lt hz
    ·exact lt Yr
    ·exact lt YU
    ·exact lt g1
    ·exact lt g2
   rw[aD (jP this)];exact (hf b hb).1
 done:=by
  intro X hP hw hK hc i pins s σ H E I hf st hg;subst hP hw hK;let⟨xs,ys,V3,V4,hx⟩:=hg;let⟨aaj,rv1,p1,hz1⟩:=V3.src I;let⟨Vu,rv2,p2,hz2⟩:=V4.src I;have D:ZipApart z TI TO i1 i2 l1 l2:=⟨Z.a1,Z.a2,Z.a3,Z.a4,Z.a5,Z.a6,Z.a7,Z.a8,Z.a9,Z.a0,V3.ne I (hf z (by simp)),V3.ne I (hf TO (by simp)),V3.ne I (hf i1 (by simp)),V3.ne I (hf i2 (by simp)),V4.ne I (hf z (by simp)),V4.ne I (hf TO (by simp)),V4.ne I (hf i1 (by simp)),V4.ne I (hf i2 (by simp))⟩
  let⟨hz,Yr,⟨a,b',YU⟩,h1,h2⟩:=st;have e1:=rv1.length;have e2:=rv2.length;refine aai (I.ok.hd hc) D hz Yr YU h1 h2 p1 p2 (hx.elim (λq=>.inl (by simp;lia)) λq=>.inr (by simp;lia)) λg hk=>⟨rfl,?_⟩
  refine Fh (ch:=[z,TI,TO,i1,i2]) (t':=s.toks) I hf λb o hb q=>?_;simp?[zQ,yF,xW,not_or] at hb;exact hk b o hb.1 hb.2.2.1 hb.2.2.2.1 hb.2.2.2.2 q
 self:=λ_ _ _ _ _ st h=>wpAny_pyIter_zip st.1 h
def LL(B:p8 X "zip" (.type "zip"))(ha:PA X [l,l'] tl)(hs:starEach [l,l'] X.env=(false,eval l X.env)::starEach [l'] X.env)(hs2:(backTo pos (starEach [l'] X.env)).any (·.1)=false) :
  PI X (.Tuple elts k tp) (.Call (.Name "zip" p) [l,l'] [] pos) (λσ H R=>tl σ H λvs H1=>∃a b,vs=[.ref a,.ref b]/\∃c d xs ys,va X.K c a H1 xs/\va X.K d b H1 ys/\R (Si (va X.K c a) (va X.K d b)) H1):=by
 intro pins s σ H R I h;refine Call_ (fZ I B.gl B.mg B.bt (qU (ck (ha pos pins s σ H _ I h) λus s1 ⟨vs,H1,I1,r1,q1⟩=>?_) hs hs2));let⟨a,b,e,c,d,xs,ys,V3,V4,q⟩:=q1;subst e;let⟨u,u',rfl,rx,ry⟩:=vals2 r1;cases rx;cases ry;let⟨its,rv,pl,hz⟩:=V3.src I1;let⟨its',rv',pl',hz'⟩:=V4.src I1;refine XG pl pl' λg b1 b2 b3 b4 b5 kp=>wpAny_pyIter_zip (s:={ s1 with heap:=g }) b1 ?_;refine⟨_,_,_,_,H1,rfl,I1.kept (t':=s1.toks) kp,FH c d a b (s1.heap.objs.size+4) (s1.heap.objs.size+2) (s1.heap.objs.size+3) s1.heap.objs.size (s1.heap.objs.size+1) ?_,⟨b1,b2,⟨_,_,b3⟩,b4,b5⟩,λc hc=>?_,q⟩
 ·constructor<;>(intro z;have z:(_:Nat)=_:=z;lia)
 ·have YO:s1.heap.objs.size<=c:=by
   simp?[zQ,yF,xW] at hc;rcases hc with rfl|rfl|rfl|rfl|rfl
   ·exact jX _ _
   ·exact jX _ _
   ·exact jX _ _
   ·exact yN _
   ·exact jX _ _
  exact I1.Vt YO (I1.UC.fresh YO)
def Qm:List D->Option (List D):=λds=>match ds with
 | [x,y]=>(gf x).bind λxs=>(gf y).map λys=>iY xs ys
 | _=>none
def CC{K:W.Frag}(h:gf d=some xs)(r:Rep K HF d v):∃b a vs,v=.ref a/\va K b a HF vs/\ax K HF xs vs:=by
 rcases mO h with rfl|rfl
 ·simp?[Rep] at r;let⟨a,vs,rfl,q,rr⟩:=r;exact⟨true,a,vs,rfl,q,rr⟩
 ·simp?[Rep] at r;let⟨a,vs,rfl,q,rr⟩:=r;exact⟨false,a,vs,rfl,q,rr⟩
def eK(fs:Env->Option (List D)):Env->Option (List D):=λρ=>(fs ρ).bind Qm
def Mm(B:p8 X "zip" (.type "zip"))(hs:starEach [l,l'] X.env=(false,eval l X.env)::starEach [l'] X.env)(hs2:(backTo pos (starEach [l'] X.env)).any (·.1)=false)(h:DA X [l,l'] fs) :
  DI X (.Tuple elts k tp) (.Call (.Name "zip" p) [l,l'] [] pos) (eK fs) :=
 xy (LL B h hs hs2) λσ H R ⟨HF,ρ,ds,sm,eo,hf,q⟩=>by
  let⟨x,hx,hf⟩:=bs hf;refine⟨HF,ρ,_,sm,eo,hx,λvs H1 UB g1 r1=>?_⟩;unfold Qm at hf;split at hf
  ·let⟨xs,h1,hf⟩:=bs hf;let⟨ys,h2,rfl⟩:=ah hf;let⟨v,r',rfl,a,b⟩:=r1.cons_inv;let⟨v',r'',rfl,a',b'⟩:=b.cons_inv;rw[b'.nil_inv];let⟨c,ad,us,rfl,hq,rr⟩:=CC h1 a;let⟨c',ad',us',rfl,VL,rr'⟩:=CC h2 a';exact⟨ad,ad',rfl,c,c',us,us',hq.mono g1.fh,VL.mono g1.fh,q _ H1 UB g1 (G7 hq (λ_ _ s h=>h.mono s) VL (λ_ _ s h=>h.mono s) rr rr')⟩
  ·cases hf
end Dl
namespace Zp
open PySem PyProof.Rows
def Va.ne(x:Va b h it l k)(y:Vj b h l xs):l≠it:=by
 rintro rfl;cases b
 ·let⟨o,e,c,d⟩:=(show h.IsListIter l l k from x)
  let⟨o',e',r⟩:=(show h.IsList l xs from y)
  rw[e] at e';cases e';simp_all
 ·let⟨o,e,c,d⟩:=(show h.IsTupleIter l l k from x)
  let⟨o',e',r⟩:=(show h.IsTuple l xs from y)
  rw[e] at e';cases e';simp_all
def aal(hn:A.handled=none)(b:Bool)(it l:Addr)(xs:Array Value):Draws prog w A it [it,l] xs.size (λi x=>xs[i]?=some x) (λi h=>Va b h it l i/\Vj b h l xs) where
 live:=λi h st=>let ⟨o,e,_⟩:=st.1.obj;⟨o,e⟩
 frame:=λi h h' st k=>⟨st.1.at (k it (by simp)),st.2.at (k l (by simp))⟩
 item:=λi s Q E hi st hQ=>nxt st.1 st.2 (v:=xs[i]) (by simp[hi]) λg e t=>hQ _ g s.toks (by simp[hi]) ⟨e,st.2.extBut t.extBut (st.1.ne st.2)⟩ t
 done:=λs Q E st hE=>Yp hn st.1 st.2 (by simp) hE
def abE{UJ:Bool}{e it l:Addr}{i:Nat}{items:Array Value}{x old:Value}{Q:Option Value->Shared->Prop}(hn:A.handled=none)
  (qe:IsEnum s.heap e it i old) (qi:Va UJ s.heap it l i) (ql:Vj UJ s.heap l items) (ex:items[i]?=some x) (nei:e≠it)
  (kQ:∀g tk,IsEnumOut g e it ((i:Int)+1) x s.heap.objs.size->Va UJ g it l (i+1)->g.get? s.heap.objs.size=some { cls:=.type "tuple",data:=.seq #[.int i tk,x] } ->
   g.objs.size=s.heap.objs.size+1->(∀c o,c≠e->c≠it->s.heap.get? c=some o->g.get? c=some o)->Q (some (.ref s.heap.objs.size)) { s with heap:=g,toks:=tk+1 }) :
  wpAny (model prog w) A (pyNext (.ref e)) Q E s:=by
 have nel:e≠l:=by
  rintro rfl;cases UJ
  ·let⟨o,e1,r⟩:=(show s.heap.IsList e items from ql)
   rw[qe] at e1;cases e1;simp at r
  ·let⟨o,e1,r⟩:=(show s.heap.IsTuple e items from ql)
   rw[qe] at e1;cases e1;simp at r
 have D:Draws prog w A.in1 it [it,l] items.size (λi x=>items[i]?=some x) (λi h=>Va UJ h it l i/\Vj UJ h l items):=aal (A:=A.in1) hn UJ it l items;refine wpAny_pyNext_enum_itemD D qe ⟨qi,ql⟩ (Array.getElem?_eq_some_iff.mp ex).1 nei (by simp[nei,nel]) λy g tk hy a b c d k=>?_;rw[ex] at hy;cases hy;exact kQ g tk a b.1 c d k
end Zp
namespace Dl
open PySem L2 PySem.Spec PyProof.Rows Zp
def sd{K:W.Frag}(b:Bool)(a it e:Addr)(hei:e≠it):Turn P w K (.Tuple elts k pos) (SG (va K b a)) [e,it] e (λi h=>(∃old,IsEnum h e it i old)/\Va b h it a i) where
 mem:=by simp
 obj:=λi h st c hc=>by
  let⟨⟨old,he⟩,hi⟩:=st;rcases List.mem_cons.mp hc with z|z
  ·subst z;exact⟨_,he,λv q=>by have q:Data.fields _=Data.cell v:=q;cases q⟩
  ·rw[List.mem_singleton.mp z];exact hi.obj
 keep:=λi h h' st kk=>⟨let ⟨old,he⟩:=st.1;⟨old,kk e (by simp) _ he⟩,st.2.at λo q=>kk it (by simp) o q⟩
 item:=by
  intro X hP hw hK hc i pins s σ H E I hf st hg;subst hP hw hK;let⟨xs,x,hq,hx⟩:=hg;let⟨its,rv,p,hz⟩:=hq.src I;let⟨u,hu,ru⟩:=rv.get hx;let⟨⟨old,he⟩,hi⟩:=st;refine abE (I.ok.hd hc) he hi p (x:=u) (by simpa using hu) hei λg tk b1 b2 b3 b4 hk=>⟨.ref s.heap.objs.size,rfl,?_⟩
  have lt:∀ {c:Addr}{o:Obj},s.heap.get? c=some o->s.heap.objs.size≠c:=λe=>jK (zY e);have Yk:s.heap.objs.size≠e:=lt he;refine wpAny_letOwnedTupleGo_enum (s:={ s with heap:=g,toks:=tk+1 }) b1 λg' he' VN=>?_;have b3':g'.get? s.heap.objs.size=some { cls:=.type "tuple",data:=.seq #[.int i tk,u] }:=VN.extBut _ _ Yk b3;have ht:rK g' s.heap.objs.size (List.toArray [Value.int (i:Nat) tk,u]):=⟨⟨_,b3',rfl,_,rfl⟩,_,b3',rfl⟩
  refine⟨.ref s.heap.objs.size,_,AF (ch:=[e,it]) (xs:=[.int (i:Nat),x]) (t':=tk+1) I hf (λc o hb q=>?_) (yN _) ht (.cons ⟨_,rfl⟩ (.cons ru .nil)) (by show 2<=sizeLine;decide),rfl,
   ⟨s.heap.objs.size,x,rfl,I.fresh,rfl,λzs hzs=>by rw[hzs.inj I hq];exact hx⟩,⟨⟨_,he'⟩,b2.extBut VN.extBut (jP hei)⟩,λc VF=>?_⟩
  ·simp?[zQ,yF,xW,not_or] at hb;exact VN.extBut _ _ hb.1 (hk c o hb.1 hb.2 q)
  ·have:s.heap.objs.size≠c:=by
    simp?[zQ,yF,xW] at VF;let⟨o1,g1,_⟩:=hi.obj;rcases VF with rfl|rfl
    ·exact lt he
    ·exact lt g1
   rw[aD (jP this)];exact (hf c VF).1
 done:=by
  intro X hP hw hK hc i pins s σ H E I hf st hg;subst hP hw hK;let⟨xs,hq,hx⟩:=hg;let⟨its,rv,p,hz⟩:=hq.src I;have hh:X.A.in1.handled=none:=I.ok.hd hc;have hl:=rv.length;let⟨⟨old,he⟩,hi⟩:=st;have hT:s.TypeIs (.ref e) "enumerate":=⟨_,he,rfl⟩
  unfold pyNext;refine zV (vB (qE (name:=Str.ofString "__next__") hT F.slot_enumerate_next (qY F.slot_enumerate_next hT F.entry_enumerate_next ?_ (F.args_enumerate_next_1 _))));refine zV (m:=field (.ref e) 2) (qV he rfl (x:=.ref it) rfl ?_);refine zV (Yp hh hi p (by simp;lia) λh1 x k1 hx1=>?_);let⟨o,ho,hc1⟩:=hx1;refine zV (wpAny_isInstance (T:="StopIteration") (b:=true) ⟨o,ho,hc1⟩ isSubtype_stop (zW ⟨rfl,?_⟩));let⟨f0,f1,f2,f3,f4,f5⟩:=hf it (by simp);exact I.turned (t':=s.toks) (λb o hb q=>k1 b o hb q) f0 f1 f3 f4 f5
 self:=λ_ _ _ _ _ st h=>let ⟨_,he⟩:=st.1;Zo he h
def K4(B:p8 X "enumerate" (.type "enumerate"))(ha:PA X [l] tl)(hs:starEach [l] X.env=[(false,eval l X.env)]):PI X (.Tuple elts k tp) (.Call (.Name "enumerate" p) [l] [] pos) (λσ H R=>tl σ H λvs H1=>∃a,vs=[.ref a]/\∃b xs,va X.K b a H1 xs/\R (SG (va X.K b a)) H1):=by
 intro pins s σ H R I h;refine Call_ (fZ I B.gl B.mg B.bt (qU (ck (ha pos pins s σ H _ I h) λus s1 ⟨vs,H1,I1,r1,q1⟩=>?_) hs rfl));let⟨a,e,b,xs,hq,q⟩:=q1;subst e;let⟨u,rfl,rx⟩:=vals1 r1;cases rx;have fresh:∀b∈[s1.heap.objs.size+1,s1.heap.objs.size],cN X pins H1 b:=λb hb=>by
  rcases List.mem_cons.mp hb with z|z
  ·subst z;exact I1.Vt (Nat.le_succ _) (I1.UC.fresh (Nat.le_succ _))
  ·cases List.mem_singleton.mp z;exact I1.Vt (yN _) I1.fresh
 let⟨its,rv,pl,hz⟩:=hq.src I1;cases b with
 | false =>
  refine call_enumerate_list pl λh' he hit WU kp=>Zo (s:={ s1 with heap:=h' }) he ?_;exact⟨_,_,_,_,H1,rfl,I1.kept (t':=s1.toks) kp,sd false a s1.heap.objs.size (s1.heap.objs.size+1) (Nat.succ_ne_self _),⟨⟨_,he⟩,hit⟩,fresh,q⟩
 | true =>
  refine En.WJ (show s1.heap.IsTuple a its.toArray from pl) λh' he hit WU kp=>Zo (s:={ s1 with heap:=h' }) he ?_;exact⟨_,_,_,_,H1,rfl,I1.kept (t':=s1.toks) kp,sd true a s1.heap.objs.size (s1.heap.objs.size+1) (Nat.succ_ne_self _),⟨⟨_,he⟩,hit⟩,fresh,q⟩
def bf(fs:Env->Option (List D)):Env->Option (List D):=λρ=>(fs ρ).bind λds=>(eO ds).map (bH 0)
def LK(B:p8 X "enumerate" (.type "enumerate"))(h:DA X [l] fs)(hs:starEach [l] X.env=[(false,eval l X.env)]):DI X (.Tuple elts k tp) (.Call (.Name "enumerate" p) [l] [] pos) (bf fs) :=
 xy (K4 B h hs) λσ H R ⟨HF,ρ,ds,sm,eo,hf,q⟩=>by
  let⟨x,hx,hf⟩:=bs hf;let⟨es,h1,rfl⟩:=ah hf;let⟨d,h0,h1⟩:=bs h1;rw[gW h0] at hx;refine⟨HF,ρ,_,sm,eo,hx,λvs H1 UB g1 r1=>?_⟩;let⟨v,r',rfl,a,b⟩:=r1.cons_inv;rw[b.nil_inv];let⟨c,ad,us,rfl,hq,rr⟩:=CC h1 a;exact⟨ad,rfl,c,us,hq.mono g1.fh,q _ H1 UB g1 (E7 hq (λ_ _ s h=>h.mono s) rr)⟩
end Dl
namespace WD
open PySem PySem.W PySem.Calls PyProof.Rows L2
def cN.at(h:cN X pins H b)(e:H' b=none):cN X pins H' b:=⟨e,h.2⟩
def VI{g:Array Value->Array Value}(I:Inv X pins σ H s)(f:cN X pins H b):Inv X pins σ H { s with heap:=s.heap.update b (Obj.mapSeq g) }:=by
 let⟨f0,f1,f2,f3,f4,f5⟩:=f;exact I.turned (t':=s.toks) (h':=s.heap.update b (Obj.mapSeq g)) (λc o hc e=>(xP _ _ (jP hc)).trans e) f0 f1 f3 f4 f5
def V9(I:Inv X (pins++pb fp h) σ H' s')(hb:b∈fp)(e:h.get? b=some o):s'.heap.get? b=some o/\H' b=none :=
 let q:=I.pin (b,o) (yE _ (yE _ (dP hb e)));⟨q.1,q.2.1⟩
def VM(I:Inv X pins σ H s)(ho:s.heap.get? a=some (seqObj "list" vs.toArray n))(fa:cN X pins H a)(Wl:vs.length < 64)
  (J:List Value->Hp->Prop) (j0:J [] H)
  (step:∀us v,vs[us.length]?=some v->∀pl s' H',Inv X (pins++pl) σ H' s'->J us H'->wpAny (model X.prog X.w) A (call f [v]) (λu VG=>∃X3,Inv X (pins++pl) σ X3 VG/\J (us++[u]) X3) (λ_ _=>False) s')
  (fin:∀us H',us.length=vs.length->J us H'->∃ (z:Nat->Int) (κ:SortKind),(2<=vs.length->∀s',Inv X pins σ H' s'->(∀Q':SortKind->Shared->Prop,Q' κ s'->wpAny (model X.prog X.w) A (keyKind' us.toArray) Q' (λ_ _=>False) s') /\
    ∀i j C,i < vs.length->j < vs.length->C (SP.eM z i j) s'->kas_ask X.prog X.w A κ us i j C s') /\
   ∀s' c,Inv X pins σ H' s'->cN X pins H' a->s'.heap.get? a=some (seqObj "list" (UO z vs).toArray c)->P (.done (.ret .none)) s') :
  wpAny (model X.prog X.w) A (ksk_tree a f false) P E s:=by
 have WG:vs.length<=sizeLine:=by rw[qX];lia
 unfold ksk_tree;refine zV (vW ho rfl ?_);refine zV (kF ho rfl ?_ (by simpa using WG) (xX _));obtain⟨e1,YQ⟩:∃e,(s.heap.update a (Obj.mapSeq λ_=>(#[]:Array Value))).get? a=some (seqObj "list" #[] e):=⟨_,kJ ho λ_=>#[]⟩
 have I1:=VI (g:=λ_=>(#[]:Array Value)) I fa;refine zV (seqEpoch_at YQ rfl ?_);refine zV (wpAny_newTuple ?_ (by simpa using WG));refine zV (vA ?_ (xX _));refine xZ ?_;have YR:(((s.heap.update a (Obj.mapSeq λ_=>(#[]:Array Value))).push (seqObj "tuple" vs.toArray 0)).push (seqObj "list" #[] 0)).get? a=some (seqObj "list" #[] e1):=zU _ (zU _ YQ);have hk3:(((s.heap.update a (Obj.mapSeq λ_=>(#[]:Array Value))).push (seqObj "tuple" vs.toArray 0)).push (seqObj "list" #[] 0)).get? ((s.heap.update a (Obj.mapSeq λ_=>(#[]:Array Value))).push (seqObj "tuple" vs.toArray 0)).objs.size=some (seqObj "list" #[] 0):=zX _ rfl;have I3:=(I1.kept (t':=s.toks) (h':=((s.heap.update a (Obj.mapSeq λ_=>(#[]:Array Value))).push (seqObj "tuple" vs.toArray 0)).push (seqObj "list" #[] 0)) λb o e=>zU _ (zU _ e))
 have I2:=(I1.kept (t':=s.toks) (h':=(s.heap.update a (Obj.mapSeq λ_=>(#[]:Array Value))).push (seqObj "tuple" vs.toArray 0)) λb o e=>zU _ e)
 have fk:cN X pins H ((s.heap.update a (Obj.mapSeq λ_=>(#[]:Array Value))).push (seqObj "tuple" vs.toArray 0)).objs.size:=I2.Vt (yN _) (I2.UC.fresh (yN _));have hka:((s.heap.update a (Obj.mapSeq λ_=>(#[]:Array Value))).push (seqObj "tuple" vs.toArray 0)).objs.size≠a:=by
  have UQ:=zY YQ;rw[xM];exact jK (jQ UQ)
 show wpAny _ A _ P E { s with heap:=((s.heap.update a (Obj.mapSeq λ_=>(#[]:Array Value))).push (seqObj "tuple" vs.toArray 0)).push (seqObj "list" #[] 0) };generalize ((s.heap.update a (Obj.mapSeq λ_=>(#[]:Array Value))).push (seqObj "tuple" vs.toArray 0)).objs.size=kS at hk3 fk hka;generalize e3:({ s with heap:=((s.heap.update a (Obj.mapSeq λ_=>(#[]:Array Value))).push (seqObj "tuple" vs.toArray 0)).push (seqObj "list" #[] 0) }:Shared)=s3 at I3;have YR:s3.heap.get? a=some (seqObj "list" #[] e1):=by rw[<- e3];exact YR
 have hk3:s3.heap.get? kS=some (seqObj "list" #[] 0):=by rw[<- e3];exact hk3
 clear e3 I2 I1 YQ ho;unfold ksk_rest;refine zV (Za ?_)
 first
  | rw[List.forIn_toArray]
  | (rw[<- Array.forIn_toList];simp?[List.toList_toArray])
  | rw[<- Array.forIn_toList]
 refine zV (ksk_fold (λi s'=>∃us H' e,us.length=i/\Inv X pins σ H' s'/\H' a=none/\H' kS=none/\s'.heap.get? a=some (seqObj "list" #[] e1)/\s'.heap.get? kS=some (seqObj "list" us.toArray e)/\J us H') vs 0 s3
  ⟨[],H,0,rfl,I3,fa.1,fk.1,YR,hk3,j0⟩ ?step ?done)
 case step =>
  rintro j x s' hx ⟨us,H',e,hu,I',ha',U0,hoa,UC,j'⟩;have hu:us.length=j:=by lia
  have hj:j < vs.length:=(List.getElem?_eq_some_iff.mp hx).1;have Ip:=I'.pinned (fp:=[a,kS]) (λb hb=>by
   rcases List.mem_cons.mp hb with rfl|hb
   ·exact cN.at fa ha'
   ·rw[List.mem_singleton.mp hb];exact cN.at fk U0) (λb hb=>by
   rcases List.mem_cons.mp hb with rfl|hb
   ·exact⟨_,hoa,λv z=>by cases z⟩
   ·rw[List.mem_singleton.mp hb];exact⟨_,UC,λv z=>by cases z⟩)
  refine zV (vB (xB (step us x (by rw[hu];exact hx) _ s' H' Ip j') (λu VG he=>?_) λ_ _ hF=>hF.elim));let⟨X3,I'',j''⟩:=he
  try dsimp only
  let⟨ga,na⟩:=V9 I'' (b:=a) zE hoa;let⟨gk,nk⟩:=V9 I'' (b:=kS) (zC _ zE) UC;have I4:=I''.UP;obtain⟨c2,W5⟩:∃c2,(VG.heap.update kS (Obj.mapSeq (·.push u))).get? kS=some (seqObj "list" (us.toArray.push u) c2):=⟨_,kJ gk (·.push u)⟩
  refine zV (kF gk rfl ?_ (by rw[zH,qX];lia) (yD (Nat.le_of_eq (Array.size_push ..)) (by rw[zH,qX];lia)));refine zW ⟨rfl,us++[u],X3,c2,by rw[zN,hu];simp,VI I4 (cN.at fk nk),na,nk,(xP _ _ hka).trans ga,?_,j''⟩;rw[W5];simp
 case done =>
  rintro s' ⟨us,H',e,hu,I',ha',U0,hoa,UC,j'⟩;have hu:us.length=vs.length:=by lia
  try dsimp only
  refine zV (vW UC rfl ?_);let⟨z,κ,hz,hP⟩:=fin us H' hu j';have last:∀Vf:SortSt,(arrOf Vf).map (·.2)=(UO z vs).toArray->failedOf Vf=none->wpAny (model X.prog X.w) A (ksk_tail a false e1 (.ref kS) Vf) P E s':=λVf h1 h2=>by
   unfold ksk_tail
   try dsimp only
   rw[h1,h2];have na1:(s'.heap.update kS (Obj.mapSeq λ_=>(#[]:Array Value))).get? a=some (seqObj "list" #[] e1):=(xP _ _ hka).trans hoa;have I5:=VI (g:=λ_=>(#[]:Array Value)) I' (cN.at fk U0);have I6:=VI (s:={ s' with heap:=s'.heap.update kS (Obj.mapSeq λ_=>(#[]:Array Value)) }) (g:=λ_=>(UO z vs).toArray) I5 (cN.at fa ha');refine zV (kF UC rfl ?_ (by rw[zH,qX];lia) (xX _));refine zV (wpAny_letGo ?_);refine zV (seqEpoch_at na1 rfl ?_);refine zV (kF na1 rfl ?_ (xX _) (by
    simp?[yP,qS];show (UO z vs).toArray.size<=_;rw[zH,Wj];lia))
   obtain⟨c,hc⟩:∃c,((s'.heap.update kS (Obj.mapSeq λ_=>(#[]:Array Value))).update a (Obj.mapSeq λ_=>(UO z vs).toArray)).get? a=some (seqObj "list" (UO z vs).toArray c):=⟨_,kJ na1 λ_=>(UO z vs).toArray⟩
   simp?[bne_self_eq_false,yP,qS];exact zW (hP _ c I6 (cN.at fa ha') hc)
  unfold ksk_end
  try dsimp only
  simp?[yP,qS];by_cases h2:vs.toArray.size < 2
  ·rw[yM h2,yM h2];refine zV (zW ?_);rw[StateT.run_pure];refine zV (zW (last _ ?_ rfl));have X2:vs.length < 2:=by simpa using h2
   unfold UO;rw[yM X2];show ((us.toArray.zip vs.toArray).map (·.2))=vs.toArray;apply Array.toList_inj.mp;simp?[Array.toList_map,Array.toList_zip];exact List.map_snd_zip (by rw[hu];exact yN _)
  ·rw[yO h2,yO h2];have X2:2<=vs.length:=by
    have:¬ vs.length < 2:=by simpa using h2
    lia
   let⟨hk,UQ⟩:=hz X2 s' I';refine zV (xB (hk (λκ' VG=>κ'=κ/\VG=s') ⟨rfl,rfl⟩) (λκ' VG hs=>?_) λ_ _ x=>x.elim);let⟨rfl,rfl⟩:=hs;refine zV (xB (kat_run (Q:=λVf s2=>s2=VG/\(arrOf Vf).map (·.2)=(UO z vs).toArray/\failedOf Vf=none) (G:=λp s2=>s2=VG/\p=SP.run (SP.eM z) (kas_sort vs.length))
    hu X2 Wl (λp Vf s2 a1 a2 a3 a4=>⟨a4.1,?_,a3⟩) (SP.wp_run UQ (kas_sort vs.length) (SP.GU (by lia)) ⟨rfl,rfl⟩)) ?_ λ_ _ e=>e)
   ·rw[kat_snds hu a2,a4.2];unfold UO;rw[yO (by lia)]
   ·rintro⟨⟨⟩,Vf⟩ s2 ⟨hs,h4,h5⟩;subst hs;exact last Vf h4 h5
def sortedK{l:Value}{f:Addr}{Q:Value->Shared->Prop}(I:Inv X pins σ H s)(Wl:vs.length < 64)
  (aam:∀ {Q':List Value->Shared->Prop},(∀h':Heap,(∀b o,s.heap.get? b=some o->h'.get? b=some o)->Q' vs { s with heap:=h' })->wpAny (model X.prog X.w) A.in1 (collect l) Q' E s)
  (J:List Value->Hp->Prop) (j0:J [] H)
  (step:∀us v,vs[us.length]?=some v->∀pl s' H',Inv X (pins++pl) σ H' s'->J us H'->wpAny (model X.prog X.w) A.in1.in1 (call (.ref f) [v]) (λu VG=>∃X3,Inv X (pins++pl) σ X3 VG/\J (us++[u]) X3) (λ_ _=>False) s')
  (fin:∀us H',us.length=vs.length->J us H'->∃ (z:Nat->Int) (κ:SortKind),(2<=vs.length->∀s',Inv X pins σ H' s'->(∀Q':SortKind->Shared->Prop,Q' κ s'->wpAny (model X.prog X.w) A.in1.in1 (keyKind' us.toArray) Q' (λ_ _=>False) s') /\
    ∀i j C,i < vs.length->j < vs.length->C (SP.eM z i j) s'->kas_ask X.prog X.w A.in1.in1 κ us i j C s') /\
   ∀s' D c,Inv X pins σ H' s'->cN X pins H' D->s'.heap.get? D=some (seqObj "list" (UO z vs).toArray c)->Q (.ref D) s') :
  wpAny (model X.prog X.w) A (call (.builtin "sorted") [l] [(Str.ofString "key",.ref f)]) Q E s:=by
 have WG:vs.length<=sizeLine:=by rw[qX];lia
 refine call_function_entry_kw kind_sorted plain_sorted entry_sorted (ksk_s1 _ _) ?_;unfold Builtin.«sorted»;refine zV (m:=checkCount "sorted" 1 1 _) (zW (zV (aam λh1 kp=>?_)));refine zV (vA ?_ (by simpa using WG));have I1:=I.kept (t':=s.toks) kp;have fD:cN X pins H h1.objs.size:=I1.Vt (yN _) (I1.UC.fresh (yN _));have Yo:(h1.push (seqObj "list" vs.toArray 0)).get? h1.objs.size=some (seqObj "list" vs.toArray 0):=zX _ rfl;have I2:=I1.kept (t':=s.toks) (h':=h1.push (seqObj "list" vs.toArray 0)) λb o e=>zU _ e;show wpAny _ _ _ _ _ { s with heap:=h1.push (seqObj "list" vs.toArray 0) };refine zV (xZ (wpAny_call_entry_kw slot_list_sort ⟨_,Yo,rfl⟩ entry_list_sort ?body (ksk_l1 _ _)))
 case body =>
  show wpAny (model X.prog X.w) A.in1.in1 (Builtin.«list.sort» ⟨[.ref h1.objs.size],[(Str.ofString "key",.ref f)]⟩) _ _ _;rw[ksk_t1];refine VM I2 Yo fD Wl J j0 step λus H' hu j'=>?_;let⟨z,κ,hz,hP⟩:=fin us H' hu j';exact⟨z,κ,hz,λs' c I' f' e=>⟨_,rfl,zW ⟨_,rfl,hP s' _ c I' f' e⟩⟩⟩
end WD
namespace Dl
open PySem L2 PySem.Spec PyProof.Rows
def _root_.L2.Inv.YV(I:Inv X pins σ H s)(f:cN X pins H b)(ho:eH X.prog X.w (upd H b o) s.heap b o):Inv X pins σ (upd H b o) s:=by
 let⟨f0,f1,f2,f3,f4,f5⟩:=f;have up:∀c u,H c=some u->upd H b o c=some u:=λc u e=>by rw[aD (aU e f0)];exact e
 refine⟨I.ok,I.os,I.bare,⟨I.base.keep,I.base.slot,λc oc e n hx=>?_,I.base.there,λc xs e=>up c _ (I.base.Vs c xs e),λc oc u e=>up c _ (I.base.Vk c oc u e),⟨λc u e t=>up c u (I.base.Vc.st c u e t),I.base.Vc.gr⟩⟩,I.loc,I.cell,?_,λx c e=>?_,λp hp=>?_,λc u e=>?_,I.len⟩
 ·have UN:c≠b:=λz=>by
   rcases f3 with g|g
   ·exact hx (z ▸ g)
   ·exact absurd (zP (zY e) (z ▸ g)) (qG _)
  rw[aD UN];exact I.base.free c oc e n hx
 ·rw[aD (jP f1)];exact I.free
 ·rw[aD (f4 x c e)];exact I.UH x c e
 ·let⟨e,n,r⟩:=I.pin p hp;exact⟨e,by rw[aD (f5 p hp)];exact n,r⟩
 ·by_cases hc:c=b
  ·subst hc;rw[aH] at e;cases e;exact ho
  ·rw[aD hc] at e;exact (I.UC c u e).Vb (λd w _ q=>q) (λd q=>up d _ q) λd w q _=>up d _ q
def pK(scope:Scope)(N':List Str)(p:Str):Bool:=scope.names.all (λq=>!decide (q.2=NameKind.cell))&&decide (N'[0]?=some p)&&decide (scope.names.lookup p=some .local)&&decide (scope.isCoroutine=false)&&decide (scope.isGenerator=false)
section
def Jl(C:Bk X N sc (k+3))(hA:ej (k+1) A)(hk:scope.kind=.function)(Vq:N'.Nodup)(hl:pK scope N' p=true):Bk (iu X A qual scope N' f c s H) N' scope k where
 n:=rfl
 nd:=Vq
 tb:=λx kd hx=>.inl hx
 calm:=rfl
 fn:=λx hx=>by
  unfold pK at hl;simp?[zF,xI,yQ,xC] at hl;exact absurd rfl (hl.1.1.1.1 _ (mem_of_lookup hx))
 room:=hA.deeper _
 xe:=rfl
 kd:=hk
structure su(X:Cx)(qual:Str):Prop where
 ex:∃c P,X.env.code=.ref c/\X.env.qual++"<lambda>"=qual/\W.codeHdIn X.K c P=true/\∀HF,eS X.K HF->HF P=some (.tab qual)
def ji(te:Env->Option D)(ρ:Env):List D->Option (List D)
 | []=>some []
 | d::ds=>(te (ρ.set 0 (some d))).bind λx=>(ji te ρ ds).map (x::·)
def o4:∀ {ds ks:List D},ji te ρ ds=some ks->ks.length=ds.length
 | [],ks,h=>by cases h;rfl
 | d'::ds,ks,h=>by
  unfold ji at h;let⟨y,h1,h⟩:=bs h;let⟨ys,h2,rfl⟩:=ah h;simp[o4 h2]
def sJ:∀ {ds ks:List D}{i:Nat}{d:D},ji te ρ ds=some ks->ds[i]?=some d->∃x,te (ρ.set 0 (some d))=some x/\ks[i]?=some x
 | [],ks,i,d,h,e=>by simp at e
 | d'::ds,ks,i,d,h,e=>by
  unfold ji at h;let⟨y,h1,h⟩:=bs h;let⟨ys,h2,rfl⟩:=ah h;cases i with
  | zero=>simp at e;subst e;exact⟨y,h1,rfl⟩
  | succ i=>let⟨x,a,b⟩:=sJ h2 (by simpa using e);exact⟨x,a,by simpa using b⟩
def o7(cs:List Nat)(fl te:Env->Option D):Env->Option (List D):=λρ=>(fl ρ).bind λl=>match l with
 | .list ds=>(ji te (eL 1 cs ρ) ds).bind λks=>(intsOf ks).bind λzs=>if ds.length < 64 then some (rq (λi=>zs.getD i 0) ds .none) else none
 | _=>none
def A3{K:W.Frag}{cs:List Nat}(eo:cM K HF ρ σ)(r:Rep K HF d v):cM K HF ((eL 1 cs ρ).set 0 (some d)) ((kn 1 cs σ).set 0 (some v)):=jw (Eg eo) r
def nM{K:W.Frag}:∀ {ks:List D}{zs:List Int}{U1:List V}{us:List Value},intsOf ks=some zs->ax K HF ks U1->aN U1 us->IntsAre us zs
 | [],zs,U1,us,h,r,v=>by
  cases h;rw[r.nil_inv] at v;cases v;exact .nil
 | d::ks,zs,U1,us,h,r,v=>by
  cases d<;>simp?[intsOf] at h<;>try cases h
  rename_i i;let⟨ys,h2,rfl⟩:=ah h;let⟨w,ws,rfl,a,b⟩:=r.cons_inv;simp?[Rep] at a;subst a;cases v with
  | cons r1 r2 =>
   let⟨t,rfl⟩:=r1;exact .cons i t (nM h2 b r2)
def ke:∀ {us:List Value}{zs:List Int}{i:Nat},IntsAre us zs->i < us.length->∃t,us.getD i Value.none=.int (zs.getD i 0) t
 | _,_,i,.nil,h=>by simp at h
 | _,_,0,.cons n t r,h=>⟨t,rfl⟩
 | _,_,i+1,.cons n t r,h=>by
  let⟨t',e⟩:=ke (i:=i) r (by simpa using h);exact⟨t',by simpa using e⟩
variable {fl te:Env->Option D}{cs:List Nat}
def Bk.abF(C:Bk X N sc (k+3))(B:p8 X "sorted" (.builtin "sorted"))(L:su X qual)(ok:iE sc scope N N' 1 cs=true)(hl:pK scope N' p=true)
  (hb:∀ (cl:List (Str×Addr)) (pm VR u:Value) (c:Addr),bindArgs (W.kla_fn "<lambda>" qual params body scope cl pm (.ref c) VR) ⟨[u],[]⟩=pure [(p,u)]) (XB:defaultsOf params X.env=([],[])) (h:DE X l fl)
  (hY:∀A f c s H,Bk (iu X A qual scope N' f c s H) N' scope k->DE (iu X A qual scope N' f c s H) body te)
  (VZ:starEach [l] X.env=(false,eval l X.env)::starEach [] X.env) (he:backTo pos (starEach [l] X.env)=(false,eval l X.env)::backTo pos (starEach [] X.env)) (U7:(backTo pos (starEach [l] X.env)).any (·.1)=false) :
  DF X (.Call (.Name "sorted" p0) [l] [⟨some "key",.Lambda params body scope U9,Wa⟩] pos) (o7 cs fl te):=by
 let⟨S,_⟩:=C.comp ok;have Vq:N'.Nodup:=by
  unfold iE at ok;simp?[zF,zJ] at ok;exact ok.2
 have YW:=hl;unfold pK at YW;simp?[zF,xI,yQ,xC,zJ] at YW;obtain⟨⟨⟨⟨X0,YK⟩,hp⟩,WW⟩,Xz⟩:=YW;let⟨cc,P,V2,XH,hhd,fA⟩:=L.ex;intro pins s σ H Q I ⟨HF,ρ,out,sm,eo,hf,q⟩;let⟨ld,hld,hf⟩:=bs hf;cases ld<;>try cases hf
 rename_i ds;let⟨ks,hks,hf⟩:=bs hf;let⟨zs,hzs,hf⟩:=bs hf;split at hf<;>cases hf;rename_i Wl;refine jA (fZ I B.gl B.mg B.bt ?_ (by decide) (by decide));refine PyProof.Rows.callWith_kw (e:=l) (rest:=[]) (kws:=[⟨some "key",.Lambda params body scope U9,Wa⟩]) ?_ he U7 rfl rfl;refine ck (Ea h Iv VZ pos pins s σ H _ I ⟨HF,ρ,[.list ds],sm,eo,by simp[aa,ag,hld],λvs H1 UB g1 r1=>(⟨UB,g1,r1⟩:∃UB,bG HF H UB H1/\ax X.K UB [.list ds] vs)⟩) λus s1 ⟨vs,H1,I1,rv,UB,g1,r1⟩=>?_;let⟨v,vr,rfl,a1,b1⟩:=r1.cons_inv;rw[b1.nil_inv] at rv;let⟨u,rfl,rx⟩:=vals1 rv;simp?[Rep] at a1;let⟨la,ws,rfl,hq,rr⟩:=a1;cases rx;have hT1:H1 P=some (.tab qual):=g1.fh _ _ (fA UB (eo.tb.mono g1.ff));show wpAny _ _ (evalAll ((do let v <- eval (.Lambda params body scope U9) X.env;standAt pos;pure v)::[])) _ _ s1;refine wpAny_evalAll_cons (zV ?_);refine A5 (P:=P) I1 S XH V2 (W.codeHd_of_K I1.ok.mod.XW hhd) hT1 I1.ok.mod.bmd XB λf c' pm VR s2 H2 I2 hfo Xo XA s12 fp2 _=>?_;refine zV (vM (zW (wpAny_evalAll_nil ?_)));show wpAny _ _ (call (.builtin "sorted") [.ref la] [(Str.ofString "key",.ref f)]) _ _ s2;have Ip:=I2.pinned (fp:=[f]) (λb hb=>by rw[List.mem_singleton.mp hb];exact fp2) (λb hb=>by rw[List.mem_singleton.mp hb];exact⟨_,hfo,λv z=>by cases z⟩);have g2:bG UB H1 UB H2:=⟨s12,.refl _,g1.fh.trans s12,λ_ _ e=>.inl e⟩
 let⟨its,rvi,pl,hz⟩:=Ip.list (s12.seq (g1.fh.seq hq));have hlen:its.length=ds.length:=by rw[<- rvi.length,rr.length]
 have hkl:=o4 hks;have hR:ej (k+1) X.A.in1.in1:=C.room.in1.in1;refine WD.sortedK (vs:=its) Ip (by lia) (λ{Q'} hQ=>?_) (λus H'=>∃UA U1,bG UB H2 UA H'/\ax X.K UA (ks.take us.length) U1/\aN U1 us) ⟨UB,[],.refl g2.fh,by simpa using ax.nil,.nil⟩ (λus x hx pl' s3 H3 I3 ⟨U3,U1,g3,rk,YX⟩=>?_) λus H3 hu ⟨U3,U1,g3,rk,YX⟩=>?_
 ·refine collect_list pl.isList (hQ _ λb o e=>?_) (by rw[qX];lia);exact (xP _ _ (jK (zY e))).trans (zU _ e)
 ·have hi:us.length < its.length:=(List.getElem?_eq_some_iff.mp hx).1;obtain⟨w,hw⟩:∃w,ws[us.length]?=some w:=⟨_,zK (by rw[rvi.length];exact hi)⟩
  let⟨x',W8,ZY⟩:=rvi.get hw;rw[hx] at W8;cases W8;let⟨d,hd,rd⟩:=rr.get hw;let⟨kd,hkd,hki⟩:=sJ hks hd;have aan:s3.heap.get? f=some (W.kla_obj "<lambda>" qual params body scope (eR X.env scope.names []) pm c' VR) :=
   (I3.pin (f,_) (yE _ (qL _ (yE _ (dP zE hfo))))).1
  refine xB (Bb (Q:=λv H4=>∃Vy,bG U3 H3 Vy H4/\Rep X.K Vy kd v) (te:=tD X.K te) I3 hR I3.ok.frames S X0 YK hp Vq WW Xz aan (g3.hh _ _ XA) (hb _ _ _ _ _) ZY (hY _ _ _ _ _ (Jl C hR S.kind Vq hl))
   ⟨U3,_,kd,g3.fh,A3 (eo.mono (g1.ff.trans g3.ff)) (rd.mono g3.ff),hkd,λv H4 Vy g4 r4=>⟨Vy,g4,r4⟩⟩) (λu s4 ⟨v4,H4,I4,r4,Vy,g4,rp⟩=>⟨H4,I4,Vy,U1++[v4],g3.trans g4,?_,YX.append (.cons r4 .nil)⟩) λ_ _ e=>e
  rw[zN,xD,Zq,hki];exact (rk.mono g4.ff).append (ax.cons rp ax.nil)
 ·have U0:ks.take us.length=ks:=kP (by lia);rw[U0] at rk;have ia:=nM hzs rk YX;refine⟨λi=>zs.getD i 0,oneType',λh2 s3 I3=>⟨λQ' q'=>?_,λi j Cc hi hj q'=>?_⟩,λs3 Dn c I3 fD e=>?_⟩
  ·rw[PyProof.Rows.ksk_kind (keys:=us.toArray) (kz:=zs) (by simpa using ia) (by simpa [hu] using h2)];exact zW q'
  ·let⟨t1,e1⟩:=ke ia (i:=i) (by lia);let⟨t2,e2⟩:=ke ia (i:=j) (by lia);unfold W.kas_ask;rw[e1,e2];exact W.kat_lt_int q'
  ·have hv:=rJ (λi=>zs.getD i 0) rvi;have hr:=sR (λi=>zs.getD i 0) rr;have hnD:H3 Dn=none:=fD.1;have I4:=Inv.YV (o:=.lst (rq (λi=>zs.getD i 0) ws .Ux)) I3 fD ⟨by rw[(gJ _ _ _).length_eq];exact hz,_,c,hv,e⟩;have G:=(g1.trans g2).trans g3;refine⟨.ref Dn,_,I4.UP,rfl,q Dn _ _ U3 (G.trans (.own G.fh hnD)) (G.hh.free hnD) (G.fh.free hnD) aH (hr.mono g3.ff)⟩
end
end Dl
namespace WD
open PySem PySem.W PySem.Calls PyProof.Rows L2
variable {a:Int}{n:Nat}
def XI{R:Result->Shared->Prop}{a b c:Int}{t u v:Tok}(hh:A.handled=none)(hr:IsRange s.heap r a b c t u v)(WM:Builtin.Range.small a b c=true)(hn:Builtin.Range.rangeSize a b c=n)(hlen:n<=2 ^ 24)
  (hS:s.heap.get? S=some { cls:=.type "list",data:=.seq #[] })
  (hR:∀h' tk Ys c',(∀b o,b≠S->s.heap.get? b=some o->h'.get? b=some o)->h'.get? S=some { cls:=.type "list",dict:=none,data:=.seq Ys c',slots:=#[] } ->
   ItemsOf (λi v=>∃t,v=.int (a+i * c) t) Ys n->R (.ok (.ret (.ref S))) { s with heap:=h',toks:=tk }):codeAny (model prog w) A (.builtin "list.__iadd__" ⟨[.ref S,.ref r],[]⟩) R s:=by
 refine kK entry_list_iadd' ?_;rw[Around.under_plainId (by decide +kernel:plainId "list.__iadd__"=true) _];exact wpAny_extend_range (A:=A) hh hr WM hn hlen S (.ref S) _ hS hR
def Wo(hh:A.handled=none)(hr:IsRange s.heap r a b c t u v)(WM:Builtin.Range.small a b c=true)(hn:Builtin.Range.rangeSize a b c=n)(hlen:n<=2 ^ 24)
  (h:∀h' tk acc,(∀b o,s.heap.get? b=some o->h'.get? b=some o)->ItemsOf (λi v=>∃t,v=.int (a+i * c) t) acc n->Q acc.toList { s with heap:=h',toks:=tk }):wpAny (model prog w) A (collect (.ref r)) Q E s:=by
 unfold collect;refine zV (wpAny_runValue (kK entry_proto_collect' ?_));rw[Around.under_plainId (by decide +kernel:plainId "proto.collect"=true) _];show wpAny _ A.in1 (newList [] >>= λl=>again (.builtin "list.__iadd__" ⟨[l,.ref r],[]⟩)) _ _ s;refine zV (qN ?_);have hS:(s.heap.push { cls:=.type "list",data:=.seq #[] }).get? s.heap.objs.size=some { cls:=.type "list",data:=.seq #[] }:=zX _ rfl;refine zW ⟨plainId_quiet (by decide +kernel) _,XI (s:={ s with heap:=s.heap.push { cls:=.type "list",data:=.seq #[] } }) hh (zU _ hr) WM hn hlen hS λh' tk Ys c' hk hS' aeE=>?_⟩;show wpAny _ A (load s.heap.objs.size >>= _) _ _ _;refine zV (wpAny_load hS' ?_);exact zW (h h' tk Ys (λb o e=>hk b o (yS (zY e)) (zU _ e)) aeE)
def Yt{l:Value}{f:Addr}{PV:List Value->Prop}{Q:Value->Shared->Prop}(I:Inv X pins σ H s)
  (aam:∀ {Q':List Value->Shared->Prop},(∀ (h':Heap) (tk:Nat) (vs:List Value),PV vs->(∀b o,s.heap.get? b=some o->h'.get? b=some o)->Q' vs { s with heap:=h',toks:=tk })->wpAny (model X.prog X.w) A.in1 (collect l) Q' E s)
  (rest:∀vs,PV vs->vs.length < 64/\∃J:List Value->Hp->Prop,J [] H /\
   (∀us v,vs[us.length]?=some v->∀pl s' H',Inv X (pins++pl) σ H' s'->J us H'->wpAny (model X.prog X.w) A.in1.in1 (call (.ref f) [v]) (λu VG=>∃X3,Inv X (pins++pl) σ X3 VG/\J (us++[u]) X3) (λ_ _=>False) s') /\
   (∀us H',us.length=vs.length->J us H'->∃ (z:Nat->Int) (κ:SortKind),(2<=vs.length->∀s',Inv X pins σ H' s'->(∀Q':SortKind->Shared->Prop,Q' κ s'->wpAny (model X.prog X.w) A.in1.in1 (keyKind' us.toArray) Q' (λ_ _=>False) s') /\
    ∀i j C,i < vs.length->j < vs.length->C (SP.eM z i j) s'->kas_ask X.prog X.w A.in1.in1 κ us i j C s') /\
   ∀s' D c,Inv X pins σ H' s'->cN X pins H' D->s'.heap.get? D=some (seqObj "list" (UO z vs).toArray c)->Q (.ref D) s')) :
  wpAny (model X.prog X.w) A (call (.builtin "sorted") [l] [(Str.ofString "key",.ref f)]) Q E s:=by
 refine call_function_entry_kw kind_sorted plain_sorted entry_sorted (ksk_s1 _ _) ?_;unfold Builtin.«sorted»;refine zV (m:=checkCount "sorted" 1 1 _) (zW (zV (aam λh1 tk vs hv kp=>?_)));let⟨Wl,J,j0,step,fin⟩:=rest vs hv;have WG:vs.length<=sizeLine:=by rw[qX];lia
 refine zV (vA ?_ (by simpa using WG));have I1:=I.kept (t':=tk) kp;have fD:cN X pins H h1.objs.size:=I1.Vt (yN _) (I1.UC.fresh (yN _));have Yo:(h1.push (seqObj "list" vs.toArray 0)).get? h1.objs.size=some (seqObj "list" vs.toArray 0):=zX _ rfl;have I2:=I1.kept (t':=tk) (h':=h1.push (seqObj "list" vs.toArray 0)) λb o e=>zU _ e;show wpAny _ _ _ _ _ { s with heap:=h1.push (seqObj "list" vs.toArray 0),toks:=tk };refine zV (xZ (wpAny_call_entry_kw slot_list_sort ⟨_,Yo,rfl⟩ entry_list_sort ?body (ksk_l1 _ _)))
 case body =>
  show wpAny (model X.prog X.w) A.in1.in1 (Builtin.«list.sort» ⟨[.ref h1.objs.size],[(Str.ofString "key",.ref f)]⟩) _ _ _;rw[ksk_t1];refine VM I2 Yo fD Wl J j0 step λus H' hu j'=>?_;let⟨z,κ,hz,hP⟩:=fin us H' hu j';exact⟨z,κ,hz,λs' c I' f' e=>⟨_,rfl,zW ⟨_,rfl,hP s' _ c I' f' e⟩⟩⟩
end WD
namespace Dl
open PySem L2 PySem.Spec PyProof.Rows
def sX(n:Nat):List D:=(List.range n).map λi=>PyData.int ((i:Nat):Int)
def tj(cs:List Nat)(fs:Env->Option (List D))(te:Env->Option D):Env->Option (List D):=λρ=>(fs ρ).bind λl=>match l with
 | [.int n]=>if 0<=n/\n < 64 then (ji te (eL 1 cs ρ) (sX n.toNat)).bind λks=>(rowsOf ks).map λUE=>rq (λi=>rk UE (UE.getD i [])) (sX n.toNat) .none else none
 | _=>none
def uX:∀ {vs:List Value}{k:Nat},(∀i v,vs[i]?=some v->∃t,v=Value.int ((k+i:Nat):Int) t)->aN ((List.range' k vs.length).map λi=>V.int ((i:Nat):Int)) vs
 | [],k,_=>.nil
 | v::vs,k,h=>by
  rw[zL,vQ,zI];let⟨t,e⟩:=h 0 v rfl;refine .cons ⟨t,by simpa using e⟩ (uX λi u hu=>?_);let⟨t',e'⟩:=h (i+1) u (by simpa using hu);exact⟨t',by rw[e'];congr 1;lia⟩
def u9{K:W.Frag}:∀ (l:List Nat),ax K HF (l.map λi=>PyData.int ((i:Nat):Int)) (l.map λi=>V.int ((i:Nat):Int))
 | []=>ax.nil
 | i::l=>ax.cons (by simp[Rep]) (u9 l)
section
variable {cs:List Nat}
def Bk.abJ(C:Bk X N sc (k+3))(B:p8 X "sorted" (.builtin "sorted"))(BR:p8 X "range" (.type "range"))(L:su X qual)(ok:iE sc scope N N' 1 cs=true)(hl:pK scope N' p=true)
  (hb:∀ (cl:List (Str×Addr)) (pm VR u:Value) (c:Addr),bindArgs (W.kla_fn "<lambda>" qual params body scope cl pm (.ref c) VR) ⟨[u],[]⟩=pure [(p,u)]) (XB:defaultsOf params X.env=([],[])) (h:DA X [e] fs)
  (hY:∀A f c s H,Bk (iu X A qual scope N' f c s H) N' scope k->DE (iu X A qual scope N' f c s H) body te)
  (hsR:starEach [e] X.env=[(false,eval e X.env)])
  (VZ:starEach [.Call (.Name "range" p1) [e] [] WN] X.env=(false,eval (.Call (.Name "range" p1) [e] [] WN) X.env)::starEach [] X.env) (he:backTo pos (starEach [.Call (.Name "range" p1) [e] [] WN] X.env)=(false,eval (.Call (.Name "range" p1) [e] [] WN) X.env)::backTo pos (starEach [] X.env)) (U7:(backTo pos (starEach [.Call (.Name "range" p1) [e] [] WN] X.env)).any (·.1)=false) :
  DF X (.Call (.Name "sorted" p0) [.Call (.Name "range" p1) [e] [] WN] [⟨some "key",.Lambda params body scope U9,Wa⟩] pos) (tj cs fs te):=by
 let⟨S,_⟩:=C.comp ok;have Vq:N'.Nodup:=by
  unfold iE at ok;simp?[zF,zJ] at ok;exact ok.2
 have YW:=hl;unfold pK at YW;simp?[zF,xI,yQ,xC,zJ] at YW;obtain⟨⟨⟨⟨X0,YK⟩,hp⟩,WW⟩,Xz⟩:=YW;let⟨cc,P,V2,XH,hhd,fA⟩:=L.ex;intro pins s σ H Q I ⟨HF,ρ,out,sm,eo,hf,q⟩;let⟨ld,hld,hf⟩:=bs hf;obtain⟨n,rfl⟩:∃n,ld=[.int n]:=by
  split at hf
  ·exact⟨_,rfl⟩
  ·cases hf
 simp only at hf;split at hf;rotate_left
 ·cases hf
 rename_i Wl;let⟨ks,hks,hf⟩:=bs hf;let⟨UE,V1,rfl⟩:=ah hf;let⟨hkr,UN⟩:=lP V1;refine jA (fZ I B.gl B.mg B.bt ?_ (by decide) (by decide));refine PyProof.Rows.callWith_kw (e:=.Call (.Name "range" p1) [e] [] WN) (rest:=[]) (kws:=[⟨some "key",.Lambda params body scope U9,Wa⟩]) ?_ he U7 rfl rfl;rw[he];refine jL ?_;refine Call_ (fZ I BR.gl BR.mg boot_range (qU (ck (h WN pins s σ H _ I ⟨HF,ρ,[.int n],sm,eo,hld,λvs H1 UB g1 r1=>(⟨UB,g1,r1⟩:∃UB,bG HF H UB H1/\ax X.K UB [.int n] vs)⟩) λus s1 ⟨vs,H1,I1,rv,UB,g1,r1⟩=>?_) hsR rfl));let⟨v,vr,rfl,a1,b1⟩:=r1.cons_inv;rw[b1.nil_inv] at rv;let⟨u,rfl,rx⟩:=vals1 rv;simp?[Rep] at a1;subst a1;let⟨t,rfl⟩:=rx;refine call_range_1 ?_;refine kN ?_;let⟨hn0,ahS⟩:=Wl;have I1':=I1.kept (t':=s1.toks+1+1) (h':=s1.heap.push { cls:=Value.type "range",data:=Data.fields #[Value.int 0 s1.toks,Value.int n t,Value.int 1 (s1.toks+1)] }) λb o e=>zU _ e;have hro:(s1.heap.push { cls:=Value.type "range",data:=Data.fields #[Value.int 0 s1.toks,Value.int n t,Value.int 1 (s1.toks+1)] }).get? s1.heap.objs.size=some { cls:=Value.type "range",data:=Data.fields #[Value.int 0 s1.toks,Value.int n t,Value.int 1 (s1.toks+1)] }:=zX _ rfl;have Ir:=I1'.pinned (fp:=[s1.heap.objs.size]) (λb hb=>by rw[List.mem_singleton.mp hb];exact I1.Vt (yN _) I1.fresh) (λb hb=>by rw[List.mem_singleton.mp hb];exact⟨_,hro,λv z=>by cases z⟩);have hT1:H1 P=some (.tab qual):=g1.fh _ _ (fA UB (eo.tb.mono g1.ff));show wpAny _ _ (evalAll ((do let v <- eval (.Lambda params body scope U9) X.env;standAt pos;pure v)::[])) _ _ _;refine wpAny_evalAll_cons (zV ?_);refine A5 (P:=P) Ir S XH V2 (W.codeHd_of_K Ir.ok.mod.XW hhd) hT1 Ir.ok.mod.bmd XB λf c' pm VR s2 H2 I2 hfo Xo XA s12 fp2 _=>?_;refine zV (vM (zW (wpAny_evalAll_nil ?_)));show wpAny _ _ (call (.builtin "sorted") [.ref s1.heap.objs.size] [(Str.ofString "key",.ref f)]) _ _ s2;have hr2:IsRange s2.heap s1.heap.objs.size 0 n 1 s1.toks t (s1.toks+1):=(WD.V9 I2 zE hro).1;have Ip:=I2.pinned (fp:=[f]) (λb hb=>by rw[List.mem_singleton.mp hb];exact fp2) (λb hb=>by rw[List.mem_singleton.mp hb];exact⟨_,hfo,λv z=>by cases z⟩);have g2:bG UB H1 UB H2:=⟨s12,.refl _,g1.fh.trans s12,λ_ _ e=>.inl e⟩
 have hkl:=o4 hks;have hnl:(sX n.toNat).length=n.toNat:=by simp[sX]
 have hR:ej (k+1) X.A.in1.in1:=C.room.in1.in1;refine WD.Yt (PV:=λvs=>vs.length=n.toNat/\∀i v,vs[i]?=some v->∃t,v=Value.int ((i:Nat):Int) t) Ip (λ{Q'} hQ=>?_) λits ⟨hil,hiv⟩=>⟨by lia,λus H'=>∃UA U1,bG UB H2 UA H'/\ax X.K UA (ks.take us.length) U1/\aN U1 us,⟨UB,[],.refl g2.fh,by simpa using ax.nil,.nil⟩,λus x hx pl' s3 H3 I3 ⟨U3,U1,g3,rk,YX⟩=>?_,λus H3 hu ⟨U3,U1,g3,rk,YX⟩=>?_⟩
 ·refine WD.Wo (n:=n.toNat) C.room.in1.hd hr2 (small_one (by lia) (by lia) (by lia) (by lia)) (by rw[rangeSize_one];split<;>lia) (by lia) λh' tk acc kp ha=>?_;refine hQ h' tk acc.toList ⟨by have:=ha.1;simpa using this,λi v hv=>?_⟩ kp;let⟨t',e'⟩:=ha.2 i v (by simpa using hv);exact⟨t',by rw[e'];congr 1;lia⟩
 ·have hi:us.length < n.toNat:=by rw[<- hil];exact (List.getElem?_eq_some_iff.mp hx).1
  let⟨tx,rfl⟩:=hiv _ _ hx;have hd:(sX n.toNat)[us.length]?=some (.int ((us.length:Nat):Int)):=by simp[sX,hi]
  let⟨kd,hkd,hki⟩:=sJ hks hd;have aan:s3.heap.get? f=some (W.kla_obj "<lambda>" qual params body scope (eR X.env scope.names []) pm c' VR) :=
   (I3.pin (f,_) (yE _ (qL _ (yE _ (dP zE hfo))))).1
  refine xB (Bb (v:=V.int ((us.length:Nat):Int)) (Q:=λv H4=>∃Vy,bG U3 H3 Vy H4/\Rep X.K Vy kd v) (te:=tD X.K te) I3 hR I3.ok.frames S X0 YK hp Vq WW Xz aan (g3.hh _ _ XA) (hb _ _ _ _ _) ⟨tx,rfl⟩ (hY _ _ _ _ _ (Jl C hR S.kind Vq hl))
   ⟨U3,_,kd,g3.fh,A3 (eo.mono (g1.ff.trans g3.ff)) (by simp[Rep]),hkd,λv H4 Vy g4 r4=>⟨Vy,g4,r4⟩⟩) (λu s4 ⟨v4,H4,I4,r4,Vy,g4,rp⟩=>⟨H4,I4,Vy,U1++[v4],g3.trans g4,?_,YX.append (.cons r4 .nil)⟩) λ_ _ e=>e
  rw[zN,xD,Zq,hki];exact (rk.mono g4.ff).append (ax.cons rp ax.nil)
 ·have U0:ks.take us.length=ks:=kP (by lia);rw[U0,hkr] at rk;have hnn:UE.length=n.toNat:=by
   have:=jE List.length hkr;rw[zD] at this;lia
  refine⟨λi=>Dl.rk UE (UE.getD i []),tuples' true,λh2 s3 I3=>⟨λQ' q'=>?_,λi j Cc hi hj q'=>?_⟩,λs3 Dn c I3 fD e=>?_⟩
  ·let⟨fs',tt,hlen,hff⟩:=tH (rh I3 g3.fh rk YX) UN;refine W.kat_kind (T:=.type "int") tt (by lia) (λv hv=>?_) (by decide) q';let⟨n',t',rfl⟩:=hff v hv;exact W.Looks.of_pure rfl
  ·have hp3:=rh I3 g3.fh rk YX;have ri:=gR (d:=Value.none) (d':=[]) hp3 (show i < us.length by lia);have rj:=gR (d:=Value.none) (d':=[]) hp3 (show j < us.length by lia);let⟨a,o,aaj,n1,ea,e1,e2,e3,e4⟩:=ri.ex;let⟨b,o',its',n',eb,f1,f2,f3,f4⟩:=rj.ex;unfold W.kas_ask;rw[ea,eb];have WH:UE.getD i []∈UE:=by
    rw[zG,zK (by lia)];exact qC _
   have q2:Cc (lexLt (UE.getD i []) (UE.getD j [])) s3:=by
    rw[D3 WH];exact q'
   refine W.kat_lt e1 e3 f1 f3 ?_;have:=sH (prog:=X.prog) (w:=X.w) (A:=X.A.in1.in1) (s:=s3) 0 e4 f4 q2;have l1:aaj.size=(UE.getD i []).length:=by have:=wN e4;simpa using this
   have l2:its'.size=(UE.getD j []).length:=by have:=wN f4;simpa using this
   rw[l1,l2];exact this
  ·have rvi:aN ((List.range n.toNat).map λi=>V.int ((i:Nat):Int)) its:=by
    have:=uX (vs:=its) (k:=0) λi v hv=>by
     let⟨t',e'⟩:=hiv i v hv;exact⟨t',by rw[e'];congr 1;lia⟩
    rw[hil,<- yH] at this;exact this
   have rr:ax X.K UB (sX n.toNat) ((List.range n.toNat).map λi=>V.int ((i:Nat):Int)):=u9 _;have hv:=rJ (λi=>Dl.rk UE (UE.getD i [])) rvi;have hr:=sR (λi=>Dl.rk UE (UE.getD i [])) rr;have hnD:H3 Dn=none:=fD.1;have I4:=Inv.YV (o:=.lst (rq (λi=>Dl.rk UE (UE.getD i [])) ((List.range n.toNat).map λi=>V.int ((i:Nat):Int)) .Ux)) I3 fD ⟨by rw[(gJ _ _ _).length_eq,zD,zR,PySem.sizeLine_eq];lia,_,c,hv,e⟩;have G:=(g1.trans g2).trans g3;refine⟨.ref Dn,_,I4.UP.UP,rfl,q Dn _ _ U3 (G.trans (.own G.fh hnD)) (G.hh.free hnD) (G.fh.free hnD) aH (hr.mono g3.ff)⟩
end
def J7(i j l:Nat):Env->D->Option Env:=λρ d=>match d with
 | .tuple [x,y,z]=>if isFree ρ i=true/\isFree ρ j=true/\isFree ρ l=true then some (((ρ.set i (some x)).set j (some y)).set l (some z)) else none
 | _=>none
def Jg(i j l:Nat)(hc:X.calm=true)(hN:X.N.Nodup)(hi:X.N[i]?=some x)(hx:Loc X.env.scope x)(hj:X.N[j]?=some y)(hy:Loc X.env.scope y)(hl:X.N[l]?=some z)(hz:Loc X.env.scope z)
  (hf:X.fn x=true\/X.env.scope.names.lookup x=some .local) (X1:X.fn y=true\/X.env.scope.names.lookup y=some .local) (aeF:X.fn z=true\/X.env.scope.names.lookup z=some .local) :
  DG X (.Tuple [.Name x px,.Name y py,.Name z pz] k pos) (J7 i j l) :=
 r8 (yp hc (dH (dN hN hi hx hf) (dH (dN hN hj hy X1) (dH (dN hN hl hz aeF) qx)))) λv σ H Q ⟨HF,ρ,d,ρ',sm,eo,r,hf,q⟩=>by
  unfold J7 at hf;split at hf
  ·rename_i x' y' z';split at hf
   ·rename_i hh;cases hf;simp?[Rep] at r;let⟨a,vs,rfl,hs,rr⟩:=r;let⟨v1,r1,rfl,a1,b1⟩:=rr.cons_inv;let⟨v2,r2,rfl,a2,b2⟩:=b1.cons_inv;let⟨v3,r3,rfl,a3,b3⟩:=b2.cons_inv;rw[b3.nil_inv] at hs;exact⟨a,_,rfl,aK sm hs,rfl,v1,_,rfl,v2,_,rfl,v3,_,rfl,rfl,q _ (jw (jw (jw eo a1) a2) a3) (ma (ma (ma eo hh.1) hh.2.1) hh.2.2)⟩
   ·cases hf
  ·cases hf
def ug(d:D):List D->Option Nat
 | []=>none
 | x::xs=>if PyData.eqv x d=true then some 0 else (ug d xs).map (·+1)
def uJ:∀ {xs:List D}{j:Nat},ug d xs=some j->j < xs.length/\(∀x,xs[j]?=some x->PyData.eqv x d=true)/\∀m,m < j->∀x,xs[m]?=some x->PyData.eqv x d=false
 | [],j,h=>by cases h
 | x::xs,j,h=>by
  unfold ug at h;split at h
  ·cases h;rename_i e;exact⟨Nat.succ_pos _,λy hy=>by cases hy;exact e,λm hm=>absurd hm (wD _)⟩
  ·rename_i e;let⟨k,hk,rfl⟩:=ah h;let⟨a,b,c⟩:=uJ hk;refine⟨by simpa using a,λy hy=>b y (by simpa using hy),λm hm y hy=>?_⟩;cases m with
   | zero=>cases hy;simpa using e
   | succ m=>exact c m (by lia) y (by simpa using hy)
def FJ(hu:X.A.units+66 < cLine):Pu X "list.index" (λx vs H Q=>∃ (HF:Hp) (ds:List D) (d:D) (y:V) (j:Nat),aS HF H/\Rep X.K HF (.list ds) x/\vs=[y]/\Rep X.K HF d y/\SeqAt.shaped d=true/\SeqAt.shaped (.list ds)=true/\ds.length<=sizeLine/\ug d ds=some j/\Q (.int j) H):=by
 intro pins s σ H x vs v us Q I rx rv h;let⟨HF,ds,d,y,j,sm,r1,rfl,r2,hd,hl,hz,hj,q⟩:=h;let⟨u,rfl,ru⟩:=rv.one;let⟨as,ra⟩:=eh I sm r1 rx;let⟨bs,rb⟩:=eh I sm r2 ru;have c1:=kO hd;have c2:=kO hl;have d1:=SeqAt.depth_of_shaped hd;simp?[PyData.canLay0] at c2;have m:=Nat.min_le_right (PyData.depthAll ds) d.depth;let⟨YT,hj2,hj3⟩:=uJ hj;cases ra with
 | list h1 h2 h3 h4 =>
  rename_i l o its n as;let⟨cls,dd,data,sl⟩:=o;simp only at h2 h3;subst h2 h3;have hm:=SeqAt.readsAll_map _ _ _ c2 h4;have hlen:its.size=ds.length:=by rw[<- hm];simp
  have aes:(sizeLine:Nat) < 2 ^ 62:=by decide
  have at_:∀m (hm:m < its.size),ds[m]?=some (SeqAt.readOf s.heap its[m]):=λm VP=>by
   rw[<- hm,zO,Array.getElem?_toList,kC VP];rfl
  refine qZ F.slot_list_index ⟨_,h1,rfl⟩ F.entry_list_index (F.args_list_index_2 _ _) (PySem.SeqAt.list_indexAt l its n dd sl u (λy=>PyData.eqv (SeqAt.readOf s.heap y) d) j (by rw[hlen];exact YT) (by lia) ?_ ?_) ⟨h1,?_,?_⟩
  ·exact hj2 _ (at_ j (by rw[hlen];exact YT))
  ·intro m VP hmj;exact hj3 m hmj _ (at_ m VP)
  ·exact SeqAt.items_eqAt h4 rb c2 c1 (by lia)
  ·exact⟨.int j,H,I.tok _,⟨_,rfl⟩,q⟩
def BC(hc:X.calm=true):f9 X (.type "set") (λxs H Q=>∃ (a:Addr) (ns:List Int),xs=[.ref a]/\iM X.K H a (ns.map V.int)/\ns.length+1 < scanBound/\∀q S,H q=none->Q (.ref q) (upd H q (.set S (many ns)))):=by
 intro pins s σ H xs us Q I r h;let⟨a,ns,rfl,hq,hb,q⟩:=h;let⟨u,rfl,rx⟩:=vals1 r;cases rx;let⟨its,rv,pl,hz⟩:=I.list hq;have hi:IntsAre its.toArray.toList ns:=intsAre_of rv;have hlen:its.toArray.size=ns.length:=by have:=rv.length;simpa using this.symm
 refine call_set_list (I.ok.hd hc) pl.isList hi (by rw[hlen];exact hb) λh' tk hS hk=>?_;rw[hlen] at hS;exact⟨.ref s.heap.objs.size,_,I.laid (t':=tk) (λb o e=>hk b o (zY e) e) (yN _) (show eH X.prog X.w _ h' _ (.set _ (many ns)) from hS),rfl,q _ _ I.fresh⟩
def fF:D->Option D
 | .list es=>(intsOf es).bind λns=>if ns.length+1 < scanBound then some (.int (many ns)) else none
 | _=>none
def B3(hc:X.calm=true)(B:p8 X "len" (.builtin "len"))(C:p8 X "set" (.type "set"))(h:DE X e f)(he:starEach [e] X.env=(false,eval e X.env)::starEach [] X.env:=by rfl) :
  DE X (.Call (.Name "len" p) [.Call (.Name "set" p') [e] [] pos'] [] pos) (f1 fF f) :=
 bb (lL vb B.gl B.mg B.bt (bO (o9 (BC hc) C.gl C.mg C.bt (bO h dB he) (by decide) (by decide) he rfl) dB) (by decide) (by decide) rfl rfl) λσ H Q ⟨HF,ρ,d,sm,eo,hf,q⟩=>by
  let⟨x,hx,hf⟩:=bs hf;unfold fF at hf;split at hf
  ·rename_i es;let⟨ns,h1,hf⟩:=bs hf;split at hf
   ·rename_i hb;cases hf;refine⟨HF,ρ,.list es,sm,eo,hx,λv1 H1 UB g1 r1=>?_⟩;have e1:=dm h1;subst e1;simp?[Rep] at r1;let⟨a,vs,rfl,hs,rr⟩:=r1;have:=jg rr;subst this;exact⟨a,ns,rfl,g1.fh.seq hs,hb,λb S V8=>⟨b,S,_,rfl,aH,q _ _ UB (g1.trans (.own g1.fh V8)) (by simp[Rep])⟩⟩
   ·cases hf
  ·cases hf
structure Tj(h:Heap)(v:Value)(r:List Int):Prop where
 ex:∃ (a:Addr) (o:Obj) (n:Nat) (p:Value) (x y m:Int) (t:Tok),v=.ref a/\r=[x,y,m]/\h.get? a=some o/\o.cls=.type "tuple"/\o.data=.seq #[p,.int m t] n/\Ae h p [x,y]
end Dl
namespace HT
open PySem PyProof.Rows
section
open PySem.SeqAt
open PySem.AutoSeq1 (wpAny_loadPart')
open PySem.MeetsSeq PySem.MeetsSeq2 PySem.MeetsSeq3
end
end HT
namespace Dl
open PySem L2 PySem.Spec PyProof.Rows
def kg:List D->Option (List (List Int))
 | []=>some []
 | d::r=>(rg d).bind λns=>(kg r).map (ns::·)
section
variable {fl te:Env->Option D}{cs:List Nat}
end
def EF:Expr->Bool
 | .Call ..=>true
 | .Subscript ..=>true
 | .Name ..=>true
 | _=>false
def pd(i j l:Nat)(fz:List Nat)(f:Env->Option D):au->Option Out:=λρ=>(f (bJ (hand fz 0 ρ))).bind λd=>match d with
 | .tuple [x,y,z]=>some (.nx ((((if hJ (.tuple [x,y,z])=true then ρ else hand fz 0 ρ).set i (.val x)).set j (.val y)).set l (.val z)))
 | _=>none
def He(i j l:Nat)(fz:List Nat)(hc:X.calm=true)(hN:X.N.Nodup)(hi:X.N[i]?=some x)(hx:Loc X.env.scope x)(hj:X.N[j]?=some y)(hy:Loc X.env.scope y)(hl:X.N[l]?=some z)(hz:Loc X.env.scope z)(hp:EF e=true)(he:DE X e f)
  (h1:X.fn x=true\/X.env.scope.names.lookup x=some .local) (h2:X.fn y=true\/X.env.scope.names.lookup y=some .local) (h3:X.fn z=true\/X.env.scope.names.lookup z=some .local):DS X Uy Uz (.Assign [.Tuple [.Name x px,.Name y py,.Name z pz] m pt] e pos) (pd i j l fz f) :=
 cq (HR he (yp hc (dH (dN hN hi hx h1) (dH (dN hN hj hy h2) (dH (dN hN hl hz h3) qx)))) (by cases e<;>first|rfl|cases hp) (by cases e<;>first|rfl|cases hp)) λE σ H ⟨HF,ρ,o,S,hg,q⟩=>by
  unfold pd at hg;let⟨d,h,hg⟩:=bs hg;split at hg
  ·rename_i u v t;cases hg;let⟨UB,s1,S1⟩:=S.hand fz;refine⟨UB,_,.tuple [u,v,t],S1.gr.fh,S1.Vh,h,λw H' UA G r=>?_⟩;simp?[Rep] at r;let⟨a,vs,rfl,hs,rr⟩:=r;let⟨v1,r1,rfl,a1,b1⟩:=rr.cons_inv;let⟨v2,r2,rfl,a2,b2⟩:=b1.cons_inv;let⟨v3,r3,rfl,a3,b3⟩:=b2.cons_inv;rw[b3.nil_inv] at hs;refine⟨a,_,rfl,aK G.fh hs,rfl,v1,_,rfl,v2,_,rfl,v3,_,rfl,rfl,?_⟩;by_cases hn:hJ (.tuple [u,v,t])=true
   ·rw[yM hn] at q;let⟨UL,s2,S2,hb,_⟩:=S.back S1 s1 G;simp?[hJ,gM,zF,Bool.and_true] at hn;exact q _ H' UL (((S2.VE (hb u v1 hn.1 a1)).VE (hb v v2 hn.2.1 a2)).VE (hb t v3 hn.2.2 a3)) s2
   ·rw[yO hn] at q;exact q _ H' UA ((((S1.grow G).VE a1).VE a2).VE a3) (s1.trans G.ff)
  ·cases hg
def tP(n:Nat)(ms:List (List D->Option D))(fk:Env->Option D)(fs:Env->Option (List D)):Env->Option D:=λρ=>(fk ρ).bind λkd=>(fs ρ).bind λds=>if ds.length=n then (match kd with
 | .int k=>if 0<=k then (ms[k.toNat]?).bind λm=>m ds else none
 | _=>none) else none
inductive FG{α:Type}(X:Cx)(R:Addr->α->Prop):List Expr->List α->List V->Prop
 | nil:FG X R [] [] []
 | cons {x:Str}{p:Pos}{m:α}{f:Addr}{es:List Expr}{ms:List α}{vs:List V}(hg:Gl X x) (hm:X.mg x=some (.ref f)) (hd:(x == ("__debug__":Str))=false) (r:R f m) (t:FG X R es ms vs):FG X R (.Name x p::es) (m::ms) (.ref f::vs)
def FG.pa{α:Type}{R:Addr->α->Prop}{es:List Expr}{ms:List α}{vs:List V}(h:FG X R es ms vs):PA X es (λ_ H Q=>Q vs H):=by
 induction h with
 | nil=>exact dB
 | cons hg hm hd r t ih=>exact xc (bO (Er (v:=.ref _) hg hm rfl hd) ih rfl) λσ H Q q=>q
def FG.at{α:Type}{R:Addr->α->Prop}{es:List Expr}{ms:List α}{vs:List V}(h:FG X R es ms vs):∀ {i:Nat}{m:α},ms[i]?=some m->∃f,vs[i]?=some (.ref f)/\R f m:=by
 induction h with
 | nil=>intro i m e;simp at e
 | cons hg hm hd r t ih =>
  intro i m e;cases i with
  | zero=>simp at e;subst e;exact⟨_,rfl,r⟩
  | succ i=>exact ih (by simpa using e)
def FG.len{α:Type}{R:Addr->α->Prop}{es:List Expr}{ms:List α}{vs:List V}(h:FG X R es ms vs):vs.length=es.length:=by
 induction h with
 | nil=>rfl
 | cons hg hm hd r t ih=>simp[ih]
def Nv{vs:List V}{v:V}{k:Int}(h0:0<=k)(h:vs[k.toNat]?=some v):qa vs k=some v:=by
 have hl:k.toNat < vs.length:=(List.getElem?_eq_some_iff.mp h).1;unfold qa DZ;rw[yM h0,yM (by lia),zA,h]
def EO{α:Type}{R:Addr->α->Prop}{ns:List Expr}{ms:List α}{vs:List V}{m:α}{kk:Int}{HF:Hp}{ρ:Env}(hN:FG X R ns ms vs)(hk:DE X b fk)(hs:l5 b)(hz:ns.length<=1000)(I:Inv X pins σ H s)(sm:aS HF H)(eo:cM X.K HF ρ σ)(h1:fk ρ=some (.int kk))(h0:0<=kk)(hm:ms[kk.toNat]?=some m)
  {Q:Value->Shared->Prop}(q:∀ (f:Addr) (s1:Shared) (H1 UB:Hp),R f m->Inv X pins σ H1 s1->bG HF H UB H1->Q (.ref f) s1):wpAny (model X.prog X.w) X.A (eval (.Subscript (.List ns p2) b p3) X.env) Q X.xe s:=by
 have hc:PE X (.Subscript (.List ns p2) b p3) _:=MG D0 (zd hN.pa) hk hs;let⟨f,hf,hR⟩:=hN.at hm;refine ck (hc pins s σ H (λv H1=>∃UB,bG HF H UB H1/\v=V.ref f) I ⟨by rw[hN.len];exact yD hz (by rw[qX];decide),λz hz=>?_⟩) λu s1 ⟨v,H1,I1,rv,UB,G1,ev⟩=>?_
 ·have G0:bG HF H HF (upd H z (.lst vs)):=.own sm hz;refine⟨HF,ρ,.int kk,G0.fh,eo,h1,λv1 H1 UB g1 r1=>?_⟩;simp?[Rep] at r1;exact⟨z,vs,kk,.ref f,rfl,r1,.of (g1.hh z _ aH),Nv h0 hf,UB,G0.trans g1,rfl⟩
 ·subst ev;cases rv;exact q f s1 H1 UB hR I1 G1
def Tv(X:Cx)(k n:Nat)(f:Addr)(m:List D->Option D):Prop:=∃ (fd:FuncData) (ps:List Str),nK X.prog X.w X.K X.mg X.base HC k f fd ps (Pq X.K n m)/\W.keepIn X.K (.ref f)=true/\Binds X.K fd ps []
def JU{ns:List Expr}{ms:List (List D->Option D)}{vs:List V}(hN:FG X (Tv X k n) ns ms vs)(hz:ns.length<=1000)(hr:ej k X.A)(hk:DE X b fk)(ha:DA X (e::es) fs)(hs:l5 b)
  (he:starEach (e::es) X.env=(false,eval e X.env)::starEach es X.env) (U7:(backTo pos (starEach es X.env)).any (·.1)=false)
  (ht:eval (.Call (.Subscript (.List ns p2) b p3) (e::es) [] pos) X.env=(do callWith pos (<- eval (.Subscript (.List ns p2) b p3) X.env) [] (backTo pos (starEach (e::es) X.env)) (backToKw pos (keywordEach [] X.env))):=by rfl) :
  DE X (.Call (.Subscript (.List ns p2) b p3) (e::es) [] pos) (tP n ms fk fs):=by
 intro pins s σ H Q I ⟨HF,ρ,d,sm,eo,hf,q⟩;let⟨kd,h1,hf⟩:=bs hf;let⟨ds,h2,hf⟩:=bs hf;split at hf
 ·rename_i hl;obtain⟨kk,rfl⟩:∃kk,kd=.int kk:=by cases kd<;>first|exact⟨_,rfl⟩|cases hf
  dsimp only at hf;split at hf
  ·rename_i h0;let⟨m,hm,hM⟩:=bs hf;rw[ht];refine zV (EO hN hk hs hz I sm eo h1 h0 hm λg s1 H1 UB ⟨gd,gs,QI,kpg,bg⟩ I1 G1=>?_);refine W.callWith_K (h₀:=X.base) I.ok.mod.XW kpg (ck (ha pos pins s1 σ H1 (λvs H2=>Pq X.K n m (vs++[]) H2 Q E0) I1 ⟨UB,ρ,ds,G1.fh,eo.mono G1.ff,h2,λvs H2 UL G2 r2=>⟨UL,ds,d,G2.fh,(eo.mono G1.ff).tb.mono G2.ff,by rw[qH];exact r2,hl,hM,λv H' UA g' r=>q v H' UA (G1.trans (G2.trans g')) r⟩⟩) λus s2 ⟨vs,H2,I2,r,q2⟩=>⟨I2.V6,?_⟩) he U7;exact CW QI hr bg .nil MO I2 r q2
  ·cases hf
 ·cases hf
end Dl
namespace Rf
open PySem L2 Dl PySem.Spec PyProof.Rows
structure Tr where
 e:Expr->Option (Dl.Env->Option D)
 f:Expr->Option (Dl.Env->Option (List D))
 t:Expr->Option (Dl.Env->Option Bool)
structure Sg where
 fn:List (Str×Nat×(List D->Option D))
 int:List (Str×Int)
abbrev FE:=Dl.Env->Option D
def Cq(G:Sg)(sc:Scope)(N:List Str)(x:Str):Option FE:=match N.idxOf? x with
 | some i=>if ER N sc i x=true then some (ae i) else none
 | none=>if (tI sc x&&!(x == ("__debug__":Str)))=true then (G.int.lookup x).map λn=>fC (.int n) else none
def Ec:Const->Option FE
 | .int i=>some (fC (.int i))
 | .bool b=>some (fC (.bool b))
 | .none=>some (fC .none)
 | .str x=>some (fC (.str x))
 | _=>none
def QM(T:Tr)(op:UnaryOp)(a:Expr):Option FE:=match op with
 | .USub=>(T.e a).map (f1 Kb)
 | _=>none
def SS:Operator->Option (D->D->Option D)
 | .Add=>some aL
 | .Sub=>some Dl.jd
 | .Mult=>some eQ
 | .FloorDiv=>some nz
 | .Mod=>some mh
 | _=>none
def M6:Expr->Bool
 | .List ..=>true
 | .ListComp ..=>true
 | _=>false
def DM:Expr->Bool
 | .List ..=>true
 | .ListComp ..=>true
 | .BinOp a .Mult _ _=>M6 a
 | .BinOp a .Add b _=>DM a||DM b
 | .Call (.Name x _) _ _ _=>x == ("sorted":Str)||x == ("list":Str)
 | _=>false
def GI(T:Tr)(whole a:Expr)(op:Operator)(b:Expr):Option FE :=
 if DM whole=true then (T.f whole).map bS else (SS op).bind λg=>(T.e a).bind λx=>(T.e b).map λy=>f2 g x y
def yb(T:Tr)(op:BoolOp):List Expr->Option FE
 | []=>none
 | [a]=>T.e a
 | a::b::r=>(T.e a).bind λx=>(yb T op (b::r)).map λy=>match op with|.And=>mf x y|.Or=>SL x y
def QD:CmpOp->Option (D->D->Option D)
 | .Lt=>some Bq
 | .LtE=>some EK
 | .Gt=>some Bu
 | .GtE=>none
 | .Eq=>some bC
 | .NotEq=>some gN
 | .In=>none
 | .NotIn=>none
 | .Is=>some yg
 | .IsNot=>some rF
def RS:CmpOp->Option (D->D->Option D)
 | .Lt=>some Bq
 | .LtE=>some EK
 | _=>none
def Eo(T:Tr)(a:Expr)(ops:List CmpOp)(cs:List Expr):Option FE:=match ops,cs with
 | [op],[b]=>if behindInMarks op b=false then (QD op).bind λg=>(T.e a).bind λx=>(T.e b).map λy=>f2 g x y else none
 | [op,WT],[b,c]=>if lastMarks [op,WT] [b,c]=false then (RS op).bind λg=>(RS WT).bind λg'=>(T.e a).bind λx=>(T.e b).bind λy=>(T.e c).map λz=>lG g g' x y z else none
 | _,_=>none
def uR(T:Tr):List Expr->Option (Dl.Env->Option (List D))
 | []=>some ag
 | e::es=>if isStar e=false then (T.e e).bind λx=>(uR T es).map λr=>aa x r else none
def Ta(T:Tr):Option Expr->Option (Dl.Env->Option (Option Int))
 | none=>some gX
 | some e=>(T.e e).map ui
def Bg:Expr->Bool
 | .Slice ..=>true
 | .Tuple ..=>true
 | .Starred ..=>true
 | _=>false
def Ji(T:Tr)(a b:Expr):Option FE:=match b with
 | .Slice lo hi none _=>(T.e a).bind λx=>(Ta T lo).bind λl=>(Ta T hi).map λh=>gE cU x l h
 | _=>if Bg b=false then (T.e a).bind λx=>(T.e b).map λy=>f2 ay x y else none
def JS:List D->Option D:=λds=>(oneOf ds).bind λd=>match d with
 | .list es=>(boolsOf es).map λbs=>.bool (bs.any id)
 | _=>none
def oZ:Expr->Option Expr
 | .Call (.Name x _) [e] [] _=>if x="set" then some e else none
 | _=>none
def Nt(x:Str):Option String:=if x="int" then some "int" else if x="bool" then some "bool" else if x="tuple" then some "tuple" else if x="list" then some "list" else none
def S7:Expr->Bool
 | .ListComp ..=>true
 | _=>false
def B7(G:Sg)(sc:Scope)(T:Tr)(whole:Expr)(x:Str)(args:List Expr):Option FE :=
 if (tI sc x&&args.all λe=>!isStar e)=true then
  match G.fn.lookup x with
  | some (n,m)=>if (args.isEmpty||x == ("__debug__":Str))=true then none else (uR T args).map λfs=>aj n m fs
  | none =>
   if x="len" then (match args with
    | [e]=>(match oZ e with
     | some e'=>if (tI sc "set"&&!isStar e')=true then (T.e e').map λy=>if S7 e'=true then f1 fF y else f1 l6 y else none
     | none=>(uR T args).map λfs=>bD bZ fs)
    | _=>none)
   else if x="isinstance" then (match args with
    | [e,.Name y _]=>if tI sc y=true then (Nt y).bind λty=>(T.e e).map λz=>MQ ty z else none
    | _=>none)
   else if x="tuple" then (if args.length=1 then (uR T args).map λfs=>bD bp fs else none)
   else if x="all" then (if args.length=1 then (uR T args).map λfs=>bD lu fs else none)
   else if x="any" then (if args.length=1 then (uR T args).map λfs=>bD JS fs else none)
   else if x="sum" then (if args.length=1 then (uR T args).map λfs=>bD uf fs else none)
   else if x="min" then (if args.isEmpty=true then none else (uR T args).map λfs=>bD AU fs)
   else if (x == ("list":Str)||x == ("sorted":Str))=true then (T.f whole).map bS
   else none
 else none
def yy:Expr->Bool
 | .Call ..=>true
 | _=>false
def Ck(T:Tr)(o:Expr)(m:Str)(apos:Pos)(args:List Expr)(cpos:Pos):Option FE :=
 if (m == ("index":Str)&&apos.endLine == cpos.line&&!yy o)=true then (match args with
  | [e]=>if isStar e=false then (T.e o).bind λx=>(T.e e).map λy=>f2 mW x y else none
  | _=>none)
 else none
def Qd{α:Type}(sc:Scope)(ls:List (Str×Nat×α))(n:Nat):List Expr->Option (List α)
 | []=>some []
 | .Name x _::r=>if (tI sc x&&!(x == ("__debug__":Str)))=true then (ls.lookup x).bind λp=>if p.1=n then (Qd sc ls n r).map (p.2::·) else none else none
 | _=>none
def xq(G:Sg)(sc:Scope)(T:Tr)(ns:List Expr)(b:Expr)(args:List Expr):Option FE :=
 if ((args.all λe=>!isStar e)&&(!args.isEmpty&&(!Bg b&&decide (ns.length<=1000))))=true then
  (Qd sc G.fn args.length ns).bind λms=>(T.e b).bind λfk=>(uR T args).map λfs=>tP args.length ms fk fs
 else none
def HP(G:Sg)(sc:Scope)(N:List Str)(T:Tr)(whole:Expr):Option FE:=match whole with
 | .Name x _=>Cq G sc N x
 | .Constant c _ _=>Ec c
 | .UnaryOp op a _=>QM T op a
 | .BinOp a op b _=>GI T whole a op b
 | .BoolOp op es _=>yb T op es
 | .Compare a ops cs _=>Eo T a ops cs
 | .IfExp c a b _=>(T.t c).bind λz=>(T.e a).bind λx=>(T.e b).map λy=>My z x y
 | .Tuple es _ _=>(uR T es).map aJ
 | .Subscript a b _=>Ji T a b
 | .List ..=>(T.f whole).map bS
 | .ListComp ..=>(T.f whole).map bS
 | .Call (.Name x _) args [] _=>B7 G sc T whole x args
 | .Call (.Name _ _) _ (_::_) _=>(T.f whole).map bS
 | .Call (.Attribute o m apos) args [] cpos=>Ck T o m apos args cpos
 | .Call (.Subscript (.List ns _) b _) args [] _=>xq G sc T ns b args
 | _=>none
def Rw(T:Tr)(op:BoolOp):List Expr->Option (Dl.Env->Option Bool)
 | []=>none
 | [a]=>T.t a
 | a::b::r=>(T.t a).bind λx=>(Rw T op (b::r)).map λy=>match op with|.And=>eE x y|.Or=>ua x y
def Jo:Expr->Bool
 | .Name ..=>true
 | .Call ..=>true
 | .Subscript ..=>true
 | _=>false
def stepT(T:Tr)(whole:Expr):Option (Dl.Env->Option Bool):=match whole with
 | .Compare a ops cs _=>(Eo T a ops cs).map fB
 | .UnaryOp .Not a _=>(T.t a).map cC
 | .BoolOp op es _=>Rw T op es
 | _=>if Jo whole=true then (T.e whole).map fB else none
def ym:Expr->Bool
 | .Tuple ..=>true
 | _=>false
def Rz(sc:Scope)(T:Tr)(tg iter:Expr):Option (Dl.Env->Option (List D)):=match iter with
 | .Call (.Name x _) args [] _ =>
  if x="range" then (match args with|[e]=>if (tI sc "range"&&!isStar e)=true then (uR T args).map bh else none|_=>none)
  else if x="enumerate" then (match args with|[e]=>if (tI sc "enumerate"&&!isStar e&&ym tg)=true then (uR T args).map bf else none|_=>none)
  else if x="zip" then (match args with|[e,e']=>if (tI sc "zip"&&!isStar e&&!isStar e'&&ym tg)=true then (uR T args).map eK else none|_=>none)
  else (T.e iter).map aO
 | .Set ..=>none
 | _=>(T.e iter).map aO
def Sz:Expr->Option (List Str)
 | .Name x _=>some [x]
 | .Tuple [.Name x _,.Name y _] _ _=>some [x,y]
 | _=>none
def Ry:Expr->Option (List Str)
 | .Tuple [.Name x _,.Name y _,.Name z _] _ _=>some [x,y,z]
 | tg=>Sz tg
def eJ(N:List Str)(scope:Scope):List Nat:=(List.range N.length).filter λj=>match N[j]? with|some x=>decide (scope.names.lookup x=some .free)|none=>false
def Hx:Expr->Bool
 | .Set ..=>false
 | _=>true
def Mv(B:Tr)(ifs:List Expr):Option (Dl.Env->Option Bool):=match ifs with
 | []=>some λ_=>some true
 | [c]=>B.t c
 | _=>none
def ze(sc:Scope)(N:List Str)(T:Tr)(XJ:Scope->List Str->Tr)(elt:Expr)(gens:List Comprehension)(scope:Scope):Option (Dl.Env->Option (List D)):=match gens with
 | [⟨tg,iter,ifs,as⟩] =>
  if as=0 then (Ry tg).bind λxs =>
   if (iE sc scope N (xs++(eJ N scope).filterMap λj=>N[j]?) xs.length (eJ N scope)&&(List.range xs.length).all λi=>rG (xs++(eJ N scope).filterMap λj=>N[j]?) scope i (xs.getD i ""))=true then
    (Rz sc T tg iter).bind λfi=>(Mv (XJ scope (xs++(eJ N scope).filterMap λj=>N[j]?)) ifs).bind λtt =>
     ((XJ scope (xs++(eJ N scope).filterMap λj=>N[j]?)).e elt).map λte=>aq xs.length (eJ N scope) fi (match xs with|[_]=>fG 0|[_,_]=>gh 0 1|_=>J7 0 1 2) tt te
   else none
  else none
 | _=>none
def Ei:Arguments->Option Str
 | ⟨[],[⟨x,none,_⟩],none,[],[],none,[]⟩=>if x="number" then some x else if x="plan" then some x else none
 | _=>none
def vy(lam:Option Str)(sc:Scope)(N:List Str)(T:Tr)(lmb:Scope->List Str->Tr)(l:Expr)(params:Arguments)(body:Expr)(scope:Scope):Option (Dl.Env->Option (List D)) :=
 if (lam.isSome&&tI sc "sorted"&&!isStar l)=true then
  (Ei params).bind λp =>
   if (iE sc scope N (p::(eJ N scope).filterMap λj=>N[j]?) 1 (eJ N scope)&&pK scope (p::(eJ N scope).filterMap λj=>N[j]?) p)=true then
    (T.e l).bind λfl=>((lmb scope (p::(eJ N scope).filterMap λj=>N[j]?)).e body).map λte=>o7 (eJ N scope) fl te
   else none
 else none
def yi(lam:Option Str)(sc:Scope)(N:List Str)(T:Tr)(lmb:Scope->List Str->Tr)(l:Expr)(params:Arguments)(body:Expr)(scope:Scope):Option (Dl.Env->Option (List D)):=match l with
 | .Call (.Name r _) [e] [] _ =>
  if (lam.isSome&&tI sc "sorted"&&r == ("range":Str)&&tI sc "range"&&!isStar e)=true then
   (Ei params).bind λp =>
    if (iE sc scope N (p::(eJ N scope).filterMap λj=>N[j]?) 1 (eJ N scope)&&pK scope (p::(eJ N scope).filterMap λj=>N[j]?) p)=true then
     (uR T [e]).bind λfs=>((lmb scope (p::(eJ N scope).filterMap λj=>N[j]?)).e body).map λte=>tj (eJ N scope) fs te
    else none
  else none
 | _=>none
def Ee(lam:Option Str)(sc:Scope)(N:List Str)(T:Tr)(XJ lmb:Scope->List Str->Tr)(whole:Expr):Option (Dl.Env->Option (List D)):=match whole with
 | .List es _=>(uR T es).map eX
 | .ListComp elt gens scope _=>ze sc N T XJ elt gens scope
 | .BinOp a .Mult b _=>if M6 a=true then (T.f a).bind λx=>(T.e b).map λy=>uK x y else none
 | .BinOp a .Add b _=>(T.e a).bind λx=>(T.e b).map λy=>QN p9 x y
 | .Call (.Name x _) [l] [⟨some ky,.Lambda params body scope _,_⟩] _=>if (x == ("sorted":Str)&&ky == ("key":Str))=true then (match vy lam sc N T lmb l params body scope with|some f=>some f|none=>yi lam sc N T lmb l params body scope) else none
 | .Call (.Name x _) [e] [] _ =>
  if (tI sc x&&!isStar e)=true then
   if x="sorted" then (uR T [e]).map λfs=>um hU fs
   else none
  else none
 | _=>none
def tr(G:Sg):Nat->Option Str->Scope->List Str->Tr
 | 0,_,_,_=>⟨λ_=>none,λ_=>none,λ_=>none⟩
 | n+1,lam,sc,N=>⟨HP G sc N (tr G n lam sc N),Ee lam sc N (tr G n lam sc N) (tr G n none) (tr G n none),stepT (tr G n lam sc N)⟩
structure Rj(G:Sg)(X:Cx)(j:Nat):Prop where
 fn:∀x n m,G.fn.lookup x=some (n,m)->Gb X.prog X.w X.K X.mg X.base j x n m
 int:∀x i,G.int.lookup x=some i->∃t,X.mg x=some (.int i t)
 bn:Bn X
structure rM(X:Cx)(tg iter:Expr)(ifs:List Expr)(elt:Expr)(scope:Scope)(f:Dl.Env->Option (List D)):Prop where
 ex:∃ (N':List Str) (t:Nat) (cs:List Nat) (fi:Dl.Env->Option (List D)) (tgt:Dl.Env->D->Option Dl.Env) (tt:Dl.Env->Option Bool) (te:FE),f=aq t cs fi tgt tt te/\gO X scope N' (kn t cs)/\DI X tg iter fi/\(∀x,foldedSetIterable iter X.env x=pure x) /\
  ∀fp s H,DG (aX X scope N' fp s H) tg tgt/\PM (aX X scope N' fp s H) ifs tt/\DE (aX X scope N' fp s H) elt te
structure cS(X:Cx)(T:Tr):Prop where
 c:∀elt gens scope p f,T.f (.ListComp elt gens scope p)=some f->∃tg iter ifs,gens=[⟨tg,iter,ifs,0⟩]/\rM X tg iter ifs elt scope f
 e:∀e f,T.e e=some f->DE X e f
 f:∀e f,T.f e=some f->DF X e f
 t:∀e f,T.t e=some f->DT X e f
section
variable {G:Sg}{X:Cx}{N:List Str}{sc:Scope}{k j:Nat}{T:Tr}{pos p:Pos}
def FY(C:Bk X N sc k)(g:Rj G X j)(h:Cq G sc N x=some f):DE X (.Name x pos) f:=by
 unfold Cq at h;split at h
 ·split at h
  ·cases h;exact C.v _ ‹_›
  ·cases h
 ·split at h
  ·rename_i hg;let⟨n,hn,rfl⟩:=ah h;let⟨t,ht⟩:=g.int x n hn;simp?[zF,yQ] at hg;exact L4 (C.gl hg.1) ht hg.2
  ·cases h
def Cp(h:Ec c=some f):DE X (.Constant c i pos) f:=by
 cases c<;>cases h<;>first|exact NG|exact QJ|exact Ni|exact O4
def J9(C:Bk X N sc k)(O:cS X T)(h:QM T op a=some f):DE X (.UnaryOp op a pos) f:=by
 cases op<;>try cases h
 ·let⟨x,hx,rfl⟩:=ah h;exact C.neg (O.e _ _ hx)
def IW(C:Bk X N sc k)(O:cS X T)(h:GI T (.BinOp a op b pos) a op b=some f):DE X (.BinOp a op b pos) f:=by
 unfold GI at h;split at h
 ·let⟨x,hx,rfl⟩:=ah h;exact DF.de (O.f _ _ hx)
 ·let⟨g,hg,h⟩:=bs h;let⟨x,hx,h⟩:=bs h;let⟨y,hy,rfl⟩:=ah h;cases op<;>cases hg
  ·exact C.add (O.e _ _ hx) (O.e _ _ hy)
  ·exact C.sub (O.e _ _ hx) (O.e _ _ hy)
  ·exact C.mul (O.e _ _ hx) (O.e _ _ hy)
  ·exact C.mod (O.e _ _ hx) (O.e _ _ hy)
  ·exact C.div (O.e _ _ hx) (O.e _ _ hy)
def uS(O:cS X T):∀ {es:List Expr}{f:FE},yb T op es=some f->DE X (.BoolOp op es pos) f
 | [],f,h=>by cases h
 | [a],f,h=>Nd (O.e _ _ h)
 | a::b::r,f,h=>by
  unfold yb at h;let⟨x,hx,h⟩:=bs h;let⟨y,hy,rfl⟩:=ah h;have ih:=uS O hy;cases op with
  | And=>exact OR (O.e _ _ hx) ih
  | Or=>exact QP (O.e _ _ hx) ih
def NA(C:Bk X N sc k)(hg:QD op=some g)(hm:behindInMarks op b=false)(ha:DE X a x)(hb:DE X b y):DE X (.Compare a [op] [b] pos) (f2 g x y)/\DT X (.Compare a [op] [b] pos) (fB (f2 g x y)):=by
 cases op<;>cases hg
 ·exact⟨C.eq ha hb,C.teq ha hb⟩
 ·exact⟨C.ne ha hb,C.tne ha hb⟩
 ·exact⟨C.lt ha hb,C.tlt ha hb⟩
 ·exact⟨C.le ha hb,C.tle ha hb⟩
 ·exact⟨C.gt ha hb,C.tgt ha hb⟩
 ·exact⟨C.is0 ha hb,C.aeq ha hb⟩
 ·exact⟨C.aep ha hb,C.abx ha hb⟩
def M3(h:RS op=some g):∃r,jj X (compareOp op) r/\gD X.K r g:=by
 cases op<;>cases h
 ·exact⟨_,Jy,lH⟩
 ·exact⟨_,Gi,lH⟩
def Az(C:Bk X N sc k)(O:cS X T){cs:List Expr}(h:Eo T a ops cs=some f):DE X (.Compare a ops cs pos) f/\DT X (.Compare a ops cs pos) (fB f):=by
 unfold Eo at h;split at h
 ·split at h
  ·rename_i hm;let⟨g,hg,h⟩:=bs h;let⟨x,hx,h⟩:=bs h;let⟨y,hy,rfl⟩:=ah h;exact NA C hg hm (O.e _ _ hx) (O.e _ _ hy)
  ·cases h
 ·split at h
  ·rename_i hm;let⟨g,hg,h⟩:=bs h;let⟨g',hg',h⟩:=bs h;let⟨x,hx,h⟩:=bs h;let⟨y,hy,h⟩:=bs h;let⟨z,hz,rfl⟩:=ah h;let⟨r,r1,r2⟩:=M3 (X:=X) hg;let⟨r',r1',r2'⟩:=M3 (X:=X) hg';exact⟨JO r1 r2 r1' r2' (O.e _ _ hx) (O.e _ _ hy) (O.e _ _ hz) hm,GV r1 r2 r1' r2' (O.e _ _ hx) (O.e _ _ hy) (O.e _ _ hz) hm⟩
  ·cases h
 ·cases h
def cT(O:cS X T):∀ {es:List Expr}{fs:Dl.Env->Option (List D)},uR T es=some fs->DA X es fs
 | [],fs,h=>by cases h;exact Iv
 | e::es,fs,h=>by
  unfold uR at h;split at h
  ·rename_i hs;let⟨x,hx,h⟩:=bs h;let⟨r,hr,rfl⟩:=ah h;exact RK hs (O.e _ _ hx) (cT O hr)
  ·cases h
def JX(O:cS X T)(h:Ta T o=some f):DO X o f:=by
 cases o with
 | none=>cases h;exact Lc
 | some e=>let⟨x,hx,rfl⟩:=ah h;exact Ki (O.e _ _ hx)
def mY(h:Bg b=false):l5 b:=by
 cases b<;>first|(intro _ _;rfl)|cases h
def Gz(C:Bk X N sc k)(O:cS X T)(h:Ji T a b=some f):DE X (.Subscript a b pos) f:=by
 unfold Ji at h;split at h
 ·let⟨x,hx,h⟩:=bs h;let⟨l,hl,h⟩:=bs h;let⟨u,hu,rfl⟩:=ah h;exact C.cut (O.e _ _ hx) (JX O hl) (JX O hu)
 ·split at h
  ·rename_i hc;let⟨x,hx,h⟩:=bs h;let⟨y,hy,rfl⟩:=ah h;exact P8 (O.e _ _ hx) (O.e _ _ hy) (mY hc)
  ·cases h
def cG{env:PySem.Env}:∀ {es:List Expr},(es.all λe=>!isStar e)=true->(backTo pos (starEach es env)).any (·.1)=false
 | [],_=>rfl
 | e::es,h=>by
  rw[xV,zF,yQ] at h;rw[bj h.1];show (false||(backTo pos (starEach es env)).any (·.1))=false;rw[cG h.2];rfl
def Ia(h:oZ e=some e'):∃p q,e=.Call (.Name "set" p) [e'] [] q:=by
 unfold oZ at h;split at h
 ·split at h
  ·rename_i hx;cases h;subst hx;exact⟨_,_,rfl⟩
  ·cases h
 ·cases h
def KZ(h:Nt y=some ty):y∈cL/\bootBuiltins y=some (.type ty)/\y≠"__name__"/\(y == ("__debug__":Str))=false:=by
 unfold Nt at h;split at h
 ·rename_i e;cases h;subst e;exact⟨by decide +kernel,by decide +kernel,by decide,by decide⟩
 ·split at h
  ·rename_i e;cases h;subst e;exact⟨by decide +kernel,by decide +kernel,by decide,by decide⟩
  ·split at h
   ·rename_i e;cases h;subst e;exact⟨by decide +kernel,by decide +kernel,by decide,by decide⟩
   ·split at h
    ·rename_i e;cases h;subst e;exact⟨by decide +kernel,by decide +kernel,by decide,by decide⟩
    ·cases h
def Oh:bootBuiltins "any"=some (.builtin "any"):=by decide +kernel
def N1:bootBuiltins "sum"=some (.builtin "sum"):=by decide +kernel
def Ha:bootBuiltins "min"=some (.builtin "min"):=by decide +kernel
def Av(h:l.length=1):∃a,l=[a]:=by
 match l,h with
 | [a],_=>exact⟨a,rfl⟩
def E4(C:Bk X N sc k)(g:Rj G X j)(Xf:j<=k)(O:cS X T)(h:B7 G sc T (.Call (.Name x p) args [] pos) x args=some f):DE X (.Call (.Name x p) args [] pos) f:=by
 unfold B7 at h;split at h
 ·rename_i hg;rw[zF] at hg;let⟨hg,hs⟩:=hg;have X4:∀ {e:Expr}{es:List Expr},args=e::es->starEach (e::es) X.env=(false,eval e X.env)::starEach es X.env:=λ{e es} q=>by
   subst q;rw[xV,zF,yQ] at hs;exact bj hs.1
  have XX:∀ {e:Expr}{es:List Expr},args=e::es->(backTo pos (starEach es X.env)).any (·.1)=false:=λ{e es} q=>by
   subst q;rw[xV,zF] at hs;exact cG hs.2
  split at h
  ·rename_i n m Xo;split at h
   ·cases h
   ·rename_i UN;let⟨fs,WO,rfl⟩:=ah h;cases args with
    | nil=>exact absurd (by simp) UN
    | cons e es =>
     have hd:(x == ("__debug__":Str))=false:=by simpa using UN
     exact LY (g.fn x n m Xo) (C.room.mono Xf) (C.gl hg) (cT O WO) hd (X4 rfl) (XX rfl)
  ·split at h
   ·rename_i hx;subst hx;split at h
    ·rename_i e;split at h
     ·rename_i e' he';split at h
      ·rename_i hg2;rw[zF,yQ] at hg2;let⟨y,hy,rfl⟩:=ah h;let⟨p1,p2,rfl⟩:=Ia he';split
       ·exact B3 C.calm (C.blt g.bn hg (by decide +kernel) CQ) (C.blt g.bn hg2.1 (by decide +kernel) Hm) (O.e _ _ hy) (bj hg2.2)
       ·exact FR C.calm (C.blt g.bn hg (by decide +kernel) CQ) (C.blt g.bn hg2.1 (by decide +kernel) Hm) (O.e _ _ hy) (bj hg2.2)
      ·cases h
     ·let⟨fs,WO,rfl⟩:=ah h;exact OC (C.blt g.bn hg (by decide +kernel) CQ) (cT O WO) (X4 rfl)
    ·cases h
   ·split at h
    ·rename_i hx;subst hx;split at h
     ·rename_i e y py;split at h
      ·rename_i hgy;let⟨ty,hty,h⟩:=bs h;let⟨z,hz,rfl⟩:=ah h;let⟨t1,t2,t3,t4⟩:=KZ hty;exact P1 (C.blt g.bn hg (by decide +kernel) uk) (C.blt g.bn hgy t1 t2) (O.e _ _ hz) t3 t4 (X4 rfl)
      ·cases h
     ·cases h
    ·split at h
     ·rename_i hx;subst hx;split at h
      ·rename_i hl;let⟨fs,WO,rfl⟩:=ah h;let⟨e,rfl⟩:=Av hl;exact Hq (C.blt g.bn hg (by decide +kernel) J0) (cT O WO) (X4 rfl)
      ·cases h
     ·split at h
      ·rename_i hx;subst hx;split at h
       ·rename_i hl;let⟨fs,WO,rfl⟩:=ah h;let⟨e,rfl⟩:=Av hl;exact OM C.calm (C.blt g.bn hg (by decide +kernel) OQ) (cT O WO) (X4 rfl)
       ·cases h
      ·split at h
       ·rename_i hx;subst hx;split at h
        ·rename_i hl;let⟨fs,WO,rfl⟩:=ah h;let⟨e,rfl⟩:=Av hl;exact Pi C.calm (C.blt g.bn hg (by decide +kernel) Oh) (X4 rfl) (cT O WO)
        ·cases h
       ·split at h
        ·rename_i hx;subst hx;split at h
         ·rename_i hl;let⟨fs,WO,rfl⟩:=ah h;let⟨e,rfl⟩:=Av hl;exact Oi C.calm (C.blt g.bn hg (by decide +kernel) N1) (X4 rfl) (cT O WO)
         ·cases h
        ·split at h
         ·rename_i hx;subst hx;split at h
          ·cases h
          ·rename_i hl;let⟨fs,WO,rfl⟩:=ah h;cases args with
           | nil=>exact absurd rfl hl
           | cons e es =>
            exact Ox C.calm (C.blt g.bn hg (by decide +kernel) Ha) (X4 rfl) (XX rfl) (cT O WO)
         ·split at h
          ·let⟨y,hy,rfl⟩:=ah h;exact DF.de (O.f _ _ hy)
          ·cases h
 ·cases h
end
section
variable {G:Sg}{X:Cx}{N:List Str}{sc:Scope}{k j:Nat}{T:Tr}{pos p:Pos}
def SV{env:PySem.Env}(h:isStar e=false):((backTo cpos (starEach [e] env)).all (λx=>!x.1)&&(backToKw cpos (keywordEach [] env)).all (λx=>x.1.isSome)&&decide ([e].length+([]:List Keyword).length+(if ([]:List Keyword).isEmpty then 0 else 1) < 30))=true:=by
 rw[bj h];rfl
def ow{env:PySem.Env}(h:yy o=false):attributeBase o a env w=w:=by
 cases o<;>first|rfl|cases h
def F7(C:Bk X N sc k)(O:cS X T)(h:Ck T o m apos args cpos=some f):DE X (.Call (.Attribute o m apos) args [] cpos) f:=by
 unfold Ck at h;split at h
 ·rename_i hm;rw[zF,zF,yQ] at hm;let⟨⟨hm1,hm⟩,Vp⟩:=hm;have e1:m="index":=eq_of_beq hm1;subst e1;split at h
  ·rename_i e;split at h
   ·rename_i hs;let⟨x,hx,h⟩:=bs h;let⟨y,hy,rfl⟩:=ah h;exact ET (ow Vp) (SV hs) hm (bj hs) (O.e _ _ hx) (O.e _ _ hy)
   ·cases h
  ·cases h
 ·cases h
def BJ{α:Type}{R:Addr->α->Prop}{ls:List (Str×Nat×α)}(hg:∀x,tI sc x=true->Gl X x)(hf:∀x m,ls.lookup x=some (n,m)->∃f,X.mg x=some (.ref f)/\R f m):∀ {ns:List Expr}{ms:List α},Qd sc ls n ns=some ms->∃vs,FG X R ns ms vs
 | [],ms,h=>by cases h;exact⟨_,.nil⟩
 | e::r,ms,h=>by
  unfold Qd at h;split at h
  ·rename_i he;cases he
  ·rename_i x p r' he;cases he;split at h
   ·rename_i hc;simp?[zF,yQ] at hc;let⟨⟨n',m⟩,h1,h⟩:=bs h;split at h
    ·rename_i hn;obtain rfl:n'=n:=hn;let⟨ms',h2,rfl⟩:=ah h;let⟨f,hm,hR⟩:=hf x m h1;let⟨vs,ih⟩:=BJ hg hf h2;exact⟨_,.cons (hg x hc.1) hm hc.2 hR ih⟩
    ·cases h
   ·cases h
  ·cases h
def BA(C:Bk X N sc k)(g:Rj G X j)(Xf:j<=k)(O:cS X T){ns:List Expr}(h:xq G sc T ns b args=some f):DE X (.Call (.Subscript (.List ns p2) b p3) args [] pos) f:=by
 unfold xq at h;split at h
 ·rename_i hg;simp?[zF,yQ,zJ] at hg;let⟨hs,he,hb,hz⟩:=hg;let⟨ms,h1,h⟩:=bs h;let⟨fk,h3,h⟩:=bs h;let⟨fs,h4,rfl⟩:=ah h;let⟨vs,hN⟩:=BJ (R:=Tv X j args.length) (λx hx=>C.gl hx) (λx m hx=>let ⟨f,fd,ps,ok,hm,hk,hb⟩:=(g.fn x _ m hx).ex;⟨f,hm,fd,ps,ok,hk,hb⟩) h1;cases args with
  | nil=>cases he
  | cons e es =>
   rw[xV,zF,yQ] at hs;exact JU hN hz (C.room.mono Xf) (O.e _ _ h3) (cT O h4) (mY hb) (bj hs.1) (cG hs.2)
 ·cases h
def Hw(C:Bk X N sc k)(g:Rj G X j)(Xf:j<=k)(O:cS X T)(h:HP G sc N T e=some f):DE X e f:=by
 unfold HP at h;split at h
 ·exact FY C g h
 ·exact Cp h
 ·exact J9 C O h
 ·exact IW C O h
 ·exact uS O h
 ·exact (Az C O h).1
 ·let⟨z,hz,h⟩:=bs h;let⟨x,hx,h⟩:=bs h;let⟨y,hy,rfl⟩:=ah h;exact Rp (O.t _ _ hz) (O.e _ _ hx) (O.e _ _ hy)
 ·let⟨x,hx,rfl⟩:=ah h;exact NN (cT O hx)
 ·exact Gz C O h
 ·let⟨x,hx,rfl⟩:=ah h;exact DF.de (O.f _ _ hx)
 ·let⟨x,hx,rfl⟩:=ah h;exact DF.de (O.f _ _ hx)
 ·exact E4 C g Xf O h
 ·let⟨x,hx,rfl⟩:=ah h;exact DF.de (O.f _ _ hx)
 ·exact F7 C O h
 ·exact BA C g Xf O h
 ·cases h
def JC(O:cS X T):∀ {es:List Expr}{f:Dl.Env->Option Bool},Rw T op es=some f->DW X (.BoolOp op es pos) f
 | [],f,h=>by cases h
 | [a],f,h=>by
  cases op with
  | And=>exact Kc (O.t _ _ h)
  | Or=>exact Ny (O.t _ _ h)
 | a::b::r,f,h=>by
  unfold Rw at h;let⟨x,hx,h⟩:=bs h;let⟨y,hy,rfl⟩:=ah h;have ih:=JC O hy;cases op with
  | And=>exact N9 (O.t _ _ hx) ih
  | Or=>exact Qi (O.t _ _ hx) ih
def Jk(C:Bk X N sc k)(O:cS X T)(h:stepT T e=some f):DT X e f:=by
 unfold stepT at h;split at h
 ·let⟨x,hx,rfl⟩:=ah h;exact (Az C O hx).2
 ·let⟨x,hx,rfl⟩:=ah h;exact NI (O.t _ _ hx)
 ·exact DW.dt (JC O h)
 ·split at h
  ·rename_i hp;let⟨x,hx,rfl⟩:=ah h;refine Pz (O.e _ _ hx) ?_;revert hp;cases e<;>first|(intro hp;cases hp;done)|(intro hp _;rfl)
  ·cases h
def JW{env:PySem.Env}(h:Hx e=true):∀x,foldedSetIterable e env x=pure x:=by
 cases e<;>first|(intro _;rfl)|cases h
def HV(C:Bk X N sc k)(B:Bn X)(O:cS X T)(h:Rz sc T tg iter=some fi):DI X tg iter fi/\∀x,foldedSetIterable iter X.env x=pure x:=by
 unfold Rz at h;split at h
 ·refine⟨?_,λ_=>rfl⟩;split at h
  ·rename_i hx;subst hx;split at h
   ·split at h
    ·rename_i hg;rw[zF,yQ] at hg;let⟨x,hx,rfl⟩:=ah h;exact HE (C.blt B hg.1 (by decide +kernel) A4) (cT O hx) (bj hg.2)
    ·cases h
   ·cases h
  ·split at h
   ·rename_i hx;subst hx;split at h
    ·split at h
     ·rename_i hg;simp?[zF,yQ] at hg;let⟨x,hx,rfl⟩:=ah h;cases tg<;>first|exact LK (C.blt B hg.1.1 (by decide +kernel) zi) (cT O hx) (bj hg.1.2)|exact absurd hg.2 (by simp[ym])
     ·cases h
    ·cases h
   ·split at h
    ·rename_i hx;subst hx;split at h
     ·split at h
      ·rename_i e e' hg;simp?[zF,yQ] at hg;let⟨x,hx,rfl⟩:=ah h;cases tg<;>first|exact Mm (C.blt B hg.1.1.1 (by decide +kernel) NK) (bj hg.1.1.2) (cG (by simp[hg.1.2])) (cT O hx)|exact absurd hg.2 (by simp[ym])
      ·cases h
     ·cases h
    ·let⟨x,hx,rfl⟩:=ah h;exact JQ (O.e _ _ hx)
 ·cases h
 ·rename_i h1 h2;let⟨x,hx,rfl⟩:=ah h;refine⟨JQ (O.e _ _ hx),JW ?_⟩;cases iter<;>first|rfl|exact absurd rfl (h2 _ _ _)
def OW(h:Sz tg=some xs):(∃x px,tg=.Name x px/\xs=[x])\/∃x px y py m pt,tg=.Tuple [.Name x px,.Name y py] m pt/\xs=[x,y]:=by
 unfold Sz at h;split at h
 ·cases h;exact .inl ⟨_,_,rfl,rfl⟩
 ·cases h;exact .inr ⟨_,_,_,_,_,_,rfl,rfl⟩
 ·cases h
def ON(h:Ry tg=some xs):((∃x px,tg=.Name x px/\xs=[x])\/∃x px y py m pt,tg=.Tuple [.Name x px,.Name y py] m pt/\xs=[x,y])\/∃x px y py z pz m pt,tg=.Tuple [.Name x px,.Name y py,.Name z pz] m pt/\xs=[x,y,z]:=by
 unfold Ry at h;split at h
 ·cases h;exact .inr ⟨_,_,_,_,_,_,_,_,rfl,rfl⟩
 ·exact .inl (OW h)
def vm(C:Bk X N sc k)(B:Bn X)(O:cS X T)(OB:∀scope N' fp s H,Bk (aX X scope N' fp s H) N' scope k->cS (aX X scope N' fp s H) (XJ scope N'))
  (h:ze sc N T XJ elt [⟨tg,iter,ifs,as⟩] scope=some f):as=0/\rM X tg iter ifs elt scope f:=by
 unfold ze at h;dsimp only at h;split at h
 ·rename_i has;refine⟨has,?_⟩;let⟨xs,hxs,h⟩:=bs h;split at h
  ·rename_i UC;rw[zF] at UC;let⟨fi,Vx,h⟩:=bs h;let⟨tt,Z9,h⟩:=bs h;let⟨te,Yk,rfl⟩:=ah h;let⟨S,CB⟩:=C.comp UC.1;let⟨hd,VA⟩:=HV C B O Vx;refine⟨_,_,_,_,_,_,_,rfl,S,hd,VA,λfp s H=>?_⟩;have C1:=CB fp s H;have O1:=OB scope _ fp s H C1;refine⟨?_,?_,O1.e _ _ Yk⟩
   ·rcases ON hxs with (⟨x,px,rfl,rfl⟩|⟨x,px,y,py,m,pt,rfl,rfl⟩)|⟨x,px,y,py,z,pz,m,pt,htg,rfl⟩
    ·have z:=C1.loc (i:=0) (x:=x) (List.all_eq_true.mp UC.2 0 (by simp));exact LD 0 z.1 z.2.1 z.2.2.1 z.2.2.2
    ·have z:=C1.loc (i:=0) (x:=x) (List.all_eq_true.mp UC.2 0 (by simp));have w:=C1.loc (i:=1) (x:=y) (List.all_eq_true.mp UC.2 1 (by simp));exact O2 0 1 C1.calm z.1 z.2.1 z.2.2.1 w.2.1 w.2.2.1 z.2.2.2 w.2.2.2
    ·have z0:=C1.loc (i:=0) (x:=x) (List.all_eq_true.mp UC.2 0 (by simp));have w:=C1.loc (i:=1) (x:=y) (List.all_eq_true.mp UC.2 1 (by simp));have u:=C1.loc (i:=2) (x:=z) (List.all_eq_true.mp UC.2 2 (by simp));subst htg;exact Jg 0 1 2 C1.calm z0.1 z0.2.1 z0.2.2.1 w.2.1 w.2.2.1 u.2.1 u.2.2.1 z0.2.2.2 w.2.2.2 u.2.2.2
   ·unfold Mv at Z9;split at Z9
    ·cases Z9;exact LJ
    ·exact LV (O1.t _ _ Z9)
    ·cases Z9
  ·cases h
 ·cases h
def rM.df(hc:X.calm=true)(h:rM X tg iter ifs elt scope f):DF X (.ListComp elt [⟨tg,iter,ifs,0⟩] scope pos) f:=by
 let⟨N',t,cs,fi,tgt,tt,te,rfl,S,hd,VA,hY⟩:=h.ex;exact L8 hc S hd hY VA
def AB(h:Ei a=some x):∃px,a=⟨[],[⟨x,none,px⟩],none,[],[],none,[]⟩/\(x="number"\/x="plan"):=by
 unfold Ei at h;split at h
 ·split at h
  ·cases h;exact⟨_,rfl,.inl ‹_›⟩
  ·split at h
   ·cases h;exact⟨_,rfl,.inr ‹_›⟩
   ·cases h
 ·cases h
def bind1{x q:Str}{px:Pos}{body:Expr}{scope:Scope}{cl:List (Str×Addr)}{pm VR u:Value}{c:Addr}(h:x="number"\/x="plan") :
  bindArgs (W.kla_fn "<lambda>" q ⟨[],[⟨x,none,px⟩],none,[],[],none,[]⟩ body scope cl pm (.ref c) VR) ⟨[u],[]⟩=pure [(x,u)]:=by
 rcases h with rfl|rfl<;>rfl
def CK{lam:Option Str}(C:Bk X N sc k)(B:Bn X)(VU:∀q,lam=some q->su X q/\j+3<=k)(O:cS X T){lmb:Scope->List Str->Tr}
  (OL:∀scope N' qual A f c s H,Bk (iu X A qual scope N' f c s H) N' scope (k - 3)->j<=k - 3->cS (iu X A qual scope N' f c s H) (lmb scope N')) {l body:Expr}{params:Arguments}{scope:Scope}{p0 U9 Wa:Pos}{f:Dl.Env->Option (List D)}
  (h:vy lam sc N T lmb l params body scope=some f):DF X (.Call (.Name "sorted" p0) [l] [⟨some "key",.Lambda params body scope U9,Wa⟩] pos) f:=by
 unfold vy at h;split at h
 ·rename_i hg;simp?[zF,yQ] at hg;let⟨⟨hl,hg⟩,hs⟩:=hg;let⟨q,rfl⟩:=Option.isSome_iff_exists.mp hl;let⟨L,hk⟩:=VU q rfl;let⟨x,hx,h2⟩:=bs h;clear h;let⟨px,rfl,hpx⟩:=AB hx;split at h2
  ·rename_i UC;rw[zF] at UC;let⟨fl,Vv,h⟩:=bs h2;let⟨te,Yk,rfl⟩:=ah h;obtain⟨k',rfl⟩:∃k',k=k'+3:=⟨k - 3,by lia⟩
   exact Bk.abF (p:=x) C (C.blt B hg (by decide +kernel) o6) L UC.1 UC.2 (λ_ _ _ _ _=>bind1 hpx) rfl (O.e _ _ Vv) (λA f c s H C'=>(OL scope _ q A f c s H C' (by lia)).e _ _ Yk) (bj hs) (by rw[bj hs];rfl) (cG (by simp[hs]))
  ·cases h2
 ·cases h
def CY{lam:Option Str}(C:Bk X N sc k)(B:Bn X)(VU:∀q,lam=some q->su X q/\j+3<=k)(O:cS X T){lmb:Scope->List Str->Tr}
  (OL:∀scope N' qual A f c s H,Bk (iu X A qual scope N' f c s H) N' scope (k - 3)->j<=k - 3->cS (iu X A qual scope N' f c s H) (lmb scope N')) {l body:Expr}{params:Arguments}{scope:Scope}{p0 U9 Wa:Pos}{f:Dl.Env->Option (List D)}
  (h:yi lam sc N T lmb l params body scope=some f):DF X (.Call (.Name "sorted" p0) [l] [⟨some "key",.Lambda params body scope U9,Wa⟩] pos) f:=by
 unfold yi at h;split at h
 ·split at h
  ·rename_i hg;simp?[zF,yQ] at hg;obtain⟨⟨⟨⟨hl,hg⟩,hr⟩,hgr⟩,hs⟩:=hg;have er:=eq_of_beq hr;subst er;let⟨q,rfl⟩:=Option.isSome_iff_exists.mp hl;let⟨L,hk⟩:=VU q rfl;let⟨x,hx,h2⟩:=bs h;clear h;let⟨px,rfl,hpx⟩:=AB hx;split at h2
   ·rename_i UC;rw[zF] at UC;let⟨fl,Vv,h⟩:=bs h2;let⟨te,Yk,rfl⟩:=ah h;obtain⟨k',rfl⟩:∃k',k=k'+3:=⟨k - 3,by lia⟩
    exact Bk.abJ (p:=x) C (C.blt B hg (by decide +kernel) o6) (C.blt B hgr (by decide +kernel) A4) L UC.1 UC.2 (λ_ _ _ _ _=>bind1 hpx) rfl (cT O Vv) (λA f c s H C'=>(OL scope _ q A f c s H C' (by lia)).e _ _ Yk) (bj hs) (bj rfl) (by rw[bj rfl];rfl) (cG (by rfl))
   ·cases h2
  ·cases h
 ·cases h
def HI(C:Bk X N sc k)(B:Bn X)(VU:∀q,lam=some q->su X q/\j+3<=k)(O:cS X T)
  (OB:∀scope N' fp s H,Bk (aX X scope N' fp s H) N' scope k->cS (aX X scope N' fp s H) (XJ scope N'))
  (OL:∀scope N' qual A f c s H,Bk (iu X A qual scope N' f c s H) N' scope (k - 3)->j<=k - 3->cS (iu X A qual scope N' f c s H) (lmb scope N')) {e:Expr}{f:Dl.Env->Option (List D)}(h:Ee lam sc N T XJ lmb e=some f):DF X e f:=by
 unfold Ee at h;split at h
 ·let⟨x,hx,rfl⟩:=ah h;exact NR (cT O hx)
 ·rename_i elt gens scope ps
  match gens,h with
  | [⟨tg,iter,ifs,as⟩],h =>
   let⟨rfl,q⟩:=vm C B O OB h;exact q.df C.calm
 ·split at h
  ·let⟨x,hx,h⟩:=bs h;let⟨y,hy,rfl⟩:=ah h;exact Pm (O.f _ _ hx) (O.e _ _ hy)
  ·cases h
 ·let⟨x,hx,h⟩:=bs h;let⟨y,hy,rfl⟩:=ah h;exact Nj (O.e _ _ hx) (O.e _ _ hy)
 ·split at h
  ·rename_i hk;rw[zF] at hk;have e1:=eq_of_beq hk.1;have e2:=eq_of_beq hk.2;subst e1 e2;split at h
   ·cases h;exact CK C B VU O OL ‹_›
   ·exact CY C B VU O OL h
  ·cases h
 ·split at h
  ·rename_i hg;rw[zF,yQ] at hg;split at h
   ·rename_i hx;subst hx;let⟨x,hx,rfl⟩:=ah h;exact F5 (C.blt B hg.1 (by decide +kernel) o6) (cT O hx) (bj hg.2)
   ·cases h
  ·cases h
 ·cases h
def K3(C:Bk X N sc k)(B:Bn X)(O:cS X T)(OB:∀scope N' fp s H,Bk (aX X scope N' fp s H) N' scope k->cS (aX X scope N' fp s H) (XJ scope N'))
  {elt:Expr}{gens:List Comprehension}{scope:Scope}{p:Pos}{f:Dl.Env->Option (List D)}(h:Ee lam sc N T XJ lmb (.ListComp elt gens scope p)=some f):∃tg iter ifs,gens=[⟨tg,iter,ifs,0⟩]/\rM X tg iter ifs elt scope f:=by
 have h:ze sc N T XJ elt gens scope=some f:=h
 match gens,h with
 | [⟨tg,iter,ifs,as⟩],h =>
  let⟨rfl,q⟩:=vm C B O OB h;exact⟨tg,iter,ifs,rfl,q⟩
def DH(n:Nat):∀ {lam:Option Str}{X:Cx}{N:List Str}{sc:Scope}{k:Nat},Bk X N sc k->Rj G X j->j<=k->(∀q,lam=some q->su X q/\j+3<=k)->cS X (tr G n lam sc N):=by
 induction n with
 | zero=>intro lam X N sc k C g Xf VU;exact⟨λ_ _ _ _ _ h=>(by cases h),λ_ _ h=>(by cases h),λ_ _ h=>(by cases h),λ_ _ h=>(by cases h)⟩
 | succ n ih =>
  intro lam X N sc k C g Xf VU;have O:=ih C g Xf VU;exact⟨λelt gens scope p f h=>K3 (lam:=lam) (lmb:=tr G n none) (p:=p) C g.bn O (λscope N' fp s H C'=>ih C' ⟨g.fn,g.int,g.bn⟩ Xf λq z=>by cases z) h,λe f h=>Hw C g Xf O h,
   λe f h=>HI C g.bn VU O (λscope N' fp s H C'=>ih C' ⟨g.fn,g.int,g.bn⟩ Xf λq z=>by cases z) (λscope N' qual A f c s H C' hk=>ih C' ⟨g.fn,g.int,g.bn⟩ hk λq z=>by cases z) h,
   λe f h=>Jk C O h⟩
end
def rQ:Nat->Expr->List Str
 | 0,_=>[]
 | n+1,e=>match e with
  | .Name x _=>[x]
  | .UnaryOp _ a _=>rQ n a
  | .BinOp a _ b _=>rQ n a++rQ n b
  | .BoolOp _ es _=>es.flatMap (rQ n)
  | .Compare a _ cs _=>rQ n a++cs.flatMap (rQ n)
  | .IfExp c a b _=>rQ n c++(rQ n a++rQ n b)
  | .Tuple es _ _=>es.flatMap (rQ n)
  | .List es _=>es.flatMap (rQ n)
  | .Subscript a b _=>rQ n a++rQ n b
  | .Slice lo hi st _=>(lo.toList++(hi.toList++st.toList)).flatMap (rQ n)
  | .Call f args kws _=>rQ n f++(args.flatMap (rQ n)++kws.flatMap λk=>rQ n k.value)
  | .Attribute o _ _=>rQ n o
  | .ListComp elt gens _ _=>rQ n elt++gens.flatMap λg=>rQ n g.iter++g.ifs.flatMap (rQ n)
  | .Lambda _ b _ _=>rQ n b
  | _=>[]
def qb(N:List Str)(e:Expr):List Nat:=let ns:=rQ 60 e;(List.range N.length).filter λj=>match N[j]? with|some x=>ns.contains x|none=>false
abbrev GS:=au->Option Out
def turns:Nat:=1000000
def Cw:Expr->Bool
 | .ListComp ..=>true
 | .SetComp ..=>true
 | .DictComp ..=>true
 | _=>false
def IE(sc:Scope)(N:List Str)(T:Tr)(x:Str)(px:Pos)(e:Expr):Option GS :=
 (N.idxOf? x).bind λi=>if rG N sc i x=true then
  (if DM e=true then (match e with
   | .ListComp _ _ scope lp =>
    if (decide (sc.names.lookup x=some .local)&&(px.line == lp.line&&!(scope.names.any λ(n,k)=>n == x&&(k == .local || k == .cell))))=true then (T.f e).map λf=>if x="_law_due" then rZ i (qb N e) f else aQ i (qb N e) f
    else if decide (sc.names.lookup x=some .cell)=true then (T.f e).map λf=>aQ i (qb N e) f
    else if (px.line == lp.line)=false then (T.f e).map λf=>aQ i (qb N e) f
    else none
   | _=>(T.f e).map λf=>aQ i (qb N e) f)
  else if Cw e=false then (T.e e).map λf=>aI i (qb N e) f else none) else none
def Iy(N:List Str)(sc:Scope)(T:Tr)(e:Expr):Option GS:=match e with
 | .Constant (.str _) _ _=>some fv
 | .Call (.Attribute (.Name x _) m apos) args [] cpos =>
  (N.idxOf? x).bind λi=>if (ER N sc i x&&apos.endLine == cpos.line&&args.all λe=>!isStar e)=true then
   (if m="append" then (match args with
    | [a]=>(T.e a).map λf=>iR i (qb N a) f
    | _=>none)
   else if m="extend" then (match args with
    | [a]=>(T.f a).map λf=>wg i (qb N a) f
    | _=>none)
   else if m="insert" then (match args with
    | [a,b]=>(T.e a).bind λfk=>(T.e b).map λf=>Gv i (qb N b) fk f
    | _=>none)
   else none) else none
 | .Call (.Name _ _) _ _ _=>(T.e e).map jn
 | _=>none
def SC(sc:Scope)(N:List Str)(tg:Expr):Option (au->D->Option au):=match tg with
 | .Name x _=>(N.idxOf? x).bind λi=>if rG N sc i x=true then some (ik i) else none
 | .Tuple [.Name x _,.Name y _] _ _=>(N.idxOf? x).bind λi=>(N.idxOf? y).bind λj=>if (rG N sc i x&&rG N sc j y)=true then some (gz i j) else none
 | _=>none
def HQ(sc:Scope)(N:List Str)(T:Tr)(x:Str)(kx e:Expr):Option GS :=
 (N.idxOf? x).bind λi=>if (ER N sc i x&&!Bg kx)=true then (T.e kx).bind λfk=>(T.e e).map λf=>Cy i (qb N e) fk f else none
def xo(sc:Scope)(N:List Str)(T:Tr)(x y z:Str)(e:Expr):Option GS :=
 (N.idxOf? x).bind λi=>(N.idxOf? y).bind λj=>(N.idxOf? z).bind λl=>if (((rG N sc i x&&rG N sc j y)&&rG N sc l z)&&EF e)=true then (T.e e).map λf=>pd i j l (qb N e) f else none
def Jv(sc:Scope)(N:List Str)(T:Tr)(t e:Expr):Option GS:=match t with
 | .Name x px=>IE sc N T x px e
 | .Subscript v kx _=>(match v with
  | .Name x _=>HQ sc N T x kx e
  | _=>none)
 | .Tuple es _ _=>(match es with
  | [.Name x _,.Name y _,.Name z _]=>xo sc N T x y z e
  | _=>none)
 | _=>none
def qg(f:Stmt->Option GS):List Stmt->Option GS
 | []=>some fv
 | [s]=>f s
 | s::r=>(f s).bind λg=>(qg f r).map λh=>aw g h
def uN(sc:Scope)(N:List Str)(T:Tr):Nat->Stmt->Option GS
 | 0,_=>none
 | n+1,st=>match st with
  | .Return (some e) _=>(T.e e).map aM
  | .If c a b _=>(T.t c).bind λt=>(qg (uN sc N T n) a).bind λg=>(qg (uN sc N T n) b).map λh=>fX t g h
  | .Assign [t] e _=>Jv sc N T t e
  | .For tg iter body [] _=>(Rz sc T tg iter).bind λfi=>(SC sc N tg).bind λt=>(qg (uN sc N T n) body).map λg=>cX (qb N iter) fi t g
  | .While c body [] _=>(T.t c).bind λt=>(qg (uN sc N T n) body).map λg=>Lj t g turns
  | .Expr e _=>Iy N sc T e
  | .Raise ..=>some PH
  | .Pass _=>some fv
  | _=>none
section
variable {X:Cx}{N:List Str}{sc:Scope}{k:Nat}{T:Tr}{Uy Uz:Hp}{pos:Pos}
def gY(H:∀s g,f s=some g->DS X Uy Uz s g):∀ {l:List Stmt}{g:GS},qg f l=some g->C7 X Uy Uz l g
 | [],g,h=>by cases h;exact KI
 | [s],g,h=>DU (H _ _ h)
 | s::t::r,g,h=>by
  unfold qg at h;let⟨x,hx,h⟩:=bs h;let⟨y,hy,rfl⟩:=ah h;exact Ju (H _ _ hx) (gY H hy)
def pq{env:PySem.Env}(h:Cw e=false):swapsWith e (some (.Name x px)) line env=pure false:=by
 cases e<;>first|rfl|cases h
def HW(C:Bk X N sc k)(O:cS X T)(h:IE sc N T x px e=some g):DS X Uy Uz (.Assign [.Name x px] e pos) g:=by
 unfold IE at h;let⟨i,hi,h⟩:=bs h;split at h
 ·rename_i Xg;let⟨z1,z2,z3,z4⟩:=C.loc Xg;split at h
  ·split at h
   ·rename_i elt gens scope lp hl;split at h
    ·rename_i hc;rw[zF] at hc;let⟨f,hf,rfl⟩:=ah h;let⟨tg,iter,ifs,rfl,q⟩:=O.c _ _ _ _ _ hf;let⟨N',t,cs,fi,tgt,tt,te,rfl,S,hd,VA,hY⟩:=q.ex;split
     ·exact GD i _ C.calm S hd hY z1 z2 (C.aag hc.1) (C.swap hc.1 hc.2) VA
     ·exact Kd i _ C.calm S hd hY z1 z2 (C.aag hc.1) (C.swap hc.1 hc.2) VA
    ·split at h
     ·rename_i hc;let⟨f,hf,rfl⟩:=ah h;exact zh i _ z1 z2 z3 (O.f _ _ hf) (C.aah hc) z4
     ·split at h
      ·rename_i hc;let⟨f,hf,rfl⟩:=ah h;refine zh i _ z1 z2 z3 (O.f _ _ hf) ?_ z4;rw[tJ,hc];simp
      ·cases h
   ·rename_i hl hn;let⟨f,hf,rfl⟩:=ah h;refine zh i _ z1 z2 z3 (O.f _ _ hf) (pq ?_) z4;cases e<;>first|rfl|exact absurd rfl (hn _ _ _ _)|(rename_i hl _;cases hl;done)
  ·split at h
   ·rename_i hc;let⟨f,hf,rfl⟩:=ah h;exact NJ i _ z1 z2 z3 (O.e _ _ hf) (pq hc) z4
   ·cases h
 ·cases h
def Cg{env:PySem.Env}(h:(es.all λe=>!isStar e)=true)(hl:es.length < 20):((backTo cpos (starEach es env)).all (λx=>!x.1)&&(backToKw cpos (keywordEach [] env)).all (λx=>x.1.isSome)&&decide (es.length+([]:List Keyword).length+(if ([]:List Keyword).isEmpty then 0 else 1) < 30))=true:=by
 have h1:(backTo cpos (starEach es env)).all (λx=>!x.1)=true:=by
  have:=cG (pos:=cpos) (env:=env) h;rw[List.all_eq_not_any_not];simpa using this
 rw[h1];simp[backToKw,keywordEach];lia
def JI(C:Bk X N sc k)(O:cS X T)(h:Iy N sc T e=some g):DS X Uy Uz (.Expr e pos) g:=by
 unfold Iy at h;split at h
 ·cases h;exact Nr
 ·rename_i x px m apos args cpos;replace h:=bs h;let⟨i,hi,h⟩:=h;split at h
  ·rename_i hv;simp?[zF] at hv;let⟨⟨hv,UR⟩,hs⟩:=hv;let⟨z1,z2,z3,z4⟩:=C.vis hv;split at h
   ·rename_i hm;subst hm;split at h
    ·let⟨f,hf,rfl⟩:=ah h;exact FD i _ z1 z2 (O.e _ _ hf) z3 z4 (Cg hs (by simp)) UR (bj (by simpa using hs))
    ·cases h
   ·split at h
    ·rename_i hm;subst hm;split at h
     ·let⟨f,hf,rfl⟩:=ah h;exact Fv i _ z1 z2 (O.f _ _ hf) z3 z4 (Cg hs (by simp)) UR (bj (by simpa using hs))
     ·cases h
    ·split at h
     ·rename_i hm;subst hm;split at h
      ·let⟨fk,hfk,h⟩:=bs h;let⟨f,hf,rfl⟩:=ah h;have VN:=hs;simp?[xV,List.all_nil,Bool.and_true,zF,yQ] at VN;exact FL i _ z1 z2 (O.e _ _ hfk) (O.e _ _ hf) z3 z4 (Cg hs (by simp)) UR (bj VN.1) (bj VN.2)
      ·cases h
     ·cases h
  ·cases h
 ·let⟨f,hf,rfl⟩:=ah h;exact Kn rfl (O.e _ _ hf)
 ·cases h
def OF(C:Bk X N sc k)(h:SC sc N tg=some t):RD X Uy Uz tg t:=by
 unfold SC at h;split at h
 ·let⟨i,hi,h⟩:=bs h;split at h
  ·rename_i hl;cases h;have z:=C.loc hl;exact Gw i z.1 z.2.1 z.2.2.1 z.2.2.2
  ·cases h
 ·let⟨i,hi,h⟩:=bs h;let⟨j,hj,h⟩:=bs h;split at h
  ·rename_i hl;rw[zF] at hl;cases h;have z:=C.loc hl.1;have w:=C.loc hl.2;exact LQ i j C.calm z.1 z.2.1 z.2.2.1 w.2.1 w.2.2.1 z.2.2.2 w.2.2.2
  ·cases h
 ·cases h
def CU(C:Bk X N sc k)(O:cS X T)(h:xo sc N T x y z e=some g):DS X Uy Uz (.Assign [.Tuple [.Name x px,.Name y py,.Name z pz] m pt] e pos) g:=by
 unfold xo at h;let⟨i,hi,h⟩:=bs h;let⟨j,hj,h⟩:=bs h;let⟨l,YW,h⟩:=bs h;split at h
 ·rename_i hl;rw[zF,zF,zF] at hl;let⟨f,hf,rfl⟩:=ah h;have z:=C.loc hl.1.1.1;have w:=C.loc hl.1.1.2;have u:=C.loc hl.1.2;exact He i j l _ C.calm z.1 z.2.1 z.2.2.1 w.2.1 w.2.2.1 u.2.1 u.2.2.1 hl.2 (O.e _ _ hf) z.2.2.2 w.2.2.2 u.2.2.2
 ·cases h
def Gj(C:Bk X N sc k)(O:cS X T)(h:HQ sc N T x kx e=some g):DS X Uy Uz (.Assign [.Subscript (.Name x px) kx Vw] e pos) g:=by
 unfold HQ at h;let⟨i,hi,h⟩:=bs h;split at h
 ·rename_i hv;simp?[zF,yQ] at hv;let⟨hv,hc⟩:=hv;let⟨z1,z2,z3,z4⟩:=C.vis hv;let⟨fk,hfk,h⟩:=bs h;let⟨f,hf,rfl⟩:=ah h;refine JZ i _ z1 z2 (O.e _ _ hfk) (O.e _ _ hf) z3 z4 (λv=>?_) ?_ ?_ rfl
  ·cases kx<;>first|rfl|cases hc
  ·cases e<;>rfl
  ·rfl
 ·cases h
def GP(C:Bk X N sc k)(O:cS X T)(h:Jv sc N T t e=some g):DS X Uy Uz (.Assign [t] e pos) g:=by
 unfold Jv at h;split at h
 ·exact HW C O h
 ·split at h
  ·exact Gj C O h
  ·cases h
 ·split at h
  ·exact CU C O h
  ·cases h
 ·cases h
def se(C:Bk X N sc k)(B:Bn X)(O:cS X T):∀ (n:Nat) {st:Stmt}{g:GS},uN sc N T n st=some g->DS X Uy Uz st g
 | 0,st,g,h=>by cases h
 | n+1,st,g,h=>by
  have ih:=λs g h=>se C B O n (st:=s) (g:=g) h;unfold uN at h;split at h
  ·let⟨f,hf,rfl⟩:=ah h;exact OZ (O.e _ _ hf)
  ·let⟨t,ht,h⟩:=bs h;let⟨a,ha,h⟩:=bs h;let⟨b,hb,rfl⟩:=ah h;exact QS (O.t _ _ ht) (gY ih ha) (gY ih hb)
  ·exact GP C O h
  ·let⟨fi,Vx,h⟩:=bs h;let⟨t,ht,h⟩:=bs h;let⟨b,hb,rfl⟩:=ah h;let⟨hd,VA⟩:=HV C B O Vx;exact N8 _ C.pass C.calm hd (OF C ht) (gY ih hb) VA
  ·let⟨t,ht,h⟩:=bs h;let⟨b,hb,rfl⟩:=ah h;exact Ii _ C.pass (O.t _ _ ht) (gY ih hb)
  ·exact JI C O h
  ·cases h;exact P7
  ·cases h;exact KS
  ·cases h
end
section
variable {K:W.Frag}
def mn(P:Program)(w:World)(K:W.Frag)(mg:Str->Option Value)(base:Heap)(j:Nat)(l:List (Str×Nat×(List D->Option D))):Prop:=∀x n m,l.lookup x=some (n,m)->Gb P w K mg base j x n m
def iJ(mg:Str->Option Value)(l:List (Str×Int)):Prop:=∀x i,l.lookup x=some i->∃t,mg x=some (.int i t)
def R7:mn P w K mg base j []:=λ_ _ _ h=>by cases h
def QZ(F:Gb P w K mg base j x n m)(h:mn P w K mg base j l):mn P w K mg base j ((x,n,m)::l):=λy n' m' e=>by
 rw[yB] at e;cases q:y == x with
 | true=>rw[q] at e;cases e;rw[eq_of_beq q];exact F
 | false=>rw[q] at e;exact h y n' m' e
def SH:iJ mg []:=λ_ _ h=>by cases h
def GW(F:∃t,mg x=some (.int i t))(h:iJ mg l):iJ mg ((x,i)::l):=λy i' e=>by
 rw[yB] at e;cases q:y == x with
 | true=>rw[q] at e;cases e;rw[eq_of_beq q];exact F
 | false=>rw[q] at e;exact h y i' e
def MD{st:Stmt}(C:Bk X N (ai st) j)(B:Bn X)(hf:mn X.prog X.w X.K X.mg X.base j fs)(hi:iJ X.mg is)
  (t:qg (uN (ai st) N (tr ⟨fs,is⟩ 40 none (ai st) N) 40) (bx st)=some g):C7 X Uy Uz (bx st) g :=
 gY (λs g h=>se C B (DH (G:=⟨fs,is⟩) 40 C ⟨hf,hi,B⟩ (yN j) λq z=>by cases z) 40 h) t
def Ug{st:Stmt}(D:BN K mg x st ps)(S:b9 N ps (ai st))(B:∀x∈cL,mg x=none)(hf:mn P w K mg base j fs)(hi:iJ mg is)
  (t:qg (uN (ai st) N (tr ⟨fs,is⟩ 40 none (ai st) N) 40) (bx st)=some g):Gb P w K mg base (j+1) x ps.length (aV g N.length):=by
 let⟨f,fd,hm,F,hb⟩:=D.ex;exact Tt F S hb hm λX hP hw hK VP V8 C _ _ HF H=>by subst hP;subst hw;subst hK;subst VP;subst V8;exact MD C B hf hi t
def TR{st:Stmt}(D:OV K mg x st ps)(S:b9 N ps (ai st))(B:∀x∈cL,mg x=none)(hf:mn P w K mg base j fs)(hi:iJ mg is)
  (hq:x∈lg/\x++".<locals>."++"<lambda>"=q) (t:qg (uN (ai st) N (tr ⟨fs,is⟩ 40 (some q) (ai st) N) 40) (bx st)=some g):Gb P w K mg base (j+4) x ps.length (aV g N.length):=by
 let⟨f,fd,c,P',hm,F,hb,hc,hh⟩:=D.ex;refine Tt (k:=j+3) F S hb hm λX hP hw hK VP V8 C h1 h2 HF H=>?_;subst hP;subst hw;subst hK;subst VP;subst V8;have L:su X q:=by
  refine⟨c,P',by rw[h1,hc],by rw[h2];exact hq.2,hh,λHF tb=>?_⟩;let⟨oc,od,kV,doc,pm,an,UT,ct,Wx,rfl,lk,_⟩:=F.ex;have:=tb f oc od _ Wx c P' lk hq.1 hc hh;rw[<- hq.2];exact this
 exact gY (λs g h=>se C B (DH (G:=⟨fs,is⟩) (j:=j) 40 C ⟨hf,hi,B⟩ (jX _ _) λq' z=>by cases z;exact⟨L,yN _⟩) 40 h) t
end
abbrev tW(s:Stmt)(N:List Str)(S:Sg)(l:Option Str):Option GS:=qg (uN (ai s) N (tr S 40 l (ai s) N) 40) (bx s)
def RI(a:sc.kind=.function:=by rfl)(b:sc.isCoroutine=false:=by rfl)(c:sc.isGenerator=false:=by rfl)(d:N.Nodup:=by decide +kernel)(e:N.take P.length=P:=by rfl)(f:∀x∈P,sc.names.lookup x=some .local \/ sc.names.lookup x=some .cell:=by decide +kernel)(g:∀y∈sc.names,y.2≠.free:=by decide +kernel):b9 N P sc:=⟨a,b,c,d,e,f,g⟩
section
variable {K:W.Frag}
end
end Rf
namespace Ex
open PySem L2 PySem.Spec PyProof.Rows
variable {rest:List Stmt}
def uA(x:eH P w H h a o):∃ob,h.get? a=some ob:=by
 cases o with
 | lst xs=>let⟨_,_,_,_,e⟩:=x;exact⟨_,e⟩
 | tup xs=>let⟨_,_,_,⟨_,e,_⟩,_⟩:=x;exact⟨_,e⟩
 | dK U1=>let⟨_,_,_,_,o,_,_,e,_⟩:=x;exact⟨_,e⟩
 | dT U1=>let⟨_,_,_,_,o,_,_,e,_⟩:=x;exact⟨_,e⟩
 | set S n=>let⟨o,_,_,_,e,_⟩:=x;exact⟨_,e⟩
 | ins C dx fs=>let⟨_,_,_,e,_⟩:=x;exact⟨_,e⟩
 | own y=>let⟨_,e⟩:=x;exact⟨_,e⟩
 | xd fs=>let⟨_,⟨_,_,_,e,_⟩,_⟩:=x;exact⟨_,e⟩
 | rng lo hi=>let⟨_,_,_,e⟩:=x;exact⟨_,e⟩
 | Vh ob u=>let⟨e,_⟩:=x;exact⟨_,e⟩
 | tab q=>let⟨_,e,_⟩:=x;exact⟨_,e⟩
 | WR q=>let⟨_,_,_,_,e0,e,_⟩:=x;cases e0;exact⟨_,e⟩
 | met f y=>exact⟨_,(show h.get? a=some _ from x)⟩
 | ext φ=>let⟨_,⟨_,e⟩,_⟩:=x;exact⟨_,e⟩
structure FA(P:Program)(w:World)(l:List Env)(H:Hp)(s:Shared)(cls:Value)(ea:Addr)(H':Hp)(s':Shared):Prop where
 os:s'.os=s.os
 bare:AllBare s'.gens
 un:Un (iL l) [] H H' s.heap s'.heap
 UC:oI P w H' s'.heap
 fly:∃B a0,Heap.FlyingW B l ea cls a0 s'.heap/\∀b,b∉iL l->(H' b≠none\/∃o,s.heap.get? b=some o)->∃o,B.get? b=some o
def zr(P:Program)(w:World):Kk:=λl H s E e s'=>∃ea cls H',e=.ref ea/\FA P w l H s cls ea H' s'/\E cls none H'
section
variable {X:Cx}{pins:List (Addr×Obj)}{σ:L2.St}{H H':Hp}{s s':Shared}{cls:Value}{ea:Addr}
def Dg(I:Inv X pins σ H s)(hs:X.stack=X.env::X.outer)(hf:X.env.frame=some X.env.locals)(hex:X.ex=[])(Ye:s'.os=s.os)(hbr:AllBare s'.gens)(We:Un (iL X.stack) [] H H' s.heap s'.heap)(UC:oI X.prog X.w H' s'.heap)
  (VZ:B.StaysIn s'.heap) (hff:s'.heap.FunFrames B X.stack) (hB:∀b,b∉iL X.stack->(H' b≠none\/∃o,s.heap.get? b=some o)->∃o,B.get? b=some o) (x1:Heap.FlyingW B X.outer ea cls a0 h') (x2:s'.heap.UpToSlots h') :
  FA X.prog X.w X.outer X.Uz X.UG cls ea H' { s' with heap:=h' }:=by
 have nx:∀b:Addr,b∉X.ex:=λb=>by rw[hex];simp
 have fs:iL X.stack=X.env.locals::iL X.outer:=by rw[hs];unfold iL;rw[jI,hf]
 have Yc:∀b o,X.UG.heap.get? b=some o->b≠X.env.locals:=λb o e=>yS (zP (zY e) I.ok.above);have out:∀b o,X.UG.heap.get? b=some o->b∉iL X.outer->b∉iL X.stack:=λb o e hb z=>by
  rw[fs] at z;rcases List.mem_cons.mp z with z|z
  ·exact Yc b o e z
  ·exact hb z
 have Xm:∀b∈iL X.stack,H' b=none:=λb hb=>by
  let⟨_,o,ho,_⟩:=I.stack.mem hb;exact We.free b o ho (I.Vm b hb) (by simp)
 have J6:∀b u,H' b≠none->s'.heap.get? b=some u->h'.get? b=some u:=λb u hn e=>by
  let⟨o,eo⟩:=hB b (λz=>hn (Xm b z)) (.inl hn);have:=VZ b o eo;rw[e] at this;cases this;exact x1.1 b u eo
 have old:∀b o o2,b∉iL X.stack->s.heap.get? b=some o->s'.heap.get? b=some o2->h'.get? b=some o2:=λb o o2 hb e e2=>by
  let⟨o3,eo⟩:=hB b hb (.inr ⟨o,e⟩);have:=VZ b o3 eo;rw[e2] at this;cases this;exact x1.1 b o2 eo
 have inO:∀b,b∈iL X.outer->b∈iL X.stack:=λb hb=>by rw[fs];exact zC _ hb
 have Wq:∀b∈iL X.outer,∀o,s'.heap.get? b=some o->∃sl,h'.get? b=some { o with slots:=sl }:=λb hb o e=>by
  let⟨_,o2,e2,d2⟩:=hff.mem (inO b hb);rw[e] at e2;cases e2;exact x2 b o e d2
 refine⟨Ye.trans I.os,hbr,⟨λb o e n hb _=>?_,λb o e n hb _=>?_,λb o e n _=>?_,λb o e _=>?_,λb xs e=>We.Vs b xs (I.base.Vs b xs e),λb o u e=>We.Vk b o u (I.base.Vk b o u e),?_⟩,λa o e=>?_,B,a0,x1,λb hb hh=>?_⟩
 ·have e1:=I.base.keep b o e n hb (nx b);have n1:=I.base.free b o e n (nx b);have V8:=out b o e hb;exact old b o o V8 e1 (We.keep b o e1 n1 V8 (by simp))
 ·let⟨sl,e1⟩:=I.base.slot b o e n hb (nx b);have n1:=I.base.free b o e n (nx b);let⟨YG,e2⟩:=We.slot b _ e1 n1 (inO b hb) (by simp);let⟨sl3,e3⟩:=Wq b hb _ e2;exact⟨sl3,e3⟩
 ·let⟨o1,e1⟩:=I.base.there b o e (nx b);exact We.free b o1 e1 (I.base.free b o e n (nx b)) (by simp)
 ·let⟨o1,e1⟩:=I.base.there b o e (nx b);let⟨o2,e2⟩:=We.there b o1 e1 (by simp);by_cases hb:b∈iL X.outer
  ·let⟨sl,e3⟩:=Wq b hb o2 e2;exact⟨_,e3⟩
  ·exact⟨o2,old b o1 o2 (out b o e hb) e1 e2⟩
 ·exact I.base.Vc.trans (We.Vc.trans (.kept (λb u ⟨q,z⟩ e=>J6 b u (by rw[z];simp) e) λ_ _ e _=>e))
 ·refine (UC a o e).Vb (λb u hb q=>J6 b u ?_ q) (λ_ q=>q) λ_ _ q _=>q;rcases hb with rfl|z
  ·rw[e];simp
  ·rw[z];simp
 ·refine hB b (λz=>?_) (hh.imp id λ⟨o,e⟩=>I.base.there b o e (nx b));rw[fs] at z;rcases List.mem_cons.mp z with z|z
  ·subst z;rcases hh with hn|⟨o,e⟩
   ·exact hn (Xm _ (by rw[fs];exact zE))
   ·exact Yc _ o e rfl
  ·exact hb z
def Ri(hs:X.stack=X.env::X.outer)(hf:X.env.frame=some X.env.locals)(hex:X.ex=[])
  (YY:∀e s',wpAny (model X.prog X.w) X.A (leaving X.env e) (λ_ VG=>zr X.prog X.w X.outer X.Uz X.UG E' e VG) (λ_ _=>False) s'->X.xe e s') (hE:∀cls H',E cls none H'->E' cls none H'):eu (zr X.prog X.w) X E:=by
 intro pins σ H s e s' I h;let⟨ea,cls,H',rfl,F,hc⟩:=h;let⟨B,a0,Vv,hB⟩:=F.fly;refine YY _ _ ?_;refine wpAny_leaves_onW (base:=B) (a0:=a0) (cls:=cls) (by rw[I.ok.frames,hs]) hf (by rw[<- hs];exact Vv) λh' x1 x2=>⟨ea,cls,H',rfl,Dg I hs hf hex F.os F.bare F.un F.UC Vv.1 Vv.2.2.1 hB x1 x2,hE _ _ hc⟩
def BO(I:Inv X pins σ H s)(hs:X.stack=X.env::X.outer)(hf:X.env.frame=some X.env.locals)(hex:X.ex=[])
  (YY:∀e s',wpAny (model X.prog X.w) X.A (leaving X.env e) (λ_ VG=>zr X.prog X.w X.outer X.Uz X.UG E' e VG) (λ_ _=>False) s'->X.xe e s') (hm:Heap.MadeExcOf s.heap s'.heap ea cls args) (ho:s'.os=s.os) (hg:AllBare s'.gens) (hE:E' cls none H):X.xe (.ref ea) s':=by
 have fs:iL X.stack=X.env.locals::iL X.outer:=by rw[hs];unfold iL;rw[jI,hf]
 have abN:=I.stack;refine YY _ _ ?_;have Xj:∀env∈X.stack,∀b,env.frame=some b->b∈iL X.stack:=λenv he b hb=>List.mem_filterMap.mpr ⟨env,he,hb⟩;refine wpAny_leaves_madeW (base:=W.hideAll s.heap (iL X.stack)) (h:=s.heap) (cls:=cls) (args:=args) (by rw[I.ok.frames,hs]) hf (λb o q=>W.of_hideAll _ q) (by rw[<- hs];exact W.funFrames_hide abN Xj) hm λh' t x1 x2 x3 x4=>⟨ea,cls,H,rfl,?_,hE⟩
 refine Dg I hs hf hex ho hg (Un.kept hm.keeps) (I.UC.kept hm.keeps) (λb o q=>hm.keeps b o (W.of_hideAll _ q)) ((W.funFrames_hide abN Xj).of_keeps λb o q _=>⟨o,hm.keeps b o q,rfl⟩) (λb hb hh=>?_) x1 x4;have ⟨o,e⟩:∃o,s.heap.get? b=some o:=by
  rcases hh with hn|h
  ·let⟨u,hu⟩:=Option.ne_none_iff_exists'.mp hn;exact uA (I.UC b u hu)
  ·exact h
 exact⟨o,W.hideAll_get _ e hb⟩
end
abbrev Nc:List Value:=[.type "ValueError",.type "Exception",.type "BaseException",.type "object"]
def LW{K:W.Frag}(X:K.In h)(q:W.excIn K C Nc "ValueError.__new__"=true) :
  ∃bm N nm qn bs hd sn sub ab col dd k0 k1 k2 k3 k5 mN,h.get? C=some (excClassObj nm qn C N bs bm hd sn sub ab col dd k0 k1 k2 k3 k5 "ValueError.__new__")/\h.Ns N mN/\mN "__init__"=none/\OwnTail h Nc bm:=by
 unfold W.excIn at q;split at q
 ·rename_i dd cd sl ho;split at q
  ·rename_i C' bm k0 k1 k2 k3 n k5 hm WG;simp?[zF,vV,yQ] at q;obtain⟨⟨⟨⟨⟨rfl,rfl⟩,abO⟩,ht⟩,UC⟩,YZ⟩:=q;cases cd with
   | mk nm bs mro ns qn hd sn sub ab col del =>
    simp only at hm abO UC YZ;subst hm abO;cases sl with
    | mk l =>
     simp only at WG;subst WG;exact⟨bm,ns,nm,qn,bs,hd,sn,sub,ab,col,dd,k0,k1,k2,k3,k5,_,X _ _ ho,.of_isNs (W.isNs_of_in X UC),W.nsMap_none_of_in X UC YZ,W.tail_of_in X ht⟩
  ·cases q
 ·cases q
def GO(I:Inv X pins σ H s)(hc:X.calm=true)(hg:Gl X x)(hm:X.mg x=some (.ref C))(q:W.excIn X.K C Nc "ValueError.__new__"=true)
  (hs:X.stack=X.env::X.outer) (hf:X.env.frame=some X.env.locals) (hex:X.ex=[])
  (YY:∀e s',wpAny (model X.prog X.w) X.A (leaving X.env e) (λ_ VG=>zr X.prog X.w X.outer X.Uz X.UG E' e VG) (λ_ _=>False) s'->X.xe e s') (hE:E' (.ref C) none H) (Vi:(x == ("__debug__":Str))=false) :
  wpAny (model X.prog X.w) X.A (exec (.Raise (some (.Call (.Name x np) [.Constant (.str t) i p] [] cpos)) none pos) X.env) Q X.xe s:=by
 let⟨bm,N,nm,qn,bs,hd,sn,sub,ab,col,dd,k0,k1,k2,k3,k5,mN,hC,hN,YZ,T⟩:=LW I.V6 q;refine wpAny_Raise_call_subT (C:=C) (nm:=nm) (q:=qn) (N:=N) (bs:=bs) (bm:=bm) (hdct:=hd) (sn:=sn) (sub:=sub) (ab:=ab) (col:=col) (dd:=dd) (k0:=k0) (k1:=k1) (k2:=k2) (k3:=k3) (k5:=k5)
  F.excBase_ValueError (mN:=mN) (T.hasType F.excBase_ValueError.hasBase) (I.ok.hd hc) rfl YZ (me I hg hm ⟨rfl,?_⟩ Vi)
 refine Calls.evalArgs_plain (jL (Zi (k:=i) (pos:=p) (kN ⟨rfl,?_,hC,hN,T,λh' e hme=>?_⟩)))
 ·exact yD (show 1<=4000 by lia) (by decide)
 ·exact BO (s:={ s with toks:=s.toks+1 }) (I.tok _) hs hf hex YY hme rfl I.bare hE
open PySem L2 Dl PySem.Spec PyProof.Rows
def RU(K:W.Frag)(mg:Str->Option Value)(n:Nat)(xm:List D->Option Str):Sp:=λvs H _ E=>∃HF ds c C,aS HF H/\eS K HF/\ax K HF ds vs/\ds.length=n/\xm ds=some c/\mg c=some (.ref C)/\∀H' UA,bG HF H UA H'->E (.ref C) none H'
structure LA(P:Program)(w:World)(K:W.Frag)(mg:Str->Option Value)(base:Heap)(k:Nat)(x:Str)(n:Nat)(xm:List D->Option Str):Prop where
 ex:∃ (f:Addr) (fd:FuncData) (ps:List Str),nK P w K mg base (zr P w) k f fd ps (RU K mg n xm)/\mg x=some (.ref f)/\W.keepIn K (.ref f)=true/\Binds K fd ps []
def LA.mono{K:W.Frag}{xm:List D->Option Str}(F:LA P w K mg base k x n xm)(h:k<=j):LA P w K mg base j x n xm:=by
 let⟨f,fd,ps,a,b,c,d⟩:=F.ex;exact⟨f,fd,ps,a.mono h,b,c,d⟩
structure Xk(X:Cx)(E:XK):Prop where
 hs:X.stack=X.env::X.outer
 hf:X.env.frame=some X.env.locals
 hex:X.ex=[]
 YY:∀e s',wpAny (model X.prog X.w) X.A (leaving X.env e) (λ_ VG=>zr X.prog X.w X.outer X.Uz X.UG E e VG) (λ_ _=>False) s'->X.xe e s'
def Xk.pass(hx:Xk X E):eu (zr X.prog X.w) X E:=Ri hx.hs hx.hf hx.hex hx.YY λ_ _ h=>h
def TC(K:W.Frag)(mg:Str->Option Value)(E:XK)(xf:Dl.Env->Option Str):TE:=λσ H _=>∃HF ρ c C,aS HF H/\cM K HF ρ σ/\xf ρ=some c/\mg c=some (.ref C)/\∀H' UA,bG HF H UA H'->E (.ref C) none H'
def zq(X:Cx)(E:XK)(e:Expr)(xf:Dl.Env->Option Str):Prop:=PE X e (TC X.K X.mg E xf)
def tX(K:W.Frag)(mg:Str->Option Value)(Uy Uz:Hp)(E:XK)(xg:au->Option Str):TS:=λ_ σ H=>∃HF ρ c C,ki K Uy Uz HF H ρ σ/\xg ρ=some c/\mg c=some (.ref C)/\∀H' UA,bG Uy Uz UA H'->E (.ref C) none H'
def DX(X:Cx)(E:XK)(Uy Uz:Hp)(st:Stmt)(xg:au->Option Str):Prop:=PS X st (tX X.K X.mg Uy Uz E xg)
def F1(X:Cx)(E:XK)(Uy Uz:Hp)(st:List Stmt)(xg:au->Option Str):Prop:=za X st (tX X.K X.mg Uy Uz E xg)
def GC(h:PA X.UY es t):PA X es t:=λpos pins s σ H Q I hw =>
 xB (h pos pins s σ H Q (I.Ve _) hw) (λ_ _ ⟨v,H',I',r,q⟩=>⟨v,H',I'.UM,r,q⟩) λ_ _ z=>False.elim z
def Pc{st:Stmt}(h:PS X.UY st t):PS X st t:=λpins s σ H D I hw =>
 xB (h pins s σ H D (I.Ve _) hw) (λ_ _ q=>q.UM) λ_ _ z=>False.elim z
def sO(n:Nat)(xm:List D->Option Str)(fs:Dl.Env->Option (List D)):Dl.Env->Option Str:=λρ=>(fs ρ).bind λds=>if ds.length=n then xm ds else none
def Kv{xm:List D->Option Str}{p pos:Pos}(F:LA X.prog X.w X.K X.mg X.base k x n xm)(hr:ej k X.A)(hx:eu (zr X.prog X.w) X E)(hg:Gl X x)(ha:DA X.UY (e::es) fs)(Vi:(x == ("__debug__":Str))=false:=by decide)
  (he:starEach (e::es) X.env=(false,eval e X.env)::starEach es X.env:=by rfl) (U7:(backTo pos (starEach es X.env)).any (·.1)=false:=by rfl):zq X E (.Call (.Name x p) (e::es) [] pos) (sO n xm fs):=by
 let⟨f,fd,ps,ok,hm,hk,hb⟩:=F.ex;refine bb (DB (E:=E) ok hr hg hm hk hb .nil hx (GC ha) Vi he U7) λσ H Q ⟨HF,ρ,c,C,sm,eo,hf,hc,q⟩=>?_;let⟨ds,ZX,hf⟩:=bs hf;split at hf
 ·rename_i hl;exact⟨HF,ρ,ds,sm,eo,ZX,λvs H1 UB g1 r1=>⟨UB,ds,c,C,g1.fh,eo.tb.mono g1.ff,by rw[qH];exact r1,hl,hf,hc,λH' UA g=>q H' UA (g1.trans g)⟩⟩
 ·cases hf
def Rc(t:Dl.Env->Option Bool)(xa xb:Dl.Env->Option Str):Dl.Env->Option Str:=λρ=>(t ρ).bind λb=>if b=true then xa ρ else xb ρ
def Qh(hc:DT X.UY c t)(ha:zq X E a xa)(hb:zq X E b xb):zq X E (.IfExp c a b pos) (Rc t xa xb) :=
 bb (Ay (PT.UY hc) ha hb) λσ H Q ⟨HF,ρ,c,C,sm,eo,hf,hc,q⟩=>by
  let⟨b,h,hf⟩:=bs hf;refine⟨HF,ρ,b,sm,eo,h,λH' UA G=>?_⟩;cases b with
  | true=>exact uq ⟨UA,ρ,c,C,G.fh,eo.mono G.ff,hf,hc,λH2 UL G2=>q H2 UL (G.trans G2)⟩
  | false=>exact qd ⟨UA,ρ,c,C,G.fh,eo.mono G.ff,hf,hc,λH2 UL G2=>q H2 UL (G.trans G2)⟩
def Jf{K:W.Frag}{D:Ends}(h:tX K mg Uy Uz E (λρ=>xf (aG ρ)) D σ H):TC K mg E xf σ H Q:=by
 let⟨HF,ρ,c,C,S,hx,hc,q⟩:=h;exact⟨H,aG ρ,c,C,.refl _,S.all,hx,hc,λH' UA G=>q H' HF (S.step G.hh).gr⟩
def NQ(h:zq X E e xf)(hs:swapsWith e none pos.line X.env=pure false:=by rfl):DX X E Uy Uz (.Expr e pos) (λρ=>xf (aG ρ)):=cq (n6 h hs) λD σ H q=>Jf q
def NL(h:zq X E e xf):DX X E Uy Uz (.Return (some e) pos) (λρ=>xf (aG ρ)):=cq (BV h) λD σ H q=>Jf q
def rW{st:Stmt}(h:DX X E Uy Uz st xg):F1 X E Uy Uz (st::rest) xg:=λpins s σ H D I q=>by
 refine vP (ck (h pins s σ H ⟨λ_ _=>False,λ_ _=>False,λ_ _=>False,λ_ _=>False⟩ I q) λf s1 z=>?_);cases f with
 | next=>let⟨_,_,_,z⟩:=z;exact z.elim
 | brk=>let⟨_,_,_,z⟩:=z;exact z.elim
 | cont=>let⟨_,_,_,z⟩:=z;exact z.elim
 | ret u=>let⟨_,_,_,_,_,z⟩:=z;exact z.elim
def ya(g:au->Option Out)(xg:au->Option Str):au->Option Str:=λρ=>(g ρ).bind λo=>match o with|.nx ρ'=>xg ρ'|.rt _=>none
def AA{st:Stmt}(h:DS X.UY Uy Uz st g)(hr:F1 X E Uy Uz rest xg):F1 X E Uy Uz (st::rest) (ya g xg) :=
 qy (iP (Pc h) hr) λD σ H ⟨HF,ρ,c,C,S,hx,hc,q⟩=>by
  let⟨o,ho,hx⟩:=bs hx;cases o with
  | rt d=>cases hx
  | nx ρ'=>exact⟨HF,ρ,.nx ρ',S,ho,λσ' H' UA S' _=>⟨UA,ρ',c,C,S',hx,hc,q⟩⟩
def Jm(t:Dl.Env->Option Bool)(xa xb:au->Option Str):au->Option Str:=λρ=>(t (aG ρ)).bind λb=>if b=true then xa ρ else xb ρ
def QG(hc:DT X.UY c t)(ha:F1 X E Uy Uz a xa)(hb:F1 X E Uy Uz b xb):DX X E Uy Uz (.If c a b pos) (Jm t xa xb) :=
 cq (JK (PT.UY hc) ha hb) λD σ H ⟨HF,ρ,c,C,S,hx,hc,q⟩=>by
  let⟨b,h,hx⟩:=bs hx;refine⟨H,aG ρ,b,.refl _,S.all,h,λH' UA G=>?_⟩;cases b with
  | true=>exact uq ⟨HF,ρ,c,C,S.step G.hh,hx,hc,q⟩
  | false=>exact qd ⟨HF,ρ,c,C,S.step G.hh,hx,hc,q⟩
def Ho(hk:Xk X E)(hc:X.calm=true)(hg:Gl X x)(hm:X.mg x=some (.ref C))(q:W.excIn X.K C Nc "ValueError.__new__"=true)(Vi:(x == ("__debug__":Str))=false:=by decide) :
  DX X E Uy Uz (.Raise (some (.Call (.Name x np) [.Constant (.str t) i p] [] cpos)) none pos) (λ_=>some x):=λpins s σ H D I ⟨HF,ρ,c,C',S,hx,VF,z⟩=>by
 cases hx;rw[hm] at VF;cases VF;exact GO I hc hg hm q hk.hs hk.hf hk.hex hk.YY (z H HF S.gr) Vi
def kc(xg:au->Option Str)(n:Nat)(args:List D):Option Str:=xg (args.map Slot.val++List.replicate (n - args.length) .Ux)
def Ao{K:W.Frag}(sm:aS HF H)(tb:eS K HF)(rr:ax K HF ds vs):ki K HF H HF H (ds.map Slot.val++List.replicate (N.length - ds.length) .Ux) (L2.start N vs):=by
 refine⟨.refl sm,λi e h=>?_,λi es h=>?_,λi j es fs a h=>?_,?_,tb⟩
 ·have hi:i < ds.length:=by
   by_cases hi:i < ds.length
   ·exact hi
   ·rw[yU (by simpa using hi),yY] at h;split at h<;>cases h
  rw[yT (by simpa using hi),zO] at h;let⟨d',Yb,h⟩:=ah h;cases h;let⟨v,hv,rv⟩:=rr.getD Yb;refine⟨v,?_,rv⟩;unfold L2.start;rw[yT (by simpa [rr.length] using hi),zO,hv];rfl
 ·exfalso;by_cases hi:i < ds.length
  ·rw[yT (by simpa using hi),zO] at h;let⟨d',Yb,h⟩:=ah h;cases h
  ·rw[yU (by simpa using hi),yY] at h;split at h<;>cases h
 ·exfalso;by_cases hi:i < ds.length
  ·rw[yT (by simpa using hi),zO] at h;let⟨d',Yb,h⟩:=ah h;cases h
  ·rw[yU (by simpa using hi),yY] at h;split at h<;>cases h
 ·unfold L2.start;rw[zN,zN,zD,zD,xO,xO,rr.length];exact yN _
def fnX{K:W.Frag}{st:Stmt}(F:Hu K x qual st f fd)(S:b9 N ps (ai st))(hb:Binds K fd ps [])(hm:mg x=some (.ref f))
  (body:∀ (X:Cx) (E:XK),X.prog=P->X.w=w->X.K=K->X.mg=mg->X.base=base->Bk X.UY N (ai st) k->X.calm=true->Xk X E->∀Uy Uz,F1 X E Uy Uz (bx st) xg):LA P w K mg base (k+1) x ps.length (kc xg N.length):=by
 refine⟨f,fd,ps,?_,hm,F.kp,hb⟩;let⟨oc,od,kV,doc,pm,an,UT,ct,Wx,rfl,lk,Vd⟩:=F.ex;refine Gq lk Vd S (λvs H Q E ⟨HF,ds,c,C,h1,_,h2,h3,_⟩=>by rw[h2.length,h3]) λA outer s H vs Q E hr ⟨HF,ds,c,C,sm,tb,rr,hl,hd,hc,q⟩=>?_;refine⟨_,body (sD (zr P w) P w K mg base N qual (ai st) f UT A outer s H E) E rfl rfl rfl rfl rfl ⟨rfl,S.nd,λy kd hy=>.inl hy,rfl,λ_ _=>rfl,hr,rfl,S.kind⟩ rfl ⟨rfl,rfl,rfl,λe s' z=>xB z (λ_ _ h=>h) λ_ _ h=>h.elim⟩ HF H,?_⟩;exact⟨HF,_,c,C,Ao sm tb rr,hd,hc,q⟩
section
variable {X:Cx}{pins:List (Addr×Obj)}{σ:L2.St}{H H':Hp}{s s':Shared}{cls:Value}{ea:Addr}
def Jz(I:Inv X pins σ H s)(We:Un (iL X.stack) [] H H' s.heap s'.heap)(UC:oI X.prog X.w H' s'.heap)
  (VZ:B.StaysIn s'.heap) (hff:s'.heap.FunFrames B X.stack) (hB:∀b,b∉iL X.stack->(H' b≠none\/∃o,s.heap.get? b=some o)->∃o,B.get? b=some o) (x1:B.StaysIn h') (x2:s'.heap.UpToSlots h') :
  Un (iL X.stack) [] H H' s.heap h'/\oI X.prog X.w H' h':=by
 have Xm:∀b∈iL X.stack,H' b=none:=λb hb=>by
  let⟨_,o,ho,_⟩:=I.stack.mem hb;exact We.free b o ho (I.Vm b hb) (by simp)
 have J6:∀b u,H' b≠none->s'.heap.get? b=some u->h'.get? b=some u:=λb u hn e=>by
  let⟨o,eo⟩:=hB b (λz=>hn (Xm b z)) (.inl hn);have:=VZ b o eo;rw[e] at this;cases this;exact x1 b u eo
 have old:∀b o o2,b∉iL X.stack->s.heap.get? b=some o->s'.heap.get? b=some o2->h'.get? b=some o2:=λb o o2 hb e e2=>by
  let⟨o3,eo⟩:=hB b hb (.inr ⟨o,e⟩);have:=VZ b o3 eo;rw[e2] at this;cases this;exact x1 b o2 eo
 have Wq:∀b∈iL X.stack,∀o,s'.heap.get? b=some o->∃sl,h'.get? b=some { o with slots:=sl }:=λb hb o e=>by
  let⟨_,o2,e2,d2⟩:=hff.mem hb;rw[e] at e2;cases e2;exact x2 b o e d2
 refine⟨⟨λb o e n hb _=>?_,λb o e n hb _=>?_,λb o e n _=>We.free b o e n (by simp),λb o e _=>?_,We.Vs,We.Vk,?_⟩,λa o e=>?_⟩
 ·exact old b o o hb e (We.keep b o e n hb (by simp))
 ·let⟨YG,e2⟩:=We.slot b o e n hb (by simp);let⟨sl3,e3⟩:=Wq b hb _ e2;exact⟨sl3,e3⟩
 ·let⟨o2,e2⟩:=We.there b o e (by simp);by_cases hb:b∈iL X.stack
  ·let⟨sl,e3⟩:=Wq b hb o2 e2;exact⟨_,e3⟩
  ·exact⟨o2,old b o o2 hb e e2⟩
 ·exact We.Vc.trans (.kept (λb u ⟨q,z⟩ e=>J6 b u (by rw[z];simp) e) λ_ _ e _=>e)
 ·refine (UC a o e).Vb (λb u hb q=>J6 b u ?_ q) (λ_ q=>q) λ_ _ q _=>q;rcases hb with rfl|z
  ·rw[e];simp
  ·rw[z];simp
def FA.inv(I:Inv X pins σ H s)(F:FA X.prog X.w X.stack H s cls ea H' s'):Inv X pins σ H' s':=I.Xp F.os F.un F.UC F.bare (λb hb=>absurd hb (by simp))
def FA.Vb(I:Inv X pins σ H s)(F:FA X.prog X.w X.stack H s cls ea H' s')(Vv:Heap.FlyingW B X.stack ea cls a0 s'.heap)(hB:∀b,b∉iL X.stack->(H' b≠none\/∃o,s.heap.get? b=some o)->∃o,B.get? b=some o)
  (x1:Heap.FlyingW B X.stack ea cls a0 h') (x2:s'.heap.UpToSlots h'):FA X.prog X.w X.stack H s cls ea H' { s' with heap:=h' }:=by
 let⟨u,k⟩:=Jz I F.un F.UC Vv.1 Vv.2.2.1 hB x1.1 x2;exact⟨F.os,F.bare,u,k,B,a0,x1,hB⟩
def land{M:Model}{E:Value->Shared->Prop}{Q:Unit->Shared->Prop}(I:Inv X pins σ H s)(hs:X.stack=X.env::X.outer)(hf:X.env.frame=some X.env.locals)(F:FA X.prog X.w X.stack H s cls ea H' s')
  (k:∀h',FA X.prog X.w X.stack H s cls ea H' { s' with heap:=h' }->Q () { s' with heap:=h' }) :
  wpAny M X.A (noteFrame (.ref ea) X.env) (λ_ s2=>wpAny M X.A (setFlight (.ref ea) none) Q E s2) E s':=by
 let⟨B,a0,Vv,hB⟩:=F.fly;refine wpAny_looks_onW (base:=B) (a0:=a0) (cls:=cls) (by rw[I.ok.frames,hs]) hf (by rw[<- hs];exact Vv) λh4 hh x2=>?_;refine wpAny_landsW (s:={ s' with heap:=h4 }) hh λh5 y1 y2=>k h5 ?_;exact F.Vb I Vv hB (by rw[hs];exact y1) (x2.trans y2)
def again{M:Model}{A:Around}{E:Value->Shared->Prop}{Q:Unit->Shared->Prop}(I:Inv X pins σ H s)(F:FA X.prog X.w X.stack H s cls ea H' s')
  (k:∀h',FA X.prog X.w X.stack H s cls ea H' { s' with heap:=h' }->Q () { s' with heap:=h' }):wpAny M A (setFlight (.ref ea) none) Q E s':=by
 let⟨B,a0,Vv,hB⟩:=F.fly;exact lands_againW Vv λh5 y1 y2=>k h5 (F.Vb I Vv hB y1 y2)
end
abbrev jt(X:Cx)(A':Around):Cx:={ X with A:=A',calm:=false }
def rE(I:Inv X pins σ H s)(Xi:A'.frames=X.A.frames):Inv (jt X A') pins σ H s :=
 let ok:=I.ok
 ⟨⟨ok.mod,ok.kind,ok.glob,ok.blt,ok.above,ok.inj,ok.has,ok.ZR,λz=>(by cases z),Xi.trans ok.frames,ok.Xm,ok.exf,ok.bs,ok.Xn,ok.Wf,ok.Wu,ok.Vl,ok.X9⟩,I.os,I.bare,I.base,I.loc,I.cell,I.free,I.UH,I.pin,I.UC,I.len⟩
def Cr(ok:X.Ok)(I:Inv (jt X A') pins σ H s):Inv X pins σ H s:=⟨ok,I.os,I.bare,I.base,I.loc,I.cell,I.free,I.UH,I.pin,I.UC,I.len⟩
def BY{t':Nat}(I:Inv X pins σ H s)(hn:h'.Ns X.env.locals m')(hs:Heap.SameBut X.env.locals s.heap h'):Inv X pins (List.replicate X.N.length none) H { s with heap:=h',toks:=t' }:=by
 have Yc:∀b o,X.UG.heap.get? b=some o->b≠X.env.locals:=λb o e=>yS (zP (zY e) I.ok.above);have kp:∀b o,b≠X.env.locals->s.heap.get? b=some o->h'.get? b=some o:=λb o ne e=>(hs.2 b ne).trans e;have tr:∀b u,H b=some u->b≠X.env.locals:=λb u e z=>by rw[z,I.free] at e;cases e
 refine⟨I.ok,I.os,I.bare,⟨λb o e n hb hx=>kp b o (Yc b o e) (I.base.keep b o e n hb hx),λb o e n hb hx=>?_,I.base.free,λb o e hx=>?_,I.base.Vs,I.base.Vk,?_⟩,⟨m',hn,λi x v _ h2 _=>?_⟩,λx c e=>?_,I.free,I.UH,λp hp=>?_,λa o e=>?_,?_⟩
 ·let⟨sl,e1⟩:=I.base.slot b o e n hb hx;exact⟨sl,kp b _ (Yc b o e) e1⟩
 ·let⟨o',e1⟩:=I.base.there b o e hx;exact⟨o',kp b _ (Yc b o e) e1⟩
 ·exact I.base.Vc.trans (.kept (λb u ⟨q,z⟩ e=>kp b u (tr b _ z) e) λ_ _ e _=>e)
 ·rw[yY] at h2;split at h2<;>cases h2
 ·let⟨v,o,ho,hd⟩:=I.cell x c e;exact⟨v,o,kp c o (I.YD x c e) ho,hd⟩
 ·let⟨e,n,ne,r⟩:=I.pin p hp;exact⟨kp _ _ ne e,n,ne,r⟩
 ·refine (I.UC a o e).Vb (λb u hb q=>kp b u ?_ q) (λ_ q=>q) λ_ _ q _=>q;rcases hb with rfl|z
  ·exact tr b _ e
  ·exact tr b _ z
 ·simp
def ExcAt(l:List PySem.Env)(H:Hp)(h:Heap)(ea:Addr)(cls:Value):Prop:=(∃ob vs,h.get? ea=some ob/\ob.cls=cls/\ob.data=.fields vs)/\H ea=none/\ea∉iL l
def OD{rest:List ExceptHandler}{D:Ends}(I:Inv X pins σ H s)(F:FA X.prog X.w X.stack H s cls ea H' s')(hg:Gl X x)(hm:X.mg x=some (.ref C))(Vi:(x == ("__debug__":Str))=false)
  (hx:W.exmOne X.K cls (.ref C)=some true) (hN:X.N.Nodup) (hi:X.N[i]?=some n) (hl:X.env.kindOf n=some .local) (Wr:X.env.scope.names.lookup n=some .local) (Vp:X.env.cells.lookup n=none)
  (k:∀s2,Inv (jt X (X.A.mark (some (.ref ea)))) pins (σ.set i (some (.ref ea))) H' s2->ExcAt X.stack H' s2.heap ea cls ->
   wpAny (model X.prog X.w) (X.A.mark (some (.ref ea))) (execs (aap::XM) X.env) (λf s3=>∃u v σ' H3,f=.ret u/\Inv (jt X (X.A.mark (some (.ref ea)))) pins σ' H3 s3/\RelV v u/\D.rt v H3) (λ_ _=>False) s2) :
  wpAny (model X.prog X.w) X.A (handleBy (.ref ea) X.env (.ExceptHandler (some (.Name x np)) (some n) (aap::XM) pos::rest)) (SP X pins D) X.xe s':=by
 have Xi:(X.A.mark (some (.ref ea))).frames=X.A.frames:=rfl;have I1:=F.inv I;let⟨B,a0,Vv,hB⟩:=F.fly;let⟨ob,hob,aeL⟩:=Vv.there;refine wpAny_handleBy_cons (codeAny_handlers_test ?_) (by intro q;cases q);refine me (X:=jt X (X.A.mark (some (.ref ea)))) (rE I1 Xi) hg hm ?_ Vi;have LT:W.Looks (model X.prog X.w) s'.heap (typeOf (.ref ea)) cls:=λA Q E s2 k2 q=>wpAny_typeOf_ref (k2 _ _ hob) (by rw[aeL];exact q);refine (W.exm_one I1.V6 LT hx).here ?_;refine codeAny_handlers_suite_as ?_;refine again I F λh2 F2=>?_;let⟨B2,a2,aaq,hB2⟩:=F2.fly;let⟨oe,vs,T,oT,ts,he,⟨hec,_⟩,hed,_⟩:=aaq.2.2.2;refine o8 (X:=X) (i:=i) (v:=.ref ea) (F2.inv I) hN hi (.inl Wr) rfl (λs2 I2 hsb=>?_) (.inr Wr);let⟨a,hsb,ha⟩:=hsb;have hal:a=X.env.locals:=by
  rcases ha with h|h
  ·exact h
  ·rw[Vp] at h;cases h
 subst hal;have UN:ea≠X.env.locals:=λz=>by
  let⟨m,⟨o,es,ep,ho,hd,_⟩,_⟩:=(F2.inv I).loc;rw[<- z] at ho;have:oe=o:=by rw[he] at ho;exact xE ho
  rw[<- this,hed] at hd;cases hd
 have hnf:ea∉iL X.stack:=λz=>by
  let⟨_,o2,e2,d2⟩:=aaq.2.2.1.mem z;have:oe=o2:=by rw[he] at e2;exact xE e2
  exact d2 vs (this ▸ hed)
 have Yg:H' ea=none:=by
  cases q:H' ea with
  | none=>rfl
  | some u =>
   let⟨o,eo⟩:=hB2 ea hnf (.inl (by rw[q];simp));rw[aaq.2.1] at eo;cases eo
 refine xB (k s2 (rE I2 Xi) ⟨⟨oe,vs,(hsb.2 ea UN).trans he,hec,hed⟩,Yg,hnf⟩) (λf s3 hz=>?_) λ_ _ z=>z.elim;let⟨u,v,σ',H3,rfl,I3,r,d⟩:=hz;have I4:=Cr I1.ok I3;let⟨m3,hn3,_⟩:=id I4.loc;exact wpAny_nameGoes hl hn3 (by rw[I4.ok.kind];rfl) λh' m' V1 aeN=>⟨v,_,H3,BY I4 V1 aeN,r,d⟩
abbrev gQ(X:Cx)(pn:List (Addr×Obj))(xe:Value->Shared->Prop):Cx:={ X with pn:=pn,xe:=xe }
def HU(ok:X.Ok):(gQ X pn xe).Ok :=
 ⟨ok.mod,ok.kind,ok.glob,ok.blt,ok.above,ok.inj,ok.has,ok.ZR,ok.hd,ok.frames,ok.Xm,ok.exf,ok.bs,ok.Xn,ok.Wf,ok.Wu,ok.Vl,ok.X9⟩
def C9(I:Inv X pins σ H s)(h:∀p∈pn++pins',p∈X.pn++pins):Inv (gQ X pn xe) pins' σ H s :=
 ⟨HU I.ok,I.os,I.bare,I.base,I.loc,I.cell,I.free,I.UH,λp hp=>I.pin p (h p hp),I.UC,I.len⟩
def E5(ok:X.Ok)(I:Inv (gQ X pn xe) pins' σ H s)(h:∀p∈X.pn++pins,p∈pn++pins'):Inv X pins σ H s :=
 ⟨ok,I.os,I.bare,I.base,I.loc,I.cell,I.free,I.UH,λp hp=>I.pin p (h p hp),I.UC,I.len⟩
def C6(X:Cx)(i:Nat)(ss:List Stmt)(c:Str)(d:D):Prop:=∀ (pn pins:List (Addr×Obj)) (xe:Value->Shared->Prop) (σ:L2.St) (H:Hp) (s:Shared) (ea C:Addr),X.mg c=some (.ref C)->Inv (jt (gQ X pn xe) (X.A.mark (some (.ref ea)))) pins σ H s->σ[i]?=some (some (.ref ea)) ->
 ExcAt X.stack H s.heap ea (.ref C)->wpAny (model X.prog X.w) (X.A.mark (some (.ref ea))) (execs ss X.env) (λf s3=>∃u v σ' H3,f=.ret u/\Inv (jt (gQ X pn xe) (X.A.mark (some (.ref ea)))) pins σ' H3 s3/\RelV v u/\∀HF,aS HF H->∃U3,bG HF H U3 H3/\Rep X.K U3 d v) (λ_ _=>False) s
def zu(gb:au->Option Out)(xg:au->Option Str)(fin:Str->Option D):au->Option Out:=λρ=>match gb ρ with
 | some (.rt d)=>some (.rt d)
 | some (.nx _)=>none
 | none=>(xg ρ).bind λc=>(fin c).map Out.rt
def Pb{fin:Str->Option D}(hs:X.stack=X.env::X.outer)(hf:X.env.frame=some X.env.locals)
  (hg:Gl X x) (hm:X.mg x=some (.ref CF)) (Vi:(x == ("__debug__":Str))=false) (hN:X.N.Nodup) (hi:X.N[i]?=some n) (hl:X.env.kindOf n=some .local) (Wr:X.env.scope.names.lookup n=some .local) (Vp:X.env.cells.lookup n=none)
  (UC:C7 X.UY Uy Uz body gb) (hx:∀pn xe E,eu (zr X.prog X.w) (gQ X pn xe) E->F1 (gQ X pn xe) E Uy Uz body xg)
  (aeO:∀c d,fin c=some d->(∀C,X.mg c=some (.ref C)->W.exmOne X.K (.ref C) (.ref CF)=some true)/\(∃C,X.mg c=some (.ref C))/\C6 X i (aap::XM) c d) :
  DS X Uy Uz (.Try body [.ExceptHandler (some (.Name x np)) (some n) (aap::XM) Vg] [] [] pos) (zu gb xg fin):=by
 intro pins s σ H D I ⟨HF,ρ,o,S,hgo,q⟩;refine wpAny_Try_except ?_;unfold zu at hgo;split at hgo
 ·rename_i d hgb;cases hgo;refine xB (za.UY UC pins s σ H { D with nx:=λ_ _=>False,bk:=λ_ _=>False,ct:=λ_ _=>False } I ⟨HF,ρ,.rt d,S,hgb,q⟩ |> λ_=>UC pins s σ H { D with nx:=λ_ _=>False,bk:=λ_ _=>False,ct:=λ_ _=>False } (I.Ve _) ⟨HF,ρ,.rt d,S,hgb,q⟩) (λf s1 z=>?_) λ_ _ z=>z.elim;cases f with
  | next=>let⟨_,_,_,z⟩:=z;exact z.elim
  | brk=>let⟨_,_,_,z⟩:=z;exact z.elim
  | cont=>let⟨_,_,_,z⟩:=z;exact z.elim
  | ret u=>exact SP.UM (D:=D) z
 ·cases hgo
 ·let⟨c,hc,hgo⟩:=bs hgo;let⟨d,hd,rfl⟩:=ah hgo;let⟨hex,⟨C,hC⟩,hsu⟩:=aeO c d hd;have hxm:=hex C hC;let E1:XK:=λcls _ H'=>cls=.ref C/\∃UA,bG Uy Uz UA H';let xeT:Value->Shared->Prop:=λe s1=>∃pins' σ' Hc s0 ea H',e=.ref ea/\Inv (gQ X (X.pn++pins) X.xe) pins' σ' Hc s0/\FA X.prog X.w X.stack Hc s0 (.ref C) ea H' s1/\∃UA,bG Uy Uz UA H';have hp:eu (zr X.prog X.w) (gQ X (X.pn++pins) xeT) E1:=λpins' σ' Hc s0 e s1 Ic hcx=>by
   let⟨ea,cls,H',rfl,F,rfl,UA,G⟩:=hcx;exact⟨pins',σ',Hc,s0,ea,H',rfl,⟨HU I.ok,Ic.os,Ic.bare,Ic.base,Ic.loc,Ic.cell,Ic.free,Ic.UH,Ic.pin,Ic.UC,Ic.len⟩,F,UA,G⟩
  have hI:Inv (gQ X (X.pn++pins) xeT) [] σ H s:=C9 I λp hp=>by rw[qH] at hp;exact hp
  refine xB (hx _ _ E1 hp [] s σ H ⟨λ_ _=>False,λ_ _=>False,λ_ _=>False,λ_ _=>False⟩ hI ⟨HF,ρ,c,C,S,hc,hC,λH' UA G=>⟨rfl,UA,G⟩⟩) (λf s1 z=>?_) λe s1 z=>?_
  ·exfalso;cases f with
   | next=>let⟨_,_,_,z⟩:=z;exact z
   | brk=>let⟨_,_,_,z⟩:=z;exact z
   | cont=>let⟨_,_,_,z⟩:=z;exact z
   | ret u=>let⟨_,_,_,_,_,z⟩:=z;exact z
  ·let⟨pins',σ',Hc,s0,ea,H',rfl,Ic,F,UA,G⟩:=z;refine land (X:=gQ X (X.pn++pins) X.xe) Ic hs hf F λh' F'=>?_;refine ck (OD (X:=gQ X (X.pn++pins) X.xe) (D:=⟨λ_ _=>False,λv H3=>D.rt v H3,λ_ _=>False,λ_ _=>False⟩) Ic F' hg hm Vi hxm hN hi hl Wr Vp λs2 I2 hob=>?_) λf s3 z=>?_
   ·have hlen:i < σ'.length:=by rw[Ic.len];exact (List.getElem?_eq_some_iff.mp hi).1
    refine xB (hsu _ _ _ _ _ _ _ C hC I2 (by simp[hlen]) hob) (λf s3 z=>?_) λ_ _ z=>z;let⟨u,v,Ww,H3,rfl,I3,r,z⟩:=z;let⟨U3,g3,rp⟩:=z UA G.fh;exact⟨u,v,Ww,H3,rfl,I3,r,q v H3 U3 (G.trans g3) rp⟩
   ·cases f with
    | next=>let⟨_,_,_,z⟩:=z;exact z.elim
    | brk=>let⟨_,_,_,z⟩:=z;exact z.elim
    | cont=>let⟨_,_,_,z⟩:=z;exact z.elim
    | ret u =>
     let⟨v,Ww,H3,I3,r,z⟩:=z;exact⟨v,Ww,H3,E5 I.ok I3 λp hp=>qL _ hp,r,z⟩
structure DC(P:Program)(w:World)(K:W.Frag)(mg:Str->Option Value)(base:Heap)(k:Nat)(x c:Str)(d:D):Prop where
 ex:∃ (f:Addr) (fd:FuncData) (ps:List Str),mg x=some (.ref f)/\W.keepIn K (.ref f)=true/\Binds K fd ps []/\ps.length=1 /\
  ∀ (A:Around) (outer:List PySem.Env) (s:Shared) (H:Hp) (args:Args) (ea C:Addr),A.depth+3 * k+5 < recursionLimit->A.units+16 * k+200 < cLine->B5 P w K mg base A outer s H->BindsTo s fd args (ps.zip [.ref ea])->mg c=some (.ref C)->ExcAt outer H s.heap ea (.ref C) ->
   codeAny (model P w) A (.call (.ref f) args) (λr s'=>∃u,r=.ok (.ret u)/\CE outer P w H s (λv H'=>∀HF,aS HF H->∃UA,bG HF H UA H'/\Rep K UA d v) u s') s
def Fb(R:DC X.prog X.w X.K X.mg X.base k x c d)(hr:ej k X.A)(hg:Gl X x)(Vi:(x == ("__debug__":Str))=false)(hi:X.N[i]?=some n)(hl:X.env.kindOf n=some .local)(Wr:X.env.scope.names.lookup n=some .local)(Vq:(n == ("__debug__":Str))=false) :
  C6 X i [.Return (some (.Call (.Name x p) [.Name n pe] [] cpos)) pos] c d:=by
 let⟨f,fd,ps,hm,hk,hb,U7,run⟩:=R.ex;intro pn pins xe σ H s ea C hC I hσ hob;have ev:∀ {Q:Value->Shared->Prop},Q (.ref ea) s->wpAny (model X.prog X.w) (X.A.mark (some (.ref ea))) (eval (.Name n pe) X.env) Q (λ_ _=>False) s:=λ{Q} q=>by
  let⟨m,hn,hlo⟩:=I.loc;let⟨u,r,l⟩:=hlo i n (.ref ea) hi hσ (.inl Wr);have r:u=.ref ea:=r;subst r;rcases l with ⟨hk,hm⟩|⟨hk,_⟩
  ·exact Zb (wR I.ok.kind hk hn hm q) Vq
  ·have hk:X.env.kindOf n=some .cell\/X.env.kindOf n=some .free:=hk;rw[hl] at hk;rcases hk with hk|hk<;>cases hk
 have key:wpAny (model X.prog X.w) (X.A.mark (some (.ref ea))) (eval (.Call (.Name x p) [.Name n pe] [] cpos) X.env) (EP (jt (gQ X pn xe) (X.A.mark (some (.ref ea)))) pins σ (λv H'=>∀HF,aS HF H->∃UA,bG HF H UA H'/\Rep X.K UA d v)) (λ_ _=>False) s:=by
  refine jA (me I hg hm ?_ Vi);refine W.callWith_K (h₀:=X.base) I.ok.mod.XW hk (jL (ev (kN ⟨I.V6,?_⟩))) rfl rfl;refine vU (jU (run _ X.stack s H ⟨[.ref ea],[]⟩ ea C hr.dp hr.un I.aa1 (by have:=hb s [.ref ea] I.V6 (by simp[U7]);simpa using this) hC hob) λr s' hq=>?_);let⟨u,rfl,hq⟩:=hq;exact I.after hq
 refine vP (wpAny_Return_some (xB key (λu s3 z=>?_) λ_ _ z=>z));let⟨v,H3,I3,r,z⟩:=z;exact⟨u,v,σ,H3,rfl,I3,r,z⟩
open PySem PySem.W PySem.Spec PySem.Calls PyProof.Rows
section
variable {K:Frag}{x D:Addr}
def FF(X:K.In h)(ha:findIn K (.ref D) name=some (some a))(hg:specialIn K a "__get__"=some (some g))(ht:takesIn K a=some true):Looks M h (Builtin.ObjectAttr.find self (.ref D) name) (.bind g a):=by
 refine (looks_findIn X ha).andThen ?_;refine (show Looks M h (Builtin.ObjectAttr.getOf (some a)) (some g) from looks_specialIn X hg).andThen ?_;refine (show Looks M h (Builtin.ObjectAttr.dataDescriptor? (some a) (some g)) (some (g,a)) from (looks_takesIn X ht).andThen .now).andThen ?_;exact Looks.tag .now
def Hh(X:K.In s.heap)(L0:Looks (model prog w) s.heap (typeOf (.ref x)) (.ref D))(hm:mroIn K D (.type "object")=some true)
  (h:R (.ok (.ret (.ref D))) s):codeAny (model prog w) A (.call (.builtin "getset_descriptor.__get__") ⟨[.builtin "object.__class__",.ref x,tp],[]⟩) R s:=by
 have LI:Looks (model prog w) s.heap (isInstance (.ref x) (.type "object")) true:=L0.andThen (looks_mroIn X hm);let⟨hh,g,dr,t,os⟩:=s;refine wU KF.slot_gs.plain KF.entry_gs (KF.slot_gs.check _ _ _ _ _ _ _ _ KF.type_class (KF.args_gs _ _ _) ?_);unfold Builtin.«getset_descriptor.__get__» Builtin.Getset_descriptor.descrGet;rw[dga_obj];refine zV (zW ?_);unfold Builtin.Getset_descriptor.descrGetter Builtin.Getset_descriptor.descrCheckInstance Builtin.Getset_descriptor.descrNameAndClass;simp?[KF.owner_class]
 repeat lk
 refine⟨Zh _ (by decide +kernel),kK KF.entry_class ?_⟩;unfold Builtin.«object.__class__» shownTypeOf
 repeat lk
 exact h
def FW(X:K.In s.heap)(ho:s.heap.get? x=some ox)(Vp:ox.cls=.ref D)(hga:findIn K (.ref D) "__getattribute__"=some (some (.builtin "BaseException.__getattribute__")))(Yg:findIn K (.ref D) "__getattr__"=some none)
  (ha:findIn K (.ref D) "__class__"=some (some (.builtin "object.__class__"))) (hn:specialIn K (.builtin "object.__class__") "__get__"=some (some (.builtin "getset_descriptor.__get__"))) (htk:takesIn K (.builtin "object.__class__")=some true) (hm:mroIn K D (.type "object")=some true) (hb:subIn K (.ref D) (.type "BaseException")=some true)
  (h:Q (some (.ref D)) { s with toks:=s.toks+1 }):wpAny (model prog w) A (getAttr? (.ref x) "__class__") Q E s:=by
 let⟨hh,g,d,t,os⟩:=s;have L0:Looks (model prog w) hh (typeOf (.ref x)) (.ref D):=Vp ▸ (Looks.ld ho).andThen .now;have L1:=looks_findIn (M:=model prog w) X hga;have L2:=looks_findIn (M:=model prog w) X Yg;have LF:=FF (M:=model prog w) (self:=.ref x) X ha hn htk;have LI:Looks (model prog w) hh (isInstance (.ref x) (.type "BaseException")) true:=L0.andThen (looks_subIn X hb);unfold getAttr? getAttrBy? getAttrBy;refine zV (wpAny_mkText (zV (vB (xZ (zV (L0.at (zV (L1.at ?_))))))));have hx2:(Value.builtin "BaseException.__getattribute__" == Value.builtin "object.__getattribute__")=false:=by decide +kernel
 simp?[hx2,vG,yP,qS];unfold getAttrByItsOwn hookBefore;refine zV ?_;show wpAny _ _ (typeLookup (.ref D) "__getattr__") _ _ _;refine L2.at ?_;refine zV (vB (xZ ?_));show wpAny _ _ (boundAndCalled (.builtin "BaseException.__getattribute__") (.ref x) (.str "__class__" t)) _ _ _;unfold boundAndCalled;refine zV (wpAny_of_eq (F.attr_ValueError.ga.bind (.ref x)) ?_);refine vU (wU F.attr_ValueError.ga.plain F.entry_bexc_ga ?_);have hk:builtinKind "BaseException.__getattribute__"=some .slot:=by decide +kernel
 have aas:splitId "BaseException.__getattribute__"=some ("BaseException","__getattribute__"):=by decide +kernel
 simp?[checkBuiltinCall,hk,aas];refine zV (LI.at ?_);simp?[qA,yP,qS];have abQ:argsOk "BaseException.__getattribute__" ⟨[.ref x]++[.str (Str.ofString "__class__") t],[]⟩:=F.args_bexc_ga _ _;have body:∀ {P:Fin->Shared->Prop}{E':Value->Shared->Prop},P (.done (.ret (.ref D))) ⟨hh,g,d,t+1,os⟩->wpAny (model prog w) A.in1 (Builtin.«object.__getattribute__» ⟨[.ref x]++[.str (Str.ofString "__class__") t],[]⟩) P E' ⟨hh,g,d,t+1,os⟩:=λ{P E'} q=>by
  unfold Builtin.«object.__getattribute__»;refine zV (zW ?_);refine zV (zW ?_);refine zV (L0.at ?_);refine zV (LF.at ?_);show wpAny _ _ (holding [.builtin "object.__class__"] (call (.builtin "getset_descriptor.__get__") [.builtin "object.__class__",.ref x,.ref D]) >>= ret) _ _ _;exact zV (xZ (vU (Hh (s:=⟨hh,g,d,t+1,os⟩) X L0 hm (zW q))))
 cases aeQ:Manifest.signature? "BaseException.__getattribute__" with
 | none=>exact zW (body (handed_on rfl (zW h)))
 | some sig =>
  have ha':Bind.checkArgs "BaseException.__getattribute__" sig ⟨[.ref x]++[.str (Str.ofString "__class__") t],[]⟩=pure ():=by simpa only[argsOk,aeQ] using abQ
  simp?[ha'];exact zW (body (handed_on rfl (zW h)))
structure Lk(K:Frag)(C:Addr):Prop where
 ga:findIn K (.ref C) "__getattribute__"=some (some (.builtin "BaseException.__getattribute__"))
 no:findIn K (.ref C) "__getattr__"=some none
 cl:findIn K (.ref C) "__class__"=some (some (.builtin "object.__class__"))
 hn:specialIn K (.builtin "object.__class__") "__get__"=some (some (.builtin "getset_descriptor.__get__"))
 tk:takesIn K (.builtin "object.__class__")=some true
 ob:mroIn K C (.type "object")=some true
 be:subIn K (.ref C) (.type "BaseException")=some true
 ci:(clsIn K C).isSome=true
def Hr(k:Lk K D):KitX K (.ref x) (.ref D) (λh=>h.get? x=some ox/\ox.cls=.ref D) where
 ty:=λ_ _ _ p=>p.2 ▸ (Looks.ld p.1).andThen .now
 it:=λ_ _ X _=>by
  have hc:=k.ci;unfold clsIn at hc;split at hc
  ·rename_i ho;intro A' Q' E' s' kp q;unfold isType loadHead;exact zV (wpAny_loadPart (kp _ _ (X _ _ ho)) (zW q))
  ·cases hc
 ne:=λh tp dd its n sl X htp=>by
  have hc:=k.ci;refine Bool.eq_false_iff.mpr λq=>?_;have e:D=tp:=Value.ref.inj (beq_iff_eq.mp q);subst e;unfold clsIn at hc;split at hc
  ·rename_i ho;have z:=(X _ _ ho).symm.trans htp;cases z
  ·cases hc
 ca:=λX p q=>FW X p.1 p.2 k.ga k.no k.cl k.hn k.tk k.ob k.be q
def CI(k:Lk K D)(X:K.In s.heap)(ho:s.heap.get? x=some ox)(hc:ox.cls=.ref D)(e:kitOne K (.ref D) c=some b)(h:∀tk,Q (.bool b) { s with toks:=tk }) :
  wpAny (model prog w) A (call (.builtin "isinstance") [.ref x,c]) Q E s:=kia_one (Hr k) X ⟨ho,hc⟩ e (λz=>nomatch z) h
end
abbrev BF(A:Around):Around:={ A with handled:=none }
abbrev DL(P:Program)(w:World)(K:W.Frag)(mg:Str->Option Value)(base:Heap)(N:List Str)(qual:Str)(scope:Scope)(f:Addr)(UT:Value)(A:Around)(outer:List PySem.Env)(s:Shared)(H:Hp)(pn:List (Addr×Obj)):Cx :=
 gQ (jt (sD HC P w K mg base N qual scope f UT (BF A) outer s H E0) (A.deeper (envOfC qual scope s.heap.objs.size f UT))) pn λ_ _=>False
section
variable {K:W.Frag}
def FO{C:Addr}{st:Stmt}(F:Hu K x qual st f fd)(S:b9 N ps (ai st))(h1:ps.length=1)
  (hdp:A.depth < recursionLimit) (e0:B5 P w K mg base A outer s H) (hb:BindsTo s fd args (ps.zip [.ref ea])) (ho:s.heap.get? ea=some ob) (hd:ob.data=.fields vs) (hn:H ea=none) (hf:ea∉iL outer)
  (body:∀ (UT:Value) (s1:Shared),Inv (DL P w K mg base N qual (ai st) f UT A outer s H [(ea,ob)]) [] (L2.start N [.ref ea]) H s1 ->
   wpAny (model P w) (A.deeper (envOfC qual (ai st) s.heap.objs.size f UT)) (execs (bx st) (envOfC qual (ai st) s.heap.objs.size f UT)) (λfl s'=>∃u v σ' H',fl=.ret u/\Inv (DL P w K mg base N qual (ai st) f UT A outer s H [(ea,ob)]) [] σ' H' s'/\RelV v u/\Q v H') (λ_ _=>False) s1) :
  codeAny (model P w) A (.call (.ref f) args) (λr s'=>∃u,r=.ok (.ret u)/\CE outer P w H s Q u s') s:=by
 let⟨oc,od,kV,doc,pm,an,UT,ct,Wx,rfl,lk,Vd⟩:=F.ex;have KX:K.In s.heap:=e0.mod.XW.keeps λb o e=>(e0.bs b o e).1;have lim:s.heap.NoLimit:=e0.mod.nolimit.keeps λb o e=>(e0.bs b o e).1;have Xr:∀y∈ps.zip [Value.ref ea],(ai st).names.lookup y.1=some .local \/ ((ai st).names.lookup y.1=some .cell/\((cellsFrom (s.heap.objs.size+1) (ai st).names []).lookup y.1).isSome=true):=λ⟨n,v⟩ hy=>by
  rcases S.par n (wG hy).1 with q|q
  ·exact .inl q
  ·exact .inr ⟨q,W.cellsFrom_some _ _ _ (.inl q)⟩
 refine codeAny_call_function hdp (KX _ _ lk) rfl S.co S.gen rfl (W.codeRec_of KX Vd) (hb _ _ _ _ ?_);refine wpAny_newFunctionEnv_cells S.kind Xr λenv he s1 x=>?_;subst he;refine⟨lim.keeps x.toInCall.keep,codeAny_func ?_⟩;have e0':B5 P w K mg base (BF A) outer s H:=⟨e0.frames,e0.mod,e0.bs,e0.Xn,e0.Vl,e0.X9,e0.UC,e0.bare⟩
 have I0:Inv (sD HC P w K mg base N qual (ai st) f UT (BF A) outer s H E0) [] (L2.start N [.ref ea]) H s1:=uU S rfl e0' (by simp[h1]) (.cons rfl .nil) x;have UQ:ea < s.heap.objs.size:=zY ho;have I1:=I0.V7 (pins':=[(ea,ob)]) λp hp=>by
  have hp:p=(ea,ob):=by simpa using hp
  subst hp;exact⟨x.toInCall.keep _ _ ho,hn,yS UQ,hf,λv z=>by rw[hd] at z;cases z⟩
 have I2:Inv (DL P w K mg base N qual (ai st) f UT A outer s H [(ea,ob)]) [] (L2.start N [.ref ea]) H s1:=C9 (rE I1 rfl) λp hp=>yE _ (by simpa using hp);refine xB (body UT s1 I2) (λfl s' z=>?_) λ_ _ z=>z.elim;let⟨u,v,σ',H',rfl,J,r,q⟩:=z;exact⟨u,rfl,v,H',J.os,J.bare,J.base,J.UC,r,q⟩
end
def OI{i:Nat}{n y:Str}{ea C:Addr}{ob:Obj}{c:Value}{b:Bool}{p p1 p2 pos:Pos}(k:Lk X.K C)(Xl:(ea,ob)∈X.pn)(Wg:ob.cls=.ref C)(hgi:Gl X "isinstance")(Xd:X.mg "isinstance"=none)(hi:X.N[i]?=some n)(hl:X.env.kindOf n=some .local)(Wr:X.env.scope.names.lookup n=some .local)(Vq:(n == ("__debug__":Str))=false)
  (hy:∀ {pins:List (Addr×Obj)}{σ:L2.St}{H:Hp}{s:Shared}{Q:Value->Shared->Prop},Inv X pins σ H s->Q c s->wpAny (model X.prog X.w) X.A (eval (.Name y p2) X.env) Q X.xe s) (e:W.kitOne X.K (.ref C) c=some b) :
  PE X (.Call (.Name "isinstance" p) [.Name n p1,.Name y p2] [] pos) (λσ H Q=>σ[i]?=some (some (.ref ea))/\Q (.bl b) H):=by
 intro pins s σ H Q I ⟨hσ,q⟩;have ev:∀ {Q:Value->Shared->Prop},Q (.ref ea) s->wpAny (model X.prog X.w) X.A (eval (.Name n p1) X.env) Q X.xe s:=λ{Q} q=>by
  let⟨m,hn,hlo⟩:=I.loc;let⟨u,r,l⟩:=hlo i n (.ref ea) hi hσ (.inl Wr);have r:u=.ref ea:=r;subst r;rcases l with ⟨hk,hm⟩|⟨hk,_⟩
  ·exact Zb (wR I.ok.kind hk hn hm q) Vq
  ·have hk:X.env.kindOf n=some .cell\/X.env.kindOf n=some .free:=hk;rw[hl] at hk;rcases hk with hk|hk<;>cases hk
 have ho:=(I.pin (ea,ob) (qL _ Xl)).1;refine jA (fZ I hgi Xd (u:=.builtin "isinstance") (by decide +kernel) ?_);refine PyProof.Rows.callWith_builtin1 (jL (ev (jL (hy I (kN ?_))))) rfl rfl;exact CI k I.V6 ho Wg e λtk=>⟨.bl b,H,I.tok tk,rfl,q⟩
def IP(d:D)(xs:List D):Nat:=xs.countP λx=>PyData.eqv x d
def Fm(hu:X.A.units+66 < cLine):Pu X "list.count" (λx vs H Q=>∃ (HF:Hp) (ds:List D) (d:D) (y:V),aS HF H/\Rep X.K HF (.list ds) x/\vs=[y]/\Rep X.K HF d y/\SeqAt.shaped d=true/\SeqAt.shaped (.list ds)=true/\Q (.int (IP d ds)) H):=by
 intro pins s σ H x vs v us Q I rx rv h;let⟨HF,ds,d,y,sm,r1,rfl,r2,hd,hl,q⟩:=h;let⟨u,rfl,ru⟩:=rv.one;let⟨as,ra⟩:=eh I sm r1 rx;let⟨bs,rb⟩:=eh I sm r2 ru;have c1:=kO hd;have c2:=kO hl;have d1:=SeqAt.depth_of_shaped hd;simp?[PyData.canLay0] at c2;have m:=Nat.min_le_right (PyData.depthAll ds) d.depth;cases ra with
 | list h1 h2 h3 h4 =>
  rename_i l o its n as;let⟨cls,dd,data,sl⟩:=o;simp only at h2 h3;subst h2 h3;have hm:=SeqAt.readsAll_map _ _ _ c2 h4;refine qZ F.slot_list_count ⟨_,h1,rfl⟩ F.entry_list_count (F.args_list_count_2 _ _) (PySem.SeqAt.list_countAt l its n dd sl u (λy=>PyData.eqv (SeqAt.readOf s.heap y) d)) ⟨h1,?_,?_⟩
  ·exact SeqAt.items_eqAt h4 rb c2 c1 (by lia)
  ·refine⟨.int (IP d ds),H,I.tok _,⟨s.toks,?_⟩,q⟩;rw[IP,<- hm,List.countP_map];rfl
def l8(X:Cx)(ea:Addr)(es:List Expr)(bs:List Bool):Prop:=PA X es (λσ H Q=>σ[0]?=some (some (.ref ea))/\Q (bs.map V.bl) H)
def Oy:l8 X ea [] []:=λpos pins s σ H Q I ⟨_,q⟩=>dB pos pins s σ H Q I q
def Mq{bs:List Bool}(h:PE X e (λσ H Q=>σ[0]?=some (some (.ref ea))/\Q (.bl b) H))(hr:l8 X ea es bs)(hs:starEach (e::es) X.env=(false,eval e X.env)::starEach es X.env:=by rfl):l8 X ea (e::es) (b::bs) :=
 xc (bO h hr hs) λσ H Q ⟨h0,q⟩=>⟨h0,h0,q⟩
def eZ{K:W.Frag}:∀bs:List Bool,ax K H (bs.map PyData.bool) (bs.map V.bl)
 | []=>rfl
 | b::bs=>⟨_,_,rfl,rfl,eZ bs⟩
def nA(bs:List Bool):SeqAt.shaped (.list (bs.map PyData.bool))=true:=by
 have h:∀bs:List Bool,PyData.canLayAll0 (bs.map PyData.bool)=true/\PyData.depthAll (bs.map PyData.bool)<=1:=λbs=>by
  induction bs with
  | nil=>exact⟨by simp[PyData.canLayAll0],by simp[PyData.depthAll]⟩
  | cons b bs ih=>exact⟨by simp[PyData.canLayAll0,PyData.canLay0,ih.1],by simp[PyData.depthAll,PyData.depth];lia⟩
 have:=h bs;unfold SeqAt.shaped;rw[zF];exact⟨by simp[PyData.canLay0,this.1],by simp[PyData.depth];lia⟩
def IG{a1 a2 a3 b6:Pos}(hu:X.A.units+66 < cLine)(hN:X.N=[("_law_e":Str),("_law_flags":Str)])(hl:X.env.scope.names.lookup ("_law_flags":Str)=some .local)
  (h1:l8 X ea es1 X5) (h2:l8 X ea es2 Yu) (h6:PE X e6 (λσ H Q=>σ[0]?=some (some (.ref ea))/\Q (.bl true) H)) (w6:∀whole,isTrue e6 X.env whole=(do let v <- whole;standAt e6.pos;holding [v] (truthy v)))
  (hc:IP (.bool true) ((X5++Yu).map PyData.bool)=1) (hj:ug (.bool true) ((X5++Yu).map PyData.bool)=some j) (hz:X5.length+Yu.length<=sizeLine) (l1:(c2.endLine == c4.line)=true) (l2:(d2.endLine == d4.line)=true) :
  za X [.Assign [.Name "_law_flags" a1] (.List es1 a2) a3,.Assign [.Name "_law_flags" b1] (.BinOp (.Name "_law_flags" b2) .Add (.List es2 b3) b4) b5,
   .If (.BoolOp .Or [.Compare (.Call (.Attribute (.Name "_law_flags" c1) "count" c2) [.Constant (.bool true) i1 c3] [] c4) [.NotEq] [.Constant (.int 1) i2 c5] c6,.UnaryOp .Not e6 c7] c8) bad [] c9,
   .Return (some (.Tuple [.Constant (.str "refused") i3 d1,.Call (.Attribute (.Name "_law_flags" d3) "index" d2) [.Constant (.bool true) i4 d5] [] d4] k1 d6)) d7]
   (λD σ H=>σ.length=2/\σ[0]?=some (some (.ref ea))/\∀v H',(∀HF,aS HF H->∃UA,bG HF H UA H'/\Rep X.K UA (.tuple [.str "refused",.int j]) v)->D.rt v H'):=by
 have Vq:X.N.Nodup:=by rw[hN];decide
 have hi:X.N[1]?=some ("_law_flags":Str):=by rw[hN];rfl
 have hlc:Loc X.env.scope ("_law_flags":Str):=.inl hl;have hv:Kr X.env.scope ("_law_flags":Str):=.inl hl;have aeT:za X bad (λ_ _ _=>False):=λ_ _ _ _ _ _ z=>z.elim;have p1:=tv (pos':=a1) (pos:=a3) Vq hi hlc (zd (pos:=a2) h1) rfl (.inr hl);have p2:=tv (pos':=b1) (pos:=b5) Vq hi hlc (C0 (pos:=b4) tQ (ll (pos:=b2) hi hv) (zd (pos:=b3) h2)) rfl (.inr hl);have p3:=JK (pos:=c9) (PW.pt (MR (pos:=c8) (DQ (pos:=c6) Rl (sZ (apos:=c2) (cpos:=c4) qQ PySem.F.slot_list_count PySem.F.type_list_count (Fm hu) (ll (pos:=c1) hi hv) (bO (IJ (b:=true) (j:=i1) (pos:=c3)) dB) rfl rfl l1) (JL (i:=1) (j:=i2) (pos:=c5)) (Bj _ (by decide) (by decide))) (HS (pos:=c8) (G8 (pos:=c7) (Jr h6 w6))))) aeT wk;have p4:=BV (pos:=d7) (GZ (x1:=k1) (pos:=d6) (bO (Ij (x:="refused") (j:=i3) (pos:=d1)) (bO (sZ (apos:=d2) (cpos:=d4) qQ PySem.F.slot_list_index PySem.F.type_list_index (FJ hu) (ll (pos:=d3) hi hv) (bO (IJ (b:=true) (j:=i4) (pos:=d5)) dB) rfl rfl l2) dB)));refine qy (iP p1 (iP p2 (iP p3 (iP p4 wk)))) λD σ H ⟨hlen,h0,q⟩=>?_;refine⟨h0,by rw[zD];lia,λp hp=>?_⟩;have s1:∀v:V,(σ.set 1 (some v))[1]?=some (some v):=λv=>by simp[hlen]
 have s0:∀v:V,(σ.set 1 (some v))[0]?=some (some (.ref ea)):=λv=>by simp[h0]
 refine⟨.ref p,s1 _,s0 _,by rw[zD];lia,λp2 hp2=>⟨p,p2,X5.map V.bl,Yu.map V.bl,rfl,rfl,.inl (.inl ?_),.inl (.inl aH),by rw[zD,zD];exact hz,λp3 hp3=>?_⟩⟩
 ·rw[aD (λz=>by rw[z] at hp2 ;rw[aH] at hp2;cases hp2)];exact aH
 have t1:∀v w:V,((σ.set 1 (some w)).set 1 (some v))[1]?=some (some v):=λv w=>by simp[hlen]
 have t0:∀v w:V,((σ.set 1 (some w)).set 1 (some v))[0]?=some (some (.ref ea)):=λv w=>by simp[h0]
 let H3:Hp:=upd (upd (upd H p (.lst (X5.map V.bl))) p2 (.lst (Yu.map V.bl))) p3 (.lst (X5.map V.bl++Yu.map V.bl));have hsm:aS H H3:=λb o e=>by
  have n1:b≠p:=λz=>by rw[z,hp] at e;cases e
  have e1:upd H p (.lst (X5.map V.bl)) b=some o:=by rw[aD n1];exact e
  have n2:b≠p2:=λz=>by rw[z,hp2] at e1;cases e1
  have e2:upd (upd H p (.lst (X5.map V.bl))) p2 (.lst (Yu.map V.bl)) b=some o:=by rw[aD n2];exact e1
  have n3:b≠p3:=λz=>by rw[z,hp3] at e2;cases e2
  show upd _ p3 _ b=some o;rw[aD n3];exact e2
 have hls:iM X.K H3 p3 ((X5++Yu).map V.bl):=by
  rw[jC];exact .inl (.inl aH)
 have hrp:Rep X.K H3 (.list ((X5++Yu).map PyData.bool)) (.ref p3):=⟨p3,_,rfl,hls,eZ _⟩
 have VZ:SeqAt.shaped (.bool true)=true:=by decide
 refine⟨.ref p3,t1 _ _,.inl ⟨rfl,_,hls⟩,H3,_,.bool true,.bl true,.refl _,hrp,rfl,rfl,VZ,nA _,?_⟩;rw[hc];refine⟨rfl,?_⟩;refine⟨false,rfl,?_⟩;refine qd ?_;refine⟨t0 _ _,true,rfl,?_⟩;refine qd ?_;refine⟨.ref p3,t1 _ _,.inl ⟨rfl,_,hls⟩,H3,_,.bool true,.bl true,j,.refl _,hrp,rfl,rfl,VZ,nA _,by rw[zD,zN];exact hz,hj,(show 2<=sizeLine by decide),λp4 hp4=>?_⟩;have hp4:H3 p4=none:=hp4;refine q (.ref p4) _ λHF sm=>⟨upd HF p4 (.tup [.str "refused",.int j]),⟨λb o e=>?_,λb o e=>?_,λb o e=>?_,λb o e=>?_⟩,p4,_,rfl,.inl (.inl aH),?_⟩
 ·have e3:=hsm b o e;rw[aD (λz=>by rw[z,hp4] at e3;cases e3)];exact e3
 ·have e3:=hsm b o (sm b o e);rw[aD (λz=>by rw[z,hp4] at e3;cases e3)];exact e
 ·by_cases z:b=p4
  ·subst z;rw[aH] at e ⊢;exact e
  ·rw[aD z] at e ⊢;exact hsm b o (sm b o e)
 ·by_cases z:b=p4
  ·subst z;refine .inr ?_;cases w:H b with
   | none=>rfl
   | some u=>have:=hsm b u w;rw[hp4] at this;cases this
  ·rw[aD z] at e;exact .inl e
 ·exact⟨_,_,rfl,rfl,_,_,rfl,rfl,rfl⟩
open PySem L2 Dl PySem.Spec PyProof.Rows Rf
abbrev XE:=Dl.Env->Option Str
abbrev XS:=au->Option Str
abbrev XT:=List (Str×Nat×(List D->Option Str))
def Mg:XE:=λ_=>none
def mX:XS:=λ_=>none
def iH(x:XE):XS:=λρ=>x (aG ρ)
def PR(c:Str):XS:=λ_=>some c
def gg(xh:XS)(g:GS)(xr:XS):XS:=λρ=>match xh ρ with
 | some c=>some c
 | none=>ya g xr ρ
def rR(P:Program)(w:World)(K:W.Frag)(mg:Str->Option Value)(base:Heap)(j:Nat)(l:XT):Prop:=∀x n m,l.lookup x=some (n,m)->LA P w K mg base j x n m
def R4(fx:XT)(sc:Scope)(T:Tr)(x:Str)(a:Expr)(as:List Expr):Option XE:=match fx.lookup x with
 | some (m,xm)=>if (tI sc x&&((a::as).all λe=>!isStar e)&&!(x == ("__debug__":Str)))=true then (uR T (a::as)).map λfs=>sO m xm fs else none
 | none=>none
def Jw(hl:zq X E a xf)(hm:behindInMarks op b=false):zq X E (.Compare a [op] [b] pos) xf:=λpins s σ H Q I h=>wpAny_Compare1 (ck (hl pins s σ H (λ_ _=>False) I h) λu s1 ⟨_,_,_,_,z⟩=>z.elim) hm
def og(n:Nat)(xms:List (List D->Option Str))(fk:Dl.Env->Option D)(fs:Dl.Env->Option (List D)):XE:=λρ=>(fk ρ).bind λkd=>(fs ρ).bind λds=>if ds.length=n then (match kd with
 | .int k=>if 0<=k then (xms[k.toNat]?).bind λm=>m ds else none
 | _=>none) else none
def Tq(X:Cx)(k n:Nat)(f:Addr)(m:List D->Option Str):Prop:=∃ (fd:FuncData) (ps:List Str),nK X.prog X.w X.K X.mg X.base (zr X.prog X.w) k f fd ps (RU X.K X.mg n m)/\W.keepIn X.K (.ref f)=true/\Binds X.K fd ps []
def Ib{ns:List Expr}{xms:List (List D->Option Str)}{vs:List V}(hN:FG X (Tq X k n) ns xms vs)(hz:ns.length<=1000)(hr:ej k X.A)(hx:eu (zr X.prog X.w) X E)(hk:DE X.UY b fk)(ha:DA X.UY (e::es) fs)(hs:l5 b)
  (he:starEach (e::es) X.env=(false,eval e X.env)::starEach es X.env) (U7:(backTo pos (starEach es X.env)).any (·.1)=false)
  (ht:eval (.Call (.Subscript (.List ns p2) b p3) (e::es) [] pos) X.env=(do callWith pos (<- eval (.Subscript (.List ns p2) b p3) X.env) [] (backTo pos (starEach (e::es) X.env)) (backToKw pos (keywordEach [] X.env))):=by rfl) :
  zq X E (.Call (.Subscript (.List ns p2) b p3) (e::es) [] pos) (og n xms fk fs):=by
 intro pins s σ H Q I ⟨HF,ρ,c,C,sm,eo,hf,hC,q⟩;let⟨kd,h1,hf⟩:=bs hf;let⟨ds,h2,hf⟩:=bs hf;split at hf
 ·rename_i hl;obtain⟨kk,rfl⟩:∃kk,kd=.int kk:=by cases kd<;>first|exact⟨_,rfl⟩|cases hf
  dsimp only at hf;split at hf
  ·rename_i h0;let⟨m,hm,hM⟩:=bs hf;rw[ht];refine zV (EO hN (PE.UY hk) hs hz I sm eo h1 h0 hm λg s1 H1 UB ⟨gd,gs,QI,kpg,bg⟩ I1 G1=>?_);refine W.callWith_K (h₀:=X.base) I.ok.mod.XW kpg (ck (GC ha pos pins s1 σ H1 (λvs H2=>RU X.K X.mg n m (vs++[]) H2 Q E) I1 ⟨UB,ρ,ds,G1.fh,eo.mono G1.ff,h2,λvs H2 UL G2 r2=>⟨UL,ds,c,C,G2.fh,(eo.mono G1.ff).tb.mono G2.ff,by rw[qH];exact r2,hl,hM,hC,λH' UA g'=>q H' UA (G1.trans (G2.trans g'))⟩⟩) λus s2 ⟨vs,H2,I2,r,q2⟩=>⟨I2.V6,?_⟩) he U7;exact CW QI hr bg .nil hx I2 r q2
  ·cases hf
 ·cases hf
def OS(fx:XT)(sc:Scope)(T:Tr)(ns:List Expr)(b a:Expr)(as:List Expr):Option XE :=
 if (((a::as).all λe=>!isStar e)&&(!Bg b&&decide (ns.length<=1000)))=true then
  (Qd sc fx (a::as).length ns).bind λms=>(T.e b).bind λfk=>(uR T (a::as)).map λfs=>og (a::as).length ms fk fs
 else none
def Kp(S:gO X.UY scope N' U2)(hi:zq X E iter xf)(hs:∀x,foldedSetIterable iter X.env x=pure x):zq X E (.ListComp elt [⟨tg,iter,ifs,0⟩] scope pos) xf:=by
 intro pins s σ H Q I h;rw[eval_ListComp];exact wpAny_comprehension_free (use:=none) rfl hs (j7 (je I.ok S.free)) S.kind S.loc (ck (hi pins s σ H (λ_ _=>False) I h) λv s1 ⟨_,_,_,_,z⟩=>z.elim)
def KA(B:p8 X.UY "min" (.builtin "min"))(hl:zq X E l xf)(VZ:starEach [l] X.env=(false,eval l X.env)::starEach [] X.env):zq X E (.Call (.Name "min" p0) [l] [⟨some "key",v,Wa⟩] pos) xf:=by
 intro pins s σ H Q I h;have he:backTo pos (starEach [l] X.env)=(false,eval l X.env)::backTo pos (starEach [] X.env):=by rw[VZ];rfl
 refine jA (fZ I B.gl B.mg B.bt ?_ (by decide) (by decide));refine PyProof.Rows.callWith_kw (e:=l) (rest:=[]) (kws:=[⟨some "key",v,Wa⟩]) ?_ he (by rw[he];rfl) rfl rfl;rw[he];exact jL (ck (hl pins s σ H (λ_ _=>False) I h) λu s1 ⟨_,_,_,_,z⟩=>z.elim)
def To(sc:Scope)(N:List Str)(tg iter:Expr)(as:Int)(scope:Scope):Bool:=match Ry tg with
 | some xs=>decide (as=0)&&iE sc scope N (xs++(eJ N scope).filterMap λj=>N[j]?) xs.length (eJ N scope)&&Hx iter
 | none=>false
def Ga(fx:XT)(sc:Scope)(N:List Str)(T:Tr):Nat->Expr->Option XE
 | 0,_=>none
 | n+1,e=>match e with
  | .Call (.Name x _) (a::as) [] _=>R4 fx sc T x a as
  | .Call (.Subscript (.List ns _) b _) (a::as) [] _=>OS fx sc T ns b a as
  | .Call (.Name x _) [l] [⟨some ky,.Lambda _ _ _ _,_⟩] _=>if ((x == ("min":Str)&&ky == ("key":Str))&&(tI sc "min"&&!isStar l))=true then Ga fx sc N T n l else none
  | .ListComp _ [⟨tg,iter,_,as⟩] scope _=>if To sc N tg iter as scope=true then Ga fx sc N T n iter else none
  | .Compare a [.Eq] [_] _=>Ga fx sc N T n a
  | .Compare a [.IsNot] [_] _=>Ga fx sc N T n a
  | .IfExp c a b _=>(T.t c).bind λt=>match Ga fx sc N T n a,Ga fx sc N T n b with
   | none,none=>none
   | xa,xb=>some (Rc t (xa.getD Mg) (xb.getD Mg))
  | _=>none
def ud(f:Stmt->Option XS)(tS:Stmt->Option GS):List Stmt->Option XS
 | []=>none
 | s::r=>match f s,ud f tS r with
  | none,none=>none
  | some xh,none=>some xh
  | none,some xr=>(tS s).map λg=>ya g xr
  | some xh,some xr=>match tS s with
   | some g=>some (gg xh g xr)
   | none=>some xh
def Ku(cl:List Str)(fx:XT)(sc:Scope)(N:List Str)(T:Tr)(tS:Stmt->Option GS):Nat->Stmt->Option XS
 | 0,_=>none
 | n+1,st=>match st with
  | .Return (some e) _=>(Ga fx sc N T 4 e).map iH
  | .Expr e _=>if yy e=true then (Ga fx sc N T 4 e).map iH else none
  | .Assign [.Name x _] e _=>(N.idxOf? x).bind λi=>if (rG N sc i x&&!Cw e)=true then (Ga fx sc N T 4 e).map iH else none
  | .If c a b _=>(T.t c).bind λt=>match ud (Ku cl fx sc N T tS n) tS a,ud (Ku cl fx sc N T tS n) tS b with
   | none,none=>none
   | xa,xb=>some (Jm t (xa.getD mX) (xb.getD mX))
  | .Raise (some (.Call (.Name x _) [.Constant (.str _) _ _] [] _)) none _=>if (cl.contains x&&tI sc x&&!(x == ("__debug__":Str)))=true then some (PR x) else none
  | _=>none
section
variable {tS:Stmt->Option GS}
def QU:zq X E e Mg:=λpins s σ H Q I ⟨HF,ρ,c,C,_,_,h,_⟩=>by cases h
def Mz{st:List Stmt}:F1 X E Uy Uz st mX:=λpins s σ H Q I ⟨HF,ρ,c,C,_,h,_⟩=>by cases h
def NC(C:Bk X.UY N sc k)(O:cS X.UY T)(hx:rR X.prog X.w X.K X.mg X.base k fx)(hp:eu (zr X.prog X.w) X E)(h:R4 fx sc T x a as=some xf):zq X E (.Call (.Name x p) (a::as) [] pos) xf:=by
 unfold R4 at h;split at h
 ·rename_i m xm hl;split at h
  ·rename_i hc;simp?[zF] at hc;let⟨fs,WO,rfl⟩:=ah h;have VZ:isStar a=false/\(as.all λe=>!isStar e)=true:=by
    have:=hc.1.2;rw[xV,zF] at this;exact⟨by simpa using this.1,this.2⟩
   exact Kv (hx x m xm hl) C.room hp (C.gl hc.1.1) (cT O WO) (by simpa using hc.2) (bj (by simpa using VZ.1)) (cG VZ.2)
  ·cases h
 ·cases h
def Kh(C:Bk X.UY N sc k)(O:cS X.UY T)(hx:rR X.prog X.w X.K X.mg X.base k fx)(hp:eu (zr X.prog X.w) X E){ns:List Expr}(h:OS fx sc T ns b a as=some xf):zq X E (.Call (.Subscript (.List ns p2) b p3) (a::as) [] pos) xf:=by
 unfold OS at h;split at h
 ·rename_i hg;simp?[zF,yQ,zJ] at hg;let⟨hs,hb,hz⟩:=hg;let⟨ms,h1,h⟩:=bs h;let⟨fk,h3,h⟩:=bs h;let⟨fs,h4,rfl⟩:=ah h;let⟨vs,hN⟩:=BJ (X:=X) (R:=Tq X k (a::as).length) (λx hx=>C.gl hx) (λx m hh=>let ⟨f,fd,ps,ok,hm,hk,hb⟩:=(hx x _ m hh).ex;⟨f,hm,fd,ps,ok,hk,hb⟩) h1;rw[xV,zF,yQ] at hs;exact Ib hN hz C.room hp (O.e _ _ h3) (cT O h4) (mY hb) (bj hs.1) (cG hs.2)
 ·cases h
def lh(C:Bk X.UY N sc k)(B:Bn X)(O:cS X.UY T)(hx:rR X.prog X.w X.K X.mg X.base k fx)(hp:eu (zr X.prog X.w) X E):∀ (n:Nat) {e:Expr}{xf:XE},Ga fx sc N T n e=some xf->zq X E e xf
 | 0,e,xf,h=>by cases h
 | n+1,e,xf,h=>by
  have ih:∀ {e:Expr}{o:Option XE},Ga fx sc N T n e=o->zq X E e (o.getD Mg):=λ{e o} h=>by
   cases o with
   | none=>exact QU
   | some x=>exact lh C B O hx hp n h
  unfold Ga at h;split at h
  ·exact NC C O hx hp h
  ·exact Kh C O hx hp h
  ·split at h
   ·rename_i hc;simp?[zF,yQ] at hc;let⟨⟨h1,h2⟩,h3,h4⟩:=hc;obtain rfl:=eq_of_beq h1;obtain rfl:=eq_of_beq h2;exact KA (C.blt B h3 (by decide +kernel) Ha) (lh C B O hx hp n h) (bj h4)
   ·cases h
  ·split at h
   ·rename_i hc;unfold To at hc;split at hc
    ·simp?[zF,zJ] at hc;let⟨⟨h1,h2⟩,h3⟩:=hc;subst h1;exact Kp (C.comp h2).1 (lh C B O hx hp n h) (JW h3)
    ·cases hc
   ·cases h
  ·exact Jw (lh C B O hx hp n h) (dQ _)
  ·exact Jw (lh C B O hx hp n h) (Bj _ (by decide) (by decide))
  ·let⟨t,ht,h⟩:=bs h;split at h
   ·cases h
   ·cases h;exact Qh (O.t _ _ ht) (ih rfl) (ih rfl)
  ·cases h
def LC{st:Stmt}(h1:DX X E Uy Uz st xh)(h2:DS X.UY Uy Uz st g)(h3:F1 X E Uy Uz rest xr):F1 X E Uy Uz (st::rest) (gg xh g xr):=λpins s σ H D I ⟨HF,ρ,c,C,S,hx,hc,q⟩=>by
 unfold gg at hx;split at hx
 ·rename_i c' hh;cases hx;exact rW h1 pins s σ H D I ⟨HF,ρ,c,C,S,hh,hc,q⟩
 ·exact AA h2 h3 pins s σ H D I ⟨HF,ρ,c,C,S,hx,hc,q⟩
def zg(hf:∀s x,f s=some x->DX X E Uy Uz s x)(ht:∀s g,tS s=some g->DS X.UY Uy Uz s g):∀ {l:List Stmt}{x:XS},ud f tS l=some x->F1 X E Uy Uz l x
 | [],x,h=>by cases h
 | s::r,x,h=>by
  have ih:=λx=>zg hf ht (l:=r) (x:=x);unfold ud at h;split at h
  ·cases h
  ·rename_i h1 h2;cases h;exact rW (hf _ _ h1)
  ·rename_i h1 h2;let⟨g,hg,rfl⟩:=ah h;exact AA (ht _ _ hg) (ih _ h2)
  ·rename_i h1 h2;split at h
   ·rename_i g hg;cases h;exact LC (hf _ _ h1) (ht _ _ hg) (ih _ h2)
   ·cases h;exact rW (hf _ _ h1)
def Tp(X:Cx)(E:XK)(Uy Uz:Hp)(cl:List Str):Prop:=∀x∈cl,Gl X x->(x == ("__debug__":Str))=false->∀ (np cpos pos p:Pos) (t:Str) (i:Nat),DX X E Uy Uz (.Raise (some (.Call (.Name x np) [.Constant (.str t) i p] [] cpos)) none pos) (PR x)
def Gr(C:Bk X.UY N sc k)(B:Bn X)(O:cS X.UY T)(hx:rR X.prog X.w X.K X.mg X.base k fx)(hp:eu (zr X.prog X.w) X E)(hr:Tp X E Uy Uz cl)(ht:∀s g,tS s=some g->DS X.UY Uy Uz s g):∀ (n:Nat) {st:Stmt}{x:XS},Ku cl fx sc N T tS n st=some x->DX X E Uy Uz st x
 | 0,st,x,h=>by cases h
 | n+1,st,x,h=>by
  have ih:∀ {l:List Stmt}{o:Option XS},ud (Ku cl fx sc N T tS n) tS l=o->F1 X E Uy Uz l (o.getD mX):=λ{l o} h=>by
   cases o with
   | none=>exact Mz
   | some x=>exact zg (λs x h=>Gr C B O hx hp hr ht n h) ht h
  unfold Ku at h;split at h
  ·let⟨xf,hf,rfl⟩:=ah h;exact NL (lh C B O hx hp 4 hf)
  ·split at h
   ·rename_i hc;let⟨xf,hf,rfl⟩:=ah h;refine NQ (lh C B O hx hp 4 hf) ?_;rename_i e pos;cases e<;>first|rfl|cases hc
   ·cases h
  ·let⟨i,hi,h⟩:=bs h;split at h
   ·rename_i hl;simp?[zF,yQ] at hl;let⟨xf,hf,rfl⟩:=ah h;let⟨z1,z2,z3,z4⟩:=C.loc hl.1;exact cq (tv z1 z2 z3 (lh C B O hx hp 4 hf) (pq hl.2) z4) λD σ H q=>Jf q
   ·cases h
  ·let⟨t,ht',h⟩:=bs h;split at h
   ·cases h
   ·cases h;exact QG (O.t _ _ ht') (ih rfl) (ih rfl)
  ·split at h
   ·rename_i hc;simp?[zF,yQ] at hc;cases h;exact hr _ (List.contains_iff_mem.mp hc.1.1) (C.gl hc.1.2) hc.2 _ _ _ _ _ _
   ·cases h
  ·cases h
end
abbrev Ts(st:Stmt)(N:List Str)(S:Sg)(fx:XT)(cl:List Str):Option XS:=ud (Ku cl fx (ai st) N (tr S 40 none (ai st) N) (uN (ai st) N (tr S 40 none (ai st) N) 40) 10) (uN (ai st) N (tr S 40 none (ai st) N) 40) (bx st)
def Jt(K:W.Frag)(mg:Str->Option Value)(cl:List Str):Prop:=∀c∈cl,∃C:Addr,mg c=some (.ref C)/\W.excIn K C Nc "ValueError.__new__"=true
section
variable {K:W.Frag}
def M1(C:Bk X.UY N sc j)(B:Bn X)(hf:mn X.prog X.w X.K X.mg X.base j fs)(hi:iJ X.mg is)(hx:rR X.prog X.w X.K X.mg X.base j fx)(hp:eu (zr X.prog X.w) X E)(hr:Tp X E Uy Uz cl)
  (t:ud (Ku cl fx sc N (tr ⟨fs,is⟩ 40 none sc N) (uN sc N (tr ⟨fs,is⟩ 40 none sc N) 40) 10) (uN sc N (tr ⟨fs,is⟩ 40 none sc N) 40) l=some xg):F1 X E Uy Uz l xg:=by
 have O:cS X.UY (tr ⟨fs,is⟩ 40 none sc N):=DH (G:=⟨fs,is⟩) 40 C ⟨hf,hi,B⟩ (yN j) λq z=>by cases z
 have ht:∀s g,uN sc N (tr ⟨fs,is⟩ 40 none sc N) 40 s=some g->DS X.UY Uy Uz s g:=λs g h=>se C B O 40 h;exact zg (λs x h=>Gr C B O hx hp hr ht 10 h) ht t
def R0{st:Stmt}(D:BN K mg x st ps)(B:∀x∈cL,mg x=none)(hf:mn P w K mg base j S.fn)(hi:iJ mg S.int)(hx:rR P w K mg base j fx)(hc:Jt K mg cl)(t:Ts st N S fx cl=some xg)(F:b9 N ps (ai st):=by exact Rf.RI):LA P w K mg base (j+1) x ps.length (kc xg N.length):=by
 let⟨f,fd,hm,Fu,hb⟩:=D.ex;refine fnX Fu F hb hm λX E hP hw hK VP V8 C abS hk HF H=>?_;subst hP;subst hw;subst hK;subst VP;subst V8;exact M1 C B hf hi hx hk.pass (λc Vp hg hd np cpos pos p t i=>by
  let⟨Ca,h1,h2⟩:=hc c Vp;exact Ho hk abS hg h1 h2 hd) t
def So:rR P w K mg base j []:=λ_ _ _ h=>by cases h
def xm(F:LA P w K mg base i x n m)(h:rR P w K mg base j l)(e:i<=j:=by decide):rR P w K mg base j ((x,n,m)::l):=λy n' m' e'=>by
 rw[yB] at e';cases q:y == x with
 | true=>rw[q] at e';cases e';rw[eq_of_beq q];exact F.mono e
 | false=>rw[q] at e';exact h y n' m' e'
end
def Qf(K:W.Frag)(C:Addr):Bool:=W.findIn K (.ref C) "__getattribute__" == some (some (.builtin "BaseException.__getattribute__"))&&(W.findIn K (.ref C) "__getattr__" == some none)&&(W.findIn K (.ref C) "__class__" == some (some (.builtin "object.__class__")))&&(W.specialIn K (.builtin "object.__class__") "__get__" == some (some (.builtin "getset_descriptor.__get__")))&&(W.takesIn K (.builtin "object.__class__") == some true)&&(W.mroIn K C (.type "object") == some true)&&(W.subIn K (.ref C) (.type "BaseException") == some true)&&(W.clsIn K C).isSome
def Q9(K:W.Frag)(F:Addr)(cs:List (Str×Addr)):Bool:=(W.nsIn K mainGlobals "FlowError" == some (some (.ref F)))&&(W.nsIn K mainGlobals "ValueError" == some none)&&cs.all λc=>(W.nsIn K mainGlobals c.1 == some (some (.ref c.2)))&&W.excIn K c.2 Nc "ValueError.__new__"&&Qf K c.2&&(W.exmOne K (.ref c.2) (.ref F) == some true)&&(W.kitOne K (.ref c.2) (.type "ValueError") == some true)&&cs.all λd=>W.kitOne K (.ref c.2) (.ref d.2) == some (c.1 == d.1)
structure wu(K:W.Frag)(mg:Str->Option Value)(F:Addr)(cs:List (Str×Addr)):Prop where
 fe:mg "FlowError"=some (.ref F)
 ve:mg "ValueError"=none
 at_:∀c∈cs,mg c.1=some (.ref c.2)
 ex:∀c∈cs,W.excIn K c.2 Nc "ValueError.__new__"=true
 ek:∀c∈cs,Lk K c.2
 xm:∀c∈cs,W.exmOne K (.ref c.2) (.ref F)=some true
 kv:∀c∈cs,W.kitOne K (.ref c.2) (.type "ValueError")=some true
 kt:∀c∈cs,∀d∈cs,W.kitOne K (.ref c.2) (.ref d.2)=some (c.1 == d.1)
def KG{K:W.Frag}{cs:List (Str×Addr)}(X:K.In h)(G:h.Ns mainGlobals mg)(e:Q9 K F cs=true):wu K mg F cs:=by
 unfold Q9 at e;simp?[zF,xI,vV] at e;let⟨⟨e1,e2⟩,e3⟩:=e;refine⟨W.mg_of X G e1,W.mg_none_of X G e2,λc hc=>W.mg_of X G (e3 c hc).1.1.1.1.1,λc hc=>(e3 c hc).1.1.1.1.2,λc hc=>?_,λc hc=>(e3 c hc).1.1.2,λc hc=>(e3 c hc).1.2,λc hc d hd=>(e3 c hc).2 d hd⟩;have q:=(e3 c hc).1.1.1.2;unfold Qf at q;simp?[zF,vV] at q;exact⟨q.1.1.1.1.1.1.1,q.1.1.1.1.1.1.2,q.1.1.1.1.1.2,q.1.1.1.1.2,q.1.1.1.2,q.1.1.2,q.1.2,q.2⟩
def wu.ok{K:W.Frag}{cs:List (Str×Addr)}(M:wu K mg F cs)(h:(cl.all λc=>(cs.map Prod.fst).contains c)=true):Jt K mg cl:=λc hc=>by
 have:=List.contains_iff_mem.mp (List.all_eq_true.mp h c hc);let⟨q,hq,rfl⟩:=List.mem_map.mp this;exact⟨q.2,M.at_ q hq,M.ex q hq⟩
def RG(sc:Scope):Expr->Option Str
 | .Call (.Name f _) [.Name n _,.Name y _] [] _=>if (f == ("isinstance":Str)&&n == ("_law_e":Str)&&tI sc "isinstance"&&tI sc y)=true then some y else none
 | _=>none
def IH(sc:Scope):List Expr->Option (List Str)
 | []=>some []
 | e::r=>(RG sc e).bind λy=>(IH sc r).map λys=>y::ys
def n8(ns:List Str)(c:Str):Option D:=if ns.contains c=true then (ug (.bool true) (ns.map λn=>.bool (c == n))).map λj=>.tuple [.str "refused",.int ((j:Nat):Int)] else none
section
variable {K:W.Frag}{cs:List (Str×Addr)}
def Gf(M:wu X.K X.mg F cs)(hc:c∈cs)(Xl:(ea,ob)∈X.pn)(Wg:ob.cls=.ref c.2)(Wr:Lo X sc)(Xd:X.mg "isinstance"=none)(hN:X.N[0]?=some ("_law_e":Str))(hl:X.env.kindOf ("_law_e":Str)=some .local)(hs:X.env.scope.names.lookup ("_law_e":Str)=some .local)
  (hr:RG sc e=some y) (hy:∀ {p2:Pos}{pins:List (Addr×Obj)}{σ:L2.St}{H:Hp}{s:Shared}{Q:Value->Shared->Prop},Gl X y->Inv X pins σ H s->Q v s->wpAny (model X.prog X.w) X.A (eval (.Name y p2) X.env) Q X.xe s) (hk:W.kitOne X.K (.ref c.2) v=some b) :
  PE X e (λσ H Q=>σ[0]?=some (some (.ref ea))/\Q (.bl b) H)/\(∀env whole,isTrue e env whole=(do let v <- whole;standAt e.pos;holding [v] (truthy v)))/\∀es:List Expr,starEach (e::es) X.env=(false,eval e X.env)::starEach es X.env:=by
 unfold RG at hr;split at hr
 ·rename_i f pf n pn y' py pos;split at hr
  ·rename_i hh;cases hr;simp?[zF,vV] at hh;let⟨⟨⟨rfl,rfl⟩,hg⟩,hgy⟩:=hh;have gl:∀ {x:Str},tI sc x=true->Gl X x:=λh=>by
    rcases Wr _ _ (yR h) with q|⟨q,_⟩
    ·exact q
    ·cases q
   exact⟨OI (M.ek c hc) Xl Wg (gl hg) Xd hN hl hs (by decide) (λ{pins σ H s Q} I q=>hy (gl hgy) I q) hk,λenv whole=>rfl,λes=>rfl⟩
  ·cases hr
 ·cases hr
def yo(M:wu X.K X.mg F cs)(hc:c∈cs)(Xl:(ea,ob)∈X.pn)(Wg:ob.cls=.ref c.2)(Wr:Lo X sc)(Xd:X.mg "isinstance"=none)(hN:X.N[0]?=some ("_law_e":Str))(hl:X.env.kindOf ("_law_e":Str)=some .local)(hs:X.env.scope.names.lookup ("_law_e":Str)=some .local)(hd:(cs.all λd=>!(d.1 == ("__debug__":Str)))=true) :
  ∀ {es:List Expr}{ns:List Str},IH sc es=some ns->(ns.all λc=>(cs.map Prod.fst).contains c)=true->l8 X ea es (ns.map λn=>c.1 == n)
 | [],ns,h,_=>by cases h;exact Oy
 | e::es,ns,h,ha=>by
  unfold IH at h;let⟨y,hy,h⟩:=bs h;let⟨ys,hys,rfl⟩:=ah h;rw[xV,zF] at ha;let⟨d,hdm,rfl⟩:=List.mem_map.mp (List.contains_iff_mem.mp ha.1);have Vi:(d.1 == ("__debug__":Str))=false:=by simpa using List.all_eq_true.mp hd d hdm
  let⟨h1,_,h3⟩:=Gf (v:=.ref d.2) M hc Xl Wg Wr Xd hN hl hs hy (λ{p2 pins σ H s Q} hg I q=>me I hg (M.at_ d hdm) q Vi) (M.kt c hc d hdm);exact Mq h1 (yo M hc Xl Wg Wr Xd hN hl hs hd hys ha.2) (h3 es)
def Fp{A:Around}{env:PySem.Env}(h:A.units+200 < cLine):(A.deeper env).units+66 < cLine:=by
 have:(A.deeper env).units<=A.units+16:=by simp[Around.deeper]
 lia
def QV{st:Stmt}{a1 a2 a3:Pos}(D:BN K mg "_law_refused" st ["_law_e"])(M:wu K mg F cs)(B:∀x∈cL,mg x=none)
  (hb:bx st=[.Assign [.Name "_law_flags" a1] (.List es1 a2) a3,.Assign [.Name "_law_flags" b1] (.BinOp (.Name "_law_flags" b2) .Add (.List es2 b3) b4) b5,
   .If (.BoolOp .Or [.Compare (.Call (.Attribute (.Name "_law_flags" c1) "count" c2) [.Constant (.bool true) i1 c3] [] c4) [.NotEq] [.Constant (.int 1) i2 c5] c6,.UnaryOp .Not e6 c7] c8) bad [] c9,
   .Return (some (.Tuple [.Constant (.str "refused") i3 d1,.Call (.Attribute (.Name "_law_flags" d3) "index" d2) [.Constant (.bool true) i4 d5] [] d4] k1 d6)) d7])
  (S:b9 [("_law_e":Str),("_law_flags":Str)] ["_law_e"] (ai st)) (r1:IH (ai st) es1=some ns1) (r2:IH (ai st) es2=some ns2) (r6:RG (ai st) e6=some "ValueError")
  (s1:(ai st).names.lookup ("_law_e":Str)=some .local) (s2:(ai st).names.lookup ("_law_flags":Str)=some .local) (RB:((ns1++ns2).all λc=>(cs.map Prod.fst).contains c&&decide (IP (.bool true) ((ns1++ns2).map λn=>.bool (c == n))=1))=true) (Vi:(cs.all λd=>!(d.1 == ("__debug__":Str)))=true) (hz:ns1.length+ns2.length<=sizeLine) (l1:(c2.endLine == c4.line)=true) (l2:(d2.endLine == d4.line)=true) :
  ∀c d,n8 (ns1++ns2) c=some d->DC P w K mg base k "_law_refused" c d:=λc d h=>by
 unfold n8 at h;split at h
 ·rename_i hc;have hcm:=List.contains_iff_mem.mp hc;let⟨j,hj,rfl⟩:=ah h;have hcc:=List.all_eq_true.mp RB c hcm;rw[zF] at hcc;let⟨q,hq,rfl⟩:=List.mem_map.mp (List.contains_iff_mem.mp hcc.1);have aeW:=yR hcc.2;let⟨f,fd,hm,Fu,hbd⟩:=D.ex;refine⟨f,fd,["_law_e"],hm,Fu.kp,hbd,rfl,λA outer s H args ea C hdp We e0 hbt hC hex=>?_⟩;let⟨⟨ob,vs,ho,Vp,hd⟩,hn,hf⟩:=hex;have hCq:C=q.2:=by
   have:=M.at_ q hq;rw[hC] at this;cases this;rfl
  subst hCq;refine FO (C:=q.2) Fu S rfl (by lia) e0 hbt ho hd hn hf λUT t1 I=>?_;rw[hb];have U8:∀ {l:List Str},(∀n∈l,n∈ns1++ns2)->(l.all λc=>(cs.map Prod.fst).contains c)=true:=λhl=>by
   rw[xI];intro n hn;have:=List.all_eq_true.mp RB n (hl n hn);rw[zF] at this;exact this.1
  let X:Cx:=DL P w K mg base [("_law_e":Str),("_law_flags":Str)] "_law_refused" (ai st) f UT A outer s H [(ea,ob)];have Xl:(ea,ob)∈X.pn:=List.mem_singleton.mpr rfl;have Wr:Lo X (ai st):=λy kd hy=>.inl hy;have Xd:X.mg "isinstance"=none:=B _ (by decide);have f1:=yo (X:=X) (sc:=ai st) M hq Xl Vp Wr Xd rfl s1 s1 Vi r1 (U8 λn hn=>qL _ hn);have f2:=yo (X:=X) (sc:=ai st) M hq Xl Vp Wr Xd rfl s1 s1 Vi r2 (U8 λn hn=>yE _ hn);let⟨f6,w6,_⟩:=Gf (X:=X) (sc:=ai st) (v:=.type "ValueError") M hq Xl Vp Wr Xd rfl s1 s1 r6 (λ{p2 pins σ H s Q} hg I q=>fZ I hg M.ve (by decide +kernel) q) (M.kv q hq);have main:=IG (X:=X) (bad:=bad) (j:=j) (a1:=a1) (a2:=a2) (a3:=a3) (b1:=b1) (b2:=b2) (b3:=b3) (b4:=b4) (b5:=b5) (b6:=b5) (c1:=c1) (c2:=c2) (c3:=c3) (c4:=c4) (c5:=c5) (c6:=c6) (c7:=c7) (c8:=c8) (c9:=c9) (d1:=d1) (d2:=d2) (d3:=d3) (d4:=d4) (d5:=d5) (d6:=d6) (d7:=d7) (i1:=i1) (i2:=i2) (i3:=i3) (i4:=i4) (k1:=k1) (Fp (by lia)) rfl s2 f1 f2 f6 (λwhole=>w6 _ whole)
   (by rw[<- jC,zM];exact aeW) (by rw[<- jC,zM];exact hj) (by rw[zD,zD];exact hz) l1 l2
   [] t1 (L2.start [("_law_e":Str),("_law_flags":Str)] [.ref ea]) H ⟨λ_ _=>False,λv H'=>∀HF,aS HF H->∃UA,bG HF H UA H'/\Rep K UA (.tuple [.str "refused",.int ((j:Nat):Int)]) v,λ_ _=>False,λ_ _=>False⟩ I ⟨rfl,rfl,λv H' z=>z⟩
  refine ck main λfl s' z=>?_;cases fl with
  | next=>let⟨_,_,_,z⟩:=z;exact z.elim
  | brk=>let⟨_,_,_,z⟩:=z;exact z.elim
  | cont=>let⟨_,_,_,z⟩:=z;exact z.elim
  | ret u =>
   let⟨v,σ',H',J,r,z⟩:=z;exact⟨u,v,σ',H',rfl,J,r,z⟩
 ·cases h
def vg:∀ (names:List (Str×NameKind)) (n:Nat),(names.all λy=>!(y.2 == NameKind.cell))=true->cellsFrom n names []=[]
 | [],_,_=>rfl
 | (x,k)::r,n,h=>by
  rw[xV,zF] at h;unfold cellsFrom;rw[yO (by simpa using h.1)];exact vg r n h.2
def JD:Stmt->Option (Str×Str)
 | .Return (some (.Call (.Name r _) [.Name m _] [] _)) _=>some (r,m)
 | _=>none
def Co(h:JD s=some (r,m)):∃pr pm pc p,s=.Return (some (.Call (.Name r pr) [.Name m pm] [] pc)) p:=by
 unfold JD at h;split at h
 ·cases h;exact⟨_,_,_,_,rfl⟩
 ·cases h
def Iw:ExceptHandler->Option (Str×Str×Stmt)
 | .ExceptHandler (some (.Name e _)) (some n) [s] _=>some (e,n,s)
 | _=>none
def BD(h:Iw x=some (e,n,s)):∃pe p,x=.ExceptHandler (some (.Name e pe)) (some n) [s] p:=by
 unfold Iw at h;split at h
 ·cases h;exact⟨_,_,rfl⟩
 ·cases h
def Qb(st:Stmt)(N:List Str)(S:Sg)(fx:XT)(ns:List Str):List Stmt->Option GS
 | [.Try body [x] [] [] _]=>(Iw x).bind λ(e,n,s)=>(JD s).bind λ(r,m) =>
  if (e == ("FlowError":Str)&&r == ("_law_refused":Str)&&m == n&&!(n == ("__debug__":Str))&&tI (ai st) "FlowError"&&tI (ai st) "_law_refused"&&decide ((ai st).names.lookup n=some .local)&&(ai st).names.all (λy=>!(y.2 == NameKind.cell))&&N.contains n)=true then
   (qg (uN (ai st) N (tr S 40 none (ai st) N) 40) body).map λgb=>zu gb ((ud (Ku [] fx (ai st) N (tr S 40 none (ai st) N) (uN (ai st) N (tr S 40 none (ai st) N) 40) 10) (uN (ai st) N (tr S 40 none (ai st) N) 40) body).getD mX) (n8 ns)
  else none
 | _=>none
abbrev Ss(st:Stmt)(N:List Str)(S:Sg)(fx:XT)(ns:List Str):Option GS:=Qb st N S fx ns (bx st)
def QC{st:Stmt}(D:BN K mg x st ps)(B:∀x∈cL,mg x=none)(M:wu K mg F cs)(hf:mn P w K mg base j S.fn)(hi:iJ mg S.int)(hx:rR P w K mg base j fx)(R:∀c d,n8 ns c=some d->DC P w K mg base j "_law_refused" c d)(V1:(ns.all λc=>(cs.map Prod.fst).contains c)=true)(t:Ss st N S fx ns=some g)(FS:b9 N ps (ai st):=by exact Rf.RI):Gb P w K mg base (j+1) x ps.length (aV g N.length):=by
 let⟨f,fd,hm,Fu,hb⟩:=D.ex;refine⟨f,fd,ps,?_,hm,Fu.kp,hb⟩;let⟨oc,od,kV,doc,pm,an,UT,ct,Wx,rfl,lk,Vd⟩:=Fu.ex;refine Gq lk Vd FS (λvs H Q E ⟨HF,ds,d,h1,_,h2,h3,_⟩=>by rw[h2.length,h3]) λA outer s H vs Q E hr ⟨HF,ds,d,sm,tb,rr,hl,hd,q⟩=>?_;have key:∀X:Cx,X=(sD HC P w K mg base N x (ai st) f UT A outer s H E).UY->Bk X N (ai st) j->∀UB H1,C7 X UB H1 (bx st) g:=λX hX C UB H1=>by
  unfold Ss at t;generalize bx st=bd at t;unfold Qb at t;split at t
  ·rename_i body x0 pt;let⟨⟨e,n,s0⟩,h1,t1⟩:=bs t;let⟨⟨r,m⟩,h2,t2⟩:=bs t1;clear t t1;let⟨pe,ph,rfl⟩:=BD h1;let⟨pr,pm',pc,prt,rfl⟩:=Co h2;clear h1 h2;have t:=t2;clear t2;dsimp only at t;split at t
   ·rename_i hh;simp?[zF,vV,yQ,zJ] at hh;obtain⟨⟨⟨⟨⟨⟨⟨⟨rfl,rfl⟩,rfl⟩,Vq⟩,hgF⟩,hgR⟩,Xg⟩,X0⟩,hNn⟩:=hh;let⟨gb,hgb,rfl⟩:=ah t;let⟨i,U5,hiN⟩:=qT (List.contains_iff_mem.mp hNn);have abV:N[i]?=some m:=by rw[zK U5,hiN]
    subst hX;refine DU (Pb (i:=i) rfl rfl (C.gl hgF) M.fe (by decide) C.nd abV Xg Xg ?_ ?_ ?_ ?_)
    ·show List.lookup m (cellsFrom _ _ [])=none;rw[vg _ _ X0];rfl
    ·exact Rf.gY (λs g h=>se C B (DH (G:=S) 40 C ⟨hf,hi,B⟩ (yN j) λq z=>by cases z) 40 h) hgb
    ·intro pn xe E' hp;have C':Bk (gQ (sD HC P w K mg base N x (ai st) f UT A outer s H E).UY pn xe).UY N (ai st) j:=⟨rfl,FS.nd,λy kd hy=>.inl hy,rfl,λ_ _=>rfl,hr,rfl,FS.kind⟩
     cases hq:ud (Ku [] fx (ai st) N (tr S 40 none (ai st) N) (uN (ai st) N (tr S 40 none (ai st) N) 40) 10) (uN (ai st) N (tr S 40 none (ai st) N) 40) body with
     | none=>exact Mz
     | some xg=>exact M1 C' B hf hi hx hp (λc Vp=>by cases Vp) hq
    ·intro c d Vd;have aat:=Vd;unfold n8 at aat;split at aat
     ·rename_i hc;let⟨z,hz,rfl⟩:=List.mem_map.mp (List.contains_iff_mem.mp (List.all_eq_true.mp V1 c (List.contains_iff_mem.mp hc)));refine⟨λC hC=>?_,⟨z.2,M.at_ z hz⟩,Fb (R z.1 d Vd) C.room (C.gl hgR) (by decide) abV Xg Xg Vq⟩;have:=M.at_ z hz;rw[show mg z.1=some (.ref C) from hC] at this;cases this;exact M.xm z hz
     ·cases aat
   ·cases t
  ·cases t
 unfold aV at hd;let⟨o,ho,hd⟩:=ah hd;refine⟨_,(key _ rfl ⟨rfl,FS.nd,λy kd hy=>.inl hy,rfl,λ_ _=>rfl,hr,rfl,FS.kind⟩ HF H).UY,HF,_,o,Ao sm tb rr,ho,?_⟩;cases o with
 | rt d'=>cases hd;exactλv H' UA G r=>q v H' UA G r
 | nx ρ'=>cases hd;exactλσ' H' UA S' _=>q .Ux H' UA S'.gr (by simp[Rep])
end
end Ex
namespace Hd
open PySem L2 Dl PySem.Spec PyProof.Rows
section
variable {K:W.Frag}
def Ro{st:Stmt}(hb:gT st ps)(a:W.nsIn K mainGlobals x=some (some (.ref f)))(l:K.lookup f=some (fo x st pm c))(d:W.codeIn K (.ref c) x=true)(k:W.keepIn K (.ref f)=true):hV K x st ps:=QY hb a l d k
def Tn{st:Stmt}(hb:gT st ps)(a:W.nsIn K mainGlobals x=some (some (.ref f)))(l:K.lookup f=some (fo x st pm c))(d:W.codeIn K (.ref c) x=true)(k:W.keepIn K (.ref f)=true)(hh:W.codeHdIn K c (HG K c)=true):pR K x st ps:=Qo hb a l d k hh
end
section
variable {α:Type}{R:List α->Prop}
def Av(h:∀a,R [a])(us:List α)(e:us.length=1):R us:=by
 let⟨a,rfl⟩:=List.length_eq_one_iff.mp e;exact h a
def Mh(us:List α)(e:us.length=n+1):∃a r,us=a::r/\r.length=n:=by
 cases us with
 | nil=>cases e
 | cons a r=>exact⟨a,r,rfl,by simpa using e⟩
def Q5(h:∀a b,R [a,b])(us:List α)(e:us.length=2):R us:=by
 let⟨a,r,rfl,e'⟩:=Mh us e;exact Av (R:=λr=>R (a::r)) (h a) r e'
def Py(h:∀a b c,R [a,b,c])(us:List α)(e:us.length=3):R us:=by
 let⟨a,r,rfl,e'⟩:=Mh us e;exact Q5 (R:=λr=>R (a::r)) (h a) r e'
def Q8(h:∀a b c d,R [a,b,c,d])(us:List α)(e:us.length=4):R us:=by
 let⟨a,r,rfl,e'⟩:=Mh us e;exact Py (R:=λr=>R (a::r)) (h a) r e'
def SE(h:∀a b c d f,R [a,b,c,d,f])(us:List α)(e:us.length=5):R us:=by
 let⟨a,r,rfl,e'⟩:=Mh us e;exact Q8 (R:=λr=>R (a::r)) (h a) r e'
end
section
variable {K:W.Frag}
def f1(f c:Addr)(pm:Value){st:Stmt}(hb:gT st ps:=by exactλ_ _ _ _ _ _ _ _ us hl=>Av (R:=λus=>bindArgs _ ⟨us,[]⟩=pure (List.zip _ us)) (λ_=>rfl) us hl)(a:W.nsIn K mainGlobals x=some (some (.ref f)):=by kernel_rfl)(l:K.lookup f=some (fo x st pm c):=by kernel_rfl)(d:W.codeIn K (.ref c) x=true:=by kernel_rfl)(k:W.keepIn K (.ref f)=true:=by kernel_rfl):hV K x st ps:=Ro hb a l d k
def l1(f c:Addr)(pm:Value){st:Stmt}(hb:gT st ps:=by exactλ_ _ _ _ _ _ _ _ us hl=>Av (R:=λus=>bindArgs _ ⟨us,[]⟩=pure (List.zip _ us)) (λ_=>rfl) us hl)(a:W.nsIn K mainGlobals x=some (some (.ref f)):=by kernel_rfl)(l:K.lookup f=some (fo x st pm c):=by kernel_rfl)(d:W.codeIn K (.ref c) x=true:=by kernel_rfl)(k:W.keepIn K (.ref f)=true:=by kernel_rfl)(hh:W.codeHdIn K c (HG K c)=true:=by kernel_rfl):pR K x st ps:=Tn hb a l d k hh
def f2(f c:Addr)(pm:Value){st:Stmt}(hb:gT st ps:=by exactλ_ _ _ _ _ _ _ _ us hl=>Q5 (R:=λus=>bindArgs _ ⟨us,[]⟩=pure (List.zip _ us)) (λ_ _=>rfl) us hl)(a:W.nsIn K mainGlobals x=some (some (.ref f)):=by kernel_rfl)(l:K.lookup f=some (fo x st pm c):=by kernel_rfl)(d:W.codeIn K (.ref c) x=true:=by kernel_rfl)(k:W.keepIn K (.ref f)=true:=by kernel_rfl):hV K x st ps:=Ro hb a l d k
def f3(f c:Addr)(pm:Value){st:Stmt}(hb:gT st ps:=by exactλ_ _ _ _ _ _ _ _ us hl=>Py (R:=λus=>bindArgs _ ⟨us,[]⟩=pure (List.zip _ us)) (λ_ _ _=>rfl) us hl)(a:W.nsIn K mainGlobals x=some (some (.ref f)):=by kernel_rfl)(l:K.lookup f=some (fo x st pm c):=by kernel_rfl)(d:W.codeIn K (.ref c) x=true:=by kernel_rfl)(k:W.keepIn K (.ref f)=true:=by kernel_rfl):hV K x st ps:=Ro hb a l d k
def l3(f c:Addr)(pm:Value){st:Stmt}(hb:gT st ps:=by exactλ_ _ _ _ _ _ _ _ us hl=>Py (R:=λus=>bindArgs _ ⟨us,[]⟩=pure (List.zip _ us)) (λ_ _ _=>rfl) us hl)(a:W.nsIn K mainGlobals x=some (some (.ref f)):=by kernel_rfl)(l:K.lookup f=some (fo x st pm c):=by kernel_rfl)(d:W.codeIn K (.ref c) x=true:=by kernel_rfl)(k:W.keepIn K (.ref f)=true:=by kernel_rfl)(hh:W.codeHdIn K c (HG K c)=true:=by kernel_rfl):pR K x st ps:=Tn hb a l d k hh
def f4(f c:Addr)(pm:Value){st:Stmt}(hb:gT st ps:=by exactλ_ _ _ _ _ _ _ _ us hl=>Q8 (R:=λus=>bindArgs _ ⟨us,[]⟩=pure (List.zip _ us)) (λ_ _ _ _=>rfl) us hl)(a:W.nsIn K mainGlobals x=some (some (.ref f)):=by kernel_rfl)(l:K.lookup f=some (fo x st pm c):=by kernel_rfl)(d:W.codeIn K (.ref c) x=true:=by kernel_rfl)(k:W.keepIn K (.ref f)=true:=by kernel_rfl):hV K x st ps:=Ro hb a l d k
def f5(f c:Addr)(pm:Value){st:Stmt}(hb:gT st ps:=by exactλ_ _ _ _ _ _ _ _ us hl=>SE (R:=λus=>bindArgs _ ⟨us,[]⟩=pure (List.zip _ us)) (λ_ _ _ _ _=>rfl) us hl)(a:W.nsIn K mainGlobals x=some (some (.ref f)):=by kernel_rfl)(l:K.lookup f=some (fo x st pm c):=by kernel_rfl)(d:W.codeIn K (.ref c) x=true:=by kernel_rfl)(k:W.keepIn K (.ref f)=true:=by kernel_rfl):hV K x st ps:=Ro hb a l d k
end
end Hd
namespace Rg
open PySem L2 Dl Rf Ex PySem.Spec PyProof.Rows
abbrev FT:=List (Str×Nat×(List D->Option D))
def IT(st:Stmt):List Str:=((ai st).names.filter λy=>y.2 == .local || y.2 == .cell).map (·.1)
structure Ok(P:Program)(w:World)(K:W.Frag)(mg:Str->Option Value)(base:Heap)(is:List (Str×Int))(cl:List Str)(j:Nat)(l:FT)(fx:XT):Prop where
 of:mn P w K mg base j l
 ox:rR P w K mg base j fx
 oi:iJ mg is
 ob:∀x∈cL,mg x=none
 oc:Jt K mg cl
 os:∃h:Heap,K.In h/\h.Ns mainGlobals mg
section
variable {K:W.Frag}{st:Stmt}{l:FT}
def up(h:Ok P w K mg base is cl j l fx)(e:j<=k):Ok P w K mg base is cl k l fx:=⟨λx n m z=>(h.of x n m z).mono e,λx n m z=>(h.ox x n m z).mono e,h.oi,h.ob,h.oc,h.os⟩
def OA(h:Ok P w K mg base is cl j l fx)(F:Gb P w K mg base j x n m):Ok P w K mg base is cl j ((x,n,m)::l) fx:=⟨QZ F h.of,h.ox,h.oi,h.ob,h.oc,h.os⟩
def Sy(h:Ok P w K mg base is cl j l fx)(F:LA P w K mg base j x n m):Ok P w K mg base is cl j l ((x,n,m)::fx):=⟨h.of,xm F h.ox (yN j),h.oi,h.ob,h.oc,h.os⟩
def R6(h:Ok P w K mg base is cl j l fx)(D:hV K x st ps):BN K mg x st ps:=let ⟨_,a,b⟩:=h.os;D.mg a b
def Uj(h:Ok P w K mg base is cl j l fx)(D:pR K x st ps):OV K mg x st ps:=let ⟨_,a,b⟩:=h.os;D.mg a b
def fst(a:sc.kind=.function:=by kernel_rfl)(b:sc.isCoroutine=false:=by kernel_rfl)(c:sc.isGenerator=false:=by kernel_rfl)(d:N.Nodup:=by decide +kernel)(e:N.take P.length=P:=by kernel_rfl)(f:∀x∈P,sc.names.lookup x=some .local \/ sc.names.lookup x=some .cell:=by decide +kernel)(g:∀y∈sc.names,y.2≠.free:=by decide +kernel):b9 N P sc:=⟨a,b,c,d,e,f,g⟩
abbrev L3(st:Stmt)(n:Nat):List Str:=(IT st).take n
def on(st:Stmt)(D:hV K x st (L3 st n))(h:Ok P w K mg base is cl j l fx)(t:tW st (IT st) ⟨l,is⟩ none=some g:=by kernel_rfl)(F:b9 (IT st) (L3 st n) (ai st):=by exact fst)(e:(L3 st n).length=n:=by kernel_rfl)(e':(IT st).length=k:=by kernel_rfl):Ok P w K mg base is cl (j+1) ((x,n,aV g k)::l) fx:=by
 have:=OA (up h (Nat.le_succ j)) (Ug (R6 h D) F h.ob h.of h.oi t);rw[e,e'] at this;exact this
def ox(st:Stmt)(D:hV K x st (L3 st n))(h:Ok P w K mg base is cl j l fx)(t:tW st (IT st) ⟨l,is⟩ none=some g:=by kernel_rfl)(tx:Ts st (IT st) ⟨l,is⟩ fx cl=some xg:=by kernel_rfl)(F:b9 (IT st) (L3 st n) (ai st):=by exact fst)(e:(L3 st n).length=n:=by kernel_rfl)(e':(IT st).length=k:=by kernel_rfl):Ok P w K mg base is cl (j+1) ((x,n,aV g k)::l) ((x,n,kc xg k)::fx):=by
 have:=R0 (R6 h D) h.ob h.of h.oi h.ox h.oc tx F;rw[e,e'] at this;exact Sy (on st D h t F e e') this
def ot(st:Stmt)(D:hV K x st (L3 st n))(M:wu K mg Fa cs)(R:{j:Nat}->∀c d,n8 ns c=some d->DC P w K mg base j "_law_refused" c d)(h:Ok P w K mg base is cl j l fx)(t:Ss st (IT st) ⟨l,is⟩ fx ns=some g:=by kernel_rfl)(V1:(ns.all λc=>(cs.map Prod.fst).contains c)=true:=by decide +kernel)(F:b9 (IT st) (L3 st n) (ai st):=by exact fst)(e:(L3 st n).length=n:=by kernel_rfl)(e':(IT st).length=k:=by kernel_rfl):Ok P w K mg base is cl (j+1) ((x,n,aV g k)::l) fx:=by
 have:=OA (up h (Nat.le_succ j)) (QC (R6 h D) h.ob M h.of h.oi h.ox R V1 t F);rw[e,e'] at this;exact this
def ol(st:Stmt)(N:List Str)(q:Str)(D:pR K x st (N.take n))(h:Ok P w K mg base is cl j l fx)(t:tW st N ⟨l,is⟩ (some q)=some g:=by kernel_rfl)(F:b9 N (N.take n) (ai st):=by exact fst)(hq:x∈lg/\x++".<locals>."++"<lambda>"=q:=by decide +kernel)(e:(N.take n).length=n:=by kernel_rfl)(e':N.length=k:=by kernel_rfl):Ok P w K mg base is cl (j+4) ((x,n,aV g k)::l) fx:=by
 have:=OA (up h (jX j 4)) (TR (Uj h D) F h.ob h.of h.oi hq t);rw[e,e'] at this;exact this
end
end Rg
namespace Pg
open PySem L2 Dl PySem.Spec PyProof.Rows
def sk:au->Option Out:=(aw (fX (ua (cC (fB (MQ "int" (ae 0)))) (fB (MQ "bool" (ae 0)))) (aM (fC (.bool false))) fv) (aM (lG EK EK (ae 1) (ae 0) (ae 2))))
def bL:List D->Option D:=aV sk 3
def p6:au->Option Out:=(aM (aj 3 bL (aa (ae 0) (aa (fC (.int 0)) (aa (f2 Dl.jd (ae 1) (fC (.int 1))) ag)))))
def di:List D->Option D:=aV p6 2
def uM:au->Option Out:=(aM (mf (MQ "tuple" (ae 0)) (lG EK EK (ae 1) (bD bZ (aa (ae 0) ag)) (ae 2))))
def bX:List D->Option D:=aV uM 3
def pM:au->Option Out:=(aw (fX (cC (fB (MQ "tuple" (ae 0)))) (aM (fC (.bool false))) fv) (aw (fX (cC (fB (bD lu (aa (bS (aq 1 [1] (aO (ae 0)) (fG 0) (λ_=>some true) (aj 2 di (aa (ae 0) (aa (ae 1) ag))))) ag)))) (aM (fC (.bool false))) fv) (aM (f2 bC (f1 l6 (ae 0)) (bD bZ (aa (ae 0) ag))))))
def il:List D->Option D:=aV pM 2
def As:au->Option Out:=(aM (mf (aj 3 bX (aa (ae 0) (aa (fC (.int 2)) (aa (fC (.int 2)) ag)))) (mf (aj 3 bL (aa (f2 ay (ae 0) (fC (.int 0))) (aa (fC (.int 0)) (aa (fC (.int 9)) ag)))) (aj 2 il (aa (f2 ay (ae 0) (fC (.int 1))) (aa (ae 1) ag))))))
def gL:List D->Option D:=aV As 2
def AH:au->Option Out:=(aw (fX (cC (fB (aj 3 bX (aa (ae 0) (aa (fC (.int 3)) (aa (fC (.int 3)) ag)))))) (aM (fC (.bool false))) fv) (aM (mf (aj 2 di (aa (f2 ay (ae 0) (fC (.int 0))) (aa (ae 1) ag))) (mf (aj 2 di (aa (f2 ay (ae 0) (fC (.int 1))) (aa (ae 2) ag))) (aj 3 bL (aa (f2 ay (ae 0) (fC (.int 2))) (aa (fC (.int 1)) (aa (fC (.int 9)) ag))))))))
def lM:List D->Option D:=aV AH 3
def pW:au->Option Out:=(aw (fX (ua (cC (fB (aj 3 bX (aa (ae 0) (aa (fC (.int 1)) (aa (fC (.int 4)) ag)))))) (cC (fB (aj 3 bX (aa (ae 1) (aa (fC (.int 1)) (aa (fC (.int 4)) ag))))))) (aM (fC (.bool false))) fv) (aw (fX (cC (fB (bD lu (aa (bS (aq 1 [1] (aO (ae 0)) (fG 0) (λ_=>some true) (aj 2 gL (aa (ae 0) (aa (bD bZ (aa (ae 1) ag)) ag))))) ag)))) (aM (fC (.bool false))) fv) (aw (fX (cC (fB (bD lu (aa (bS (aq 1 [0] (aO (ae 1)) (fG 0) (λ_=>some true) (aj 2 gL (aa (ae 0) (aa (bD bZ (aa (ae 1) ag)) ag))))) ag)))) (aM (fC (.bool false))) fv) (aM (mf (MQ "tuple" (ae 2)) (bD lu (aa (bS (aq 1 [0,1] (aO (ae 2)) (fG 0) (λ_=>some true) (aj 3 lM (aa (ae 0) (aa (bD bZ (aa (ae 1) ag)) (aa (bD bZ (aa (ae 2) ag)) ag)))))) ag)))))))
def iw:List D->Option D:=aV pW 3
def mz:au->Option Out:=(aw (aQ 1 [] (eX ag)) (aw (cX [0] (bf (aa (ae 0) ag)) (gz 2 3) (wg 1 [2,3] (aq 1 [2] (aO (f2 ay (ae 3) (fC (.int 1)))) (fG 0) (λ_=>some true) (aJ (aa (ae 1) (aa (ae 0) ag)))))) (aM (ae 1))))
def bP:List D->Option D:=aV mz 4
def j9:au->Option Out:=(aw (fX (ua (cC (fB (aj 3 bX (aa (ae 0) (aa (fC (.int 3)) (aa (fC (.int 3)) ag)))))) (cC (fB (aj 3 iw (aa (f2 ay (ae 0) (fC (.int 0))) (aa (f2 ay (ae 0) (fC (.int 1))) (aa (f2 ay (ae 0) (fC (.int 2))) ag))))))) (aM (fC (.bool false))) fv) (aw (aQ 1 [0] (aq 1 [] (aO (f2 ay (ae 0) (fC (.int 2)))) (fG 0) (λ_=>some true) (aJ (aa (f2 ay (ae 0) (fC (.int 0))) (aa (f2 ay (ae 0) (fC (.int 1))) ag))))) (aw (aQ 2 [0] (um hU (aa (aj 1 bP (aa (f2 ay (ae 0) (fC (.int 0))) ag)) ag))) (aw (aQ 3 [0] (um hU (aa (bS (aq 2 [] (aO (aj 1 bP (aa (f2 ay (ae 0) (fC (.int 1))) ag))) (gh 0 1) (λ_=>some true) (aJ (aa (ae 1) (aa (ae 0) ag))))) ag))) (aM (mf (f2 bC (ae 1) (ae 2)) (f2 bC (ae 1) (ae 3))))))))
def bT:List D->Option D:=aV j9 4
abbrev VB:=(aa (ae 0) ag)
abbrev zq1:=(aj 1 bT VB)
abbrev zq2:=(fB zq1)
abbrev zq3:=(cC zq2)
def fu:au->Option Out:=(fX zq3 PH fv)
def aZ:List D->Option D:=aV fu 1
def cO:au->Option Out:=(fX (cC (fB (aj 3 bL (aa (ae 0) (aa (ae 1) (aa (ae 2) ag)))))) PH fv)
def dG:List D->Option D:=aV cO 3
def cy:au->Option Out:=(jn (aj 3 dG (aa (ae 0) (aa (fC (.int 0)) (aa (f2 Dl.jd (ae 1) (fC (.int 1))) ag)))))
def dg:List D->Option D:=aV cy 2
abbrev Y0:=(aa (fC (.int 2)) ag)
def gn:au->Option Out:=(jn (aj 2 dg (aa (ae 0) Y0)))
def dy:List D->Option D:=aV gn 1
abbrev zq5:=(aa (ae 2) ag)
def sF:au->Option Out:=(aM (f2 aL (f2 aL (gE cU (ae 0) gX (ui (ae 1))) (aJ zq5)) (gE cU (ae 0) (ui (f2 aL (ae 1) (fC (.int 1)))) gX)))
def m9:List D->Option D:=aV sF 3
abbrev E3:List Str:=["world","side","place","ways","likes","own"]
def oM:au->Option Out:=(aw (aI 3 [0] (f2 ay (ae 0) (fC (.int 2)))) (aw (aI 4 [0,1,2] (f2 ay (f2 ay (f2 ay (ae 0) (ae 1)) (ae 2)) (fC (.int 1)))) (aw (aQ 5 [1,2,3] (aq 2 [1,2] (bf (aa (ae 3) ag)) (gh 0 1) (fB (f2 bC (f2 ay (ae 1) (ae 2)) (ae 3))) (ae 0))) (aM (bS (o7 [1,3,4] (ae 5) (f2 mW (ae 3) (f2 ay (f2 ay (ae 2) (ae 0)) (f2 Dl.jd (fC (.int 1)) (ae 1))))))))))
def jf:List D->Option D:=aV oM 6
def lO:au->Option Out:=(aw (aQ 4 [0] (aq 1 [] (aO (f2 ay (ae 0) (fC (.int 2)))) (fG 0) (λ_=>some true) (fC (.int 0)))) (aw (aI 5 [0,1,2] (f2 ay (f2 ay (f2 ay (ae 0) (ae 1)) (ae 2)) (fC (.int 0)))) (aw (cX [0,1,2] (aO (aj 3 jf (aa (ae 0) (aa (ae 1) (aa (ae 2) ag))))) (ik 6) (aw (Cy 4 [0,3,5,6] (ae 6) (bD AU (aa (f2 ay (ae 3) (ae 6)) (aa (f2 ay (f2 ay (f2 ay (ae 0) (fC (.int 2))) (ae 6)) (fC (.int 2))) (aa (ae 5) ag))))) (aI 5 [4,5,6] (f2 Dl.jd (ae 5) (f2 ay (ae 4) (ae 6)))))) (aM (bD bp (aa (ae 4) ag))))))
def fK:List D->Option D:=aV lO 7
def fU:au->Option Out:=(aw (aQ 3 [0] (aq 1 [] (aO (f2 ay (ae 0) (fC (.int 2)))) (fG 0) (λ_=>some true) (fC (.int 0)))) (aw (cX [0,1] (bh (aa (bD bZ (aa (f2 ay (ae 0) (ae 1)) ag)) ag)) (ik 4) (aw (aI 5 [0,1,2,4] (aj 4 fK (aa (ae 0) (aa (ae 1) (aa (ae 4) (aa (ae 2) ag)))))) (aQ 3 [3,5] (aq 2 [] (eK (aa (ae 3) (aa (ae 5) ag))) (gh 0 1) (λ_=>some true) (f2 aL (ae 0) (ae 1)))))) (aM (bD bp (aa (ae 3) ag)))))
def bK:List D->Option D:=aV fU 6
abbrev X6:=(f2 ay (ae 0) (fC (.int 2)))
def Ax:au->Option Out:=(aM (bD bp (aa (bS (aq 1 [] (aO X6) (fG 0) (λ_=>some true) X6)) ag)))
def sr:List D->Option D:=aV Ax 1
abbrev zq7:=(aa (ae 1) zq5)
abbrev zq8:=(aa (ae 0) zq7)
def uP:au->Option Out:=(aM (aj 3 m9 zq8))
def fg:List D->Option D:=aV uP 3
def oS:au->Option Out:=(aw (aI 2 [0,1] (aj 3 bK (aa (ae 0) (aa (fC (.int 0)) (aa (ae 1) ag))))) (aw (aI 3 [0,2] (aj 3 bK (aa (ae 0) (aa (fC (.int 1)) (aa (ae 2) ag))))) (aw (cX [3] (bf (aa (ae 3) ag)) (gz 4 5) (fX (fB (f2 Bq (ae 5) (f2 ay (ae 2) (ae 4)))) (aM (aJ (aa (ae 4) (aa (ae 5) ag)))) fv)) (aM (fC .none)))))
def iW:List D->Option D:=aV oS 6
abbrev Yv:=(eX ag)
abbrev Yw:=(aj 1 sr VB)
abbrev abW:=(aa (ae 0) zq5)
abbrev abX:=(aj 2 iW abW)
abbrev abY:=(aI 3 [0,2] abX)
abbrev abZ:=(fB (f2 rF (ae 3) (fC .none)))
def yf:au->Option Out:=(aw (aQ 1 [] Yv) (aw (aI 2 [0] Yw) (aw abY (aw (Lj abZ (aw (iR 1 [3] (ae 3)) (aw (aI 2 [2,3] (aj 3 fg (aa (ae 2) (aa (f2 ay (ae 3) (fC (.int 0))) (aa (f2 ay (ae 3) (fC (.int 1))) ag))))) abY)) Rf.turns) (aM (ae 1))))))
def wb:List D->Option D:=aV yf 4
abbrev Ws:=(aO (ae 1))
abbrev aeZ:=(aa (ae 4) ag)
abbrev ab0:=(aa (ae 3) aeZ)
abbrev aau:=(aj 3 fg (aa (ae 2) ab0))
def sS:au->Option Out:=(aw (aI 2 [0] Yw) (aw (cX [1] Ws (gz 3 4) (aI 2 [2,3,4] aau)) (aM (ae 2))))
def rH:List D->Option D:=aV sS 5
abbrev WQ:=(jn (aj 1 aZ VB))
def iy:au->Option Out:=(aw WQ (aM (aj 3 bK (aa (ae 0) (aa (fC (.int 0)) (aa (aj 2 rH (aa (ae 0) (aa (aj 1 wb VB) ag))) ag))))))
def aY:List D->Option D:=aV iy 1
def lj:au->Option Out:=(aw (fX (fB (f2 bC (ae 0) (bS (eX ag)))) (aM (f2 eQ (fC (.int 7)) (ae 1))) fv) (aM (f2 aL (f2 ay (ae 0) (f2 mh (ae 1) (bD bZ (aa (ae 0) ag)))) (f2 eQ (fC (.int 6553)) (f2 nz (ae 1) (bD bZ (aa (ae 0) ag)))))))
def fE:List D->Option D:=aV lj 2
def nF:au->Option Out:=(aw (aI 3 [0,1] (f2 mh (f2 aL (f2 eQ (f2 mh (aj 2 fE (aa (ae 0) (aa (ae 1) ag))) (fC (.int 2147483563))) (fC (.int 69069))) (f2 eQ (fC (.int 104723)) (f2 aL (ae 1) (fC (.int 1))))) (fC (.int 2147483563)))) (aw (aI 3 [3] (f2 mh (f2 aL (f2 eQ (ae 3) (ae 3)) (f2 nz (ae 3) (fC (.int 3)))) (fC (.int 2147483399)))) (aM (f2 mh (f2 nz (f2 mh (f2 aL (f2 eQ (ae 3) (ae 3)) (f2 nz (ae 3) (fC (.int 7)))) (fC (.int 2147483647))) (fC (.int 11))) (ae 2)))))
def av:List D->Option D:=aV nF 4
def my:au->Option Out:=(aw (aQ 3 [] (eX ag)) (aw (cX [2] (bf (aa (ae 2) ag)) (gz 4 5) (aw (aQ 6 [] (eX ag)) (aw (cX [5] (bf (aa (ae 5) ag)) (gz 7 8) (Gv 6 [8] (aj 3 av (aa (ae 0) (aa (f2 aL (f2 aL (ae 1) (f2 eQ (fC (.int 4)) (ae 4))) (ae 7)) (aa (f2 aL (bD bZ (aa (ae 6) ag)) (fC (.int 1))) ag)))) (ae 8))) (iR 3 [6] (bD bp (aa (ae 6) ag)))))) (aM (ae 3))))
def cf:List D->Option D:=aV my 9
def gu:au->Option Out:=(aw (fX (eE (fB (f2 Bu (ae 2) (fC (.int 3)))) (fB (f2 bC (aj 3 av (aa (ae 0) (aa (f2 aL (ae 1) (fC (.int 64))) (aa (fC (.int 4)) ag)))) (fC (.int 0))))) (aw (aI 3 [0,1] (f2 aL (fC (.int 1)) (aj 3 av (aa (ae 0) (aa (f2 aL (ae 1) (fC (.int 65))) (aa (fC (.int 2)) ag)))))) (aw (aI 4 [3] (aJ (aa (aJ (aa (ae 3) (aa (aJ (aa (fC (.int 1)) (aa (fC (.int 0)) ag))) ag))) (aa (aJ (aa (ae 3) (aa (aJ (aa (fC (.int 0)) (aa (fC (.int 1)) ag))) ag))) ag)))) (aM (aJ (aa (aJ (aa (aJ (aa (ae 3) (aa (aJ (aa (fC (.int 0)) (aa (fC (.int 1)) ag))) ag))) (aa (aJ (aa (ae 3) (aa (aJ (aa (fC (.int 1)) (aa (fC (.int 0)) ag))) ag))) ag))) (aa (ae 4) (aa (aJ (aa (aJ (aa (fC (.int 0)) (aa (fC (.int 0)) (aa (fC (.int 2)) ag)))) (aa (aJ (aa (fC (.int 0)) (aa (fC (.int 1)) (aa (fC (.int 2)) ag)))) (aa (aJ (aa (fC (.int 1)) (aa (fC (.int 0)) (aa (fC (.int 2)) ag)))) (aa (aJ (aa (fC (.int 1)) (aa (fC (.int 1)) (aa (fC (.int 2)) ag)))) ag))))) ag))))))) fv) (aw (aI 5 [0,1] (f2 aL (fC (.int 1)) (aj 3 av (aa (ae 0) (aa (ae 1) (aa (fC (.int 3)) ag)))))) (aw (aI 6 [0,1] (f2 aL (fC (.int 1)) (aj 3 av (aa (ae 0) (aa (f2 aL (ae 1) (fC (.int 1))) (aa (fC (.int 3)) ag)))))) (aw (aQ 7 [] (eX ag)) (aw (cX [5,6] (bh (aa (f2 eQ (ae 5) (ae 6)) ag)) (ik 8) (fX (eE (fB (f2 Bq (bD bZ (aa (ae 7) ag)) (ae 2))) (fB (f2 Bu (aj 3 av (aa (ae 0) (aa (f2 aL (f2 aL (ae 1) (fC (.int 2))) (ae 8)) (aa (fC (.int 4)) ag)))) (fC (.int 0))))) (iR 7 [0,1,6,8] (aJ (aa (f2 nz (ae 8) (ae 6)) (aa (f2 mh (ae 8) (ae 6)) (aa (f2 aL (fC (.int 1)) (aj 3 av (aa (ae 0) (aa (f2 aL (f2 aL (ae 1) (fC (.int 12))) (ae 8)) (aa (fC (.int 2)) ag))))) ag))))) fv)) (aw (aI 9 [0,1,5,7] (aj 3 cf (aa (ae 0) (aa (f2 aL (ae 1) (fC (.int 24))) (aa (bS (aq 1 [7] (bh (aa (ae 5) ag)) (fG 0) (λ_=>some true) (bS (aq 1 [0] (aO (ae 1)) (fG 0) (fB (f2 bC (f2 ay (ae 0) (fC (.int 0))) (ae 1))) (f2 ay (ae 0) (fC (.int 1))))))) ag))))) (aw (aI 10 [0,1,6,7] (aj 3 cf (aa (ae 0) (aa (f2 aL (ae 1) (fC (.int 40))) (aa (bS (aq 1 [7] (bh (aa (ae 6) ag)) (fG 0) (λ_=>some true) (bS (aq 1 [0] (aO (ae 1)) (fG 0) (fB (f2 bC (f2 ay (ae 0) (fC (.int 1))) (ae 1))) (f2 ay (ae 0) (fC (.int 0))))))) ag))))) (aw (aI 11 [0,1,8,9] (bD bp (aa (bS (aq 2 [0,1] (bf (aa (ae 9) ag)) (gh 0 1) (λ_=>some true) (aJ (aa (aj 3 av (aa (ae 2) (aa (f2 aL (f2 aL (ae 3) (fC (.int 56))) (ae 0)) (aa (fC (.int 4)) ag)))) (aa (ae 1) ag))))) ag))) (aw (aI 4 [0,1,8,10] (bD bp (aa (bS (aq 2 [0,1] (bf (aa (ae 10) ag)) (gh 0 1) (λ_=>some true) (aJ (aa (aj 3 av (aa (ae 2) (aa (f2 aL (f2 aL (ae 3) (fC (.int 60))) (ae 0)) (aa (fC (.int 4)) ag)))) (aa (ae 1) ag))))) ag))) (aM (aJ (aa (ae 11) (aa (ae 4) (aa (bD bp (aa (ae 7) ag)) ag))))))))))))))
def cE:List D->Option D:=aV gu 12
def vd:au->Option Out:=(aM (bD uf (aa (bS (aq 2 [2,3] (eK (aa (f2 ay (ae 0) (fC (.int 2))) (aa (ae 1) ag))) (gh 0 1) (fB (f2 bC (f2 ay (ae 0) (ae 2)) (ae 3))) (ae 1))) ag)))
def dU:List D->Option D:=aV vd 4
def kr:au->Option Out:=(aM (bD lu (aa (bS (aq 2 [0,1,2] (bf (aa (f2 ay (ae 0) (ae 2)) ag)) (gh 0 1) (λ_=>some true) (f2 EK (aj 4 dU (aa (ae 2) (aa (ae 3) (aa (ae 4) (aa (ae 0) ag))))) (f2 ay (ae 1) (fC (.int 0)))))) ag)))
def dM:List D->Option D:=aV kr 3
def pC:au->Option Out:=(aw (aI 2 [0] (f2 ay (ae 0) (fC (.int 2)))) (aw (fX (cC (fB (aj 3 bX (aa (ae 1) (aa (bD bZ (aa (ae 2) ag)) (aa (bD bZ (aa (ae 2) ag)) ag)))))) (aM (fC (.bool false))) fv) (aw (fX (cC (fB (bD lu (aa (bS (aq 2 [] (eK (aa (ae 2) (aa (ae 1) ag))) (gh 0 1) (λ_=>some true) (aj 3 bL (aa (ae 1) (aa (fC (.int 0)) (aa (f2 ay (ae 0) (fC (.int 2))) ag)))))) ag)))) (aM (fC (.bool false))) fv) (aM (mf (aj 3 dM (aa (ae 0) (aa (ae 1) (aa (fC (.int 0)) ag)))) (aj 3 dM (aa (ae 0) (aa (ae 1) (aa (fC (.int 1)) ag)))))))))
def iS:List D->Option D:=aV pC 3
abbrev Wb:=(aa (ae 1) ag)
abbrev Yx:=(aa (ae 0) Wb)
abbrev ab1:=(cC (fB (aj 2 iS Yx)))
def gx:au->Option Out:=(aw WQ (fX ab1 PH fv))
def jy:List D->Option D:=aV gx 2
abbrev sV:List Str:=["world","ways"]
def gP:au->Option Out:=(aw (aI 1 [0] (f2 ay (ae 0) (fC (.int 2)))) (aM (bS (tj [1] (aa (bD bZ (aa (ae 1) ag)) ag) (aJ (aa (f2 ay (f2 ay (ae 1) (ae 0)) (fC (.int 1))) (aa (f2 ay (f2 ay (ae 1) (ae 0)) (fC (.int 0))) ag)))))))
def bF:List D->Option D:=aV gP 2
def sy:au->Option Out:=(aw (jn (aj 1 aZ (aa (ae 0) ag))) (aw (aQ 1 [0] (aq 1 [0] (aO (aj 1 bF (aa (ae 0) ag))) (fG 0) (λ_=>some true) (f2 ay (f2 ay (ae 1) (fC (.int 2))) (ae 0)))) (aM (aJ (aa (f2 ay (ae 0) (fC (.int 1))) (aa (f2 ay (ae 0) (fC (.int 0))) (aa (bD bp (aa (bS (aq 3 [] (aO (ae 1)) (J7 0 1 2) (λ_=>some true) (aJ (aa (ae 1) (aa (ae 0) (aa (ae 2) ag)))))) ag)) ag)))))))
def rV:List D->Option D:=aV sy 2
def iB:au->Option Out:=(aw (jn (aj 2 jy (aa (ae 0) (aa (ae 1) ag)))) (aM (bD bp (aa (bS (aq 1 [1] (aO (aj 1 bF (aa (ae 0) ag))) (fG 0) (λ_=>some true) (f2 ay (ae 1) (ae 0)))) ag))))
def iK:List D->Option D:=aV iB 2
def jr:au->Option Out:=(aw (aI 4 [0,2,3] (f2 ay (f2 ay (f2 ay (ae 0) (fC (.int 2))) (ae 3)) (ae 2))) (aw (fX (fB (f2 Bq (aj 4 dU (aa (ae 0) (aa (ae 1) (aa (ae 2) (aa (ae 4) ag))))) (f2 ay (f2 ay (f2 ay (ae 0) (ae 2)) (ae 4)) (fC (.int 0))))) (aM (fC (.bool true))) fv) (aw (aI 5 [0,2,4] (aj 3 jf (aa (ae 0) (aa (ae 2) (aa (ae 4) ag))))) (aw (aI 6 [3,5] (gE cU (ae 5) (ui (f2 aL (f2 mW (ae 5) (ae 3)) (fC (.int 1)))) gX)) (aM (bD Rf.JS (aa (bS (aq 1 [1] (aO (ae 6)) (fG 0) (λ_=>some true) (f2 Bu (f2 ay (ae 1) (ae 0)) (fC (.int 0))))) ag)))))))
def gC:List D->Option D:=aV jr 7
abbrev ab2:=(f2 ay (ae 1) (ae 2))
abbrev aav:=(f2 ay X6 (ae 2))
abbrev ae0:=(f2 bC ab2 (f2 ay aav (fC (.int 2))))
abbrev ab3:=(fB ae0)
abbrev ae1:=(aa (ae 1) (aa (fC (.int 0)) zq5))
abbrev ae2:=(aa (ae 0) ae1)
abbrev ae3:=(aj 4 gC ae2)
abbrev ae4:=(fB ae3)
abbrev ab4:=(cC ae4)
abbrev ae5:=(aa (ae 1) (aa (fC (.int 1)) zq5))
abbrev ae6:=(aa (ae 0) ae5)
abbrev ae7:=(aj 4 gC ae6)
abbrev ae8:=(fB ae7)
abbrev ab5:=(cC ae8)
def m6:au->Option Out:=(aw (fX ab3 (aM (fC (.str "full"))) fv) (aw (fX ab4 (aM (fC (.str "giver"))) fv) (aw (fX ab5 (aM (fC (.str "taker"))) fv) (aM (fC .none)))))
def mL:List D->Option D:=aV m6 3
abbrev ae9:=(bD bZ Wb)
abbrev ab6:=(aa ae9 ag)
abbrev aaw:=(bh ab6)
abbrev afa:=(aj 3 mL zq8)
abbrev afb:=(f2 yg afa (fC .none))
abbrev aax:=(fB afb)
def f7:au->Option Out:=(aw (cX [1] aaw (ik 2) (fX aax (aM (ae 2)) fv)) (aM (fC .none)))
def fS:List D->Option D:=aV f7 3
def m8:au->Option Out:=(aM (f2 yg (aj 2 fS Yx) (fC .none)))
def mZ:List D->Option D:=aV m8 2
abbrev ab7:=(aj 1 rV VB)
abbrev ab8:=(aI 1 [0] ab7)
abbrev afc:=(aa (aj 1 aY Wb) ag)
abbrev ab9:=(aa (ae 1) afc)
def iG:au->Option Out:=(aw ab8 (aM (aj 2 iK ab9)))
def fj:List D->Option D:=aV iG 2
def pY:au->Option Out:=(aM (bD uf (aa (bS (aq 2 [2,3] (eK (aa (ae 1) (aa (f2 ay (ae 0) (fC (.int 2))) ag))) (gh 0 1) (fB (f2 bC (f2 ay (ae 1) (ae 2)) (ae 3))) (ae 0))) ag)))
def fI:List D->Option D:=aV pY 4
abbrev aay:=(f2 ay (ae 0) (ae 2))
abbrev aaz:=(aa aay ag)
abbrev aaA:=(aa (ae 3) ag)
abbrev afd:=(aa (ae 2) aaA)
abbrev afe:=(aa (ae 1) afd)
abbrev aff:=(aa (ae 0) afe)
abbrev aca:=(aj 4 fI aff)
abbrev afg:=(f2 ay (ae 4) (fC (.int 0)))
abbrev afh:=(f2 Bu aca afg)
abbrev aaB:=(fB afh)
abbrev VV:=(aM (fC (.bool false)))
abbrev acb:=(cX [0,2] (bf aaz) (gz 3 4) (fX aaB VV fv))
abbrev aaC:=(aM (fC (.bool true)))
def lQ:au->Option Out:=(aw (cX [] (bh Y0) (ik 2) acb) aaC)
def iq:List D->Option D:=aV lQ 5
abbrev acd:=(aQ 1 [] (eX (aa (aJ ag) ag)))
abbrev Yy:=(aQ 3 [] Yv)
abbrev ace:=(f2 ay (ae 2) (fC (.int 2)))
abbrev acf:=(f2 aL ace (fC (.int 1)))
abbrev afi:=(aa acf ag)
abbrev acg:=(bh afi)
abbrev ach:=(aq 1 [4] acg (fG 0) (λ_=>some true) (f2 aL (ae 1) (aJ VB)))
abbrev aci:=(aQ 3 [2,3,4] (QN p9 (ae 3) (bS ach)))
abbrev YA:=(aI 1 [3] (ae 3))
abbrev XN:=(aa (ae 1) VB)
def j8:au->Option Out:=(aw acd (aw (cX [0] (aO X6) (ik 2) (aw Yy (aw (cX [1] Ws (ik 4) aci) YA))) (aM (bS (aq 1 [0] Ws (fG 0) (fB (aj 2 iq XN)) (ae 0))))))
def js:List D->Option D:=aV j8 5
abbrev acj:=(aa ace ag)
abbrev YB:=(aa (fC (.int 0)) ag)
def z7:au->Option Out:=(aw (aI 3 [] (aJ ag)) (aw (cX [2] (bf acj) (gz 4 5) (aw (aI 6 [0,1,3,4,5] (f2 aL (ae 3) (aJ (aa (aj 3 av (aa (ae 0) (aa (f2 aL (ae 1) (ae 4)) (aa (f2 aL (f2 ay (ae 5) (fC (.int 2))) (fC (.int 1))) ag)))) ag)))) (aw (aI 7 [2,6] (aj 2 iq (aa (ae 2) (aa (f2 aL (ae 6) (f2 eQ (aJ YB) (f2 Dl.jd (bD bZ acj) (bD bZ (aa (ae 6) ag))))) ag)))) (aI 3 [3,6,7] (My (fB (ae 7)) (ae 6) (f2 aL (ae 3) (aJ YB))))))) (aM (ae 3))))
def AE:List D->Option D:=aV z7 8
def pU:au->Option Out:=(aM (f2 bC (aj 1 aY VB) (aj 1 fj VB)))
def fJ:List D->Option D:=aV pU 1
abbrev ack:=(cX [0] (aO X6) (ik 2) (aI 1 [1,2] (f2 eQ (ae 1) acf)))
abbrev afj:=(f2 Bu (ae 1) (fC (.int 3000)))
abbrev aaD:=(fB afj)
def dv:au->Option Out:=(aw (aI 1 [] (fC (.int 1))) (aw ack (fX aaD PH fv)))
def du:List D->Option D:=aV dv 3
abbrev aaE:=(aO (ae 0))
def fW:au->Option Out:=(aw acd (aw (cX [0] aaE (ik 2) (aw Yy (aw (cX [1] Ws (ik 4) (wg 3 [2,4] ach)) YA))) (aM (ae 1))))
def fY:List D->Option D:=aV fW 5
def lD:au->Option Out:=(aw WQ (aw (jn (aj 1 du VB)) (aM (bS (aq 1 [0] (aO (aj 1 fY (aa X6 ag))) (fG 0) (fB (aj 2 iS XN)) (ae 0))))))
def bQ:List D->Option D:=aV lD 1
def lr:au->Option Out:=(aM (bS (aq 1 [0] (aO (aj 1 bQ VB)) (fG 0) (fB (aj 2 mZ XN)) (ae 0))))
def cB:List D->Option D:=aV lr 1
abbrev XO:=(f2 ay (ae 1) (fC (.int 0)))
abbrev afk:=(f2 ay XO (ae 2))
abbrev acm:=(f2 bC aay afk)
abbrev afl:=(aq 1 [0,1] aaE (fG 0) (λ_=>some true) acm)
abbrev afm:=(bS afl)
abbrev acn:=(aa afm ag)
def mM:au->Option Out:=(aM (bD lu acn))
def nh:List D->Option D:=aV mM 2
abbrev aco:=(aa (ae 2) VB)
def so:au->Option Out:=(aw (aI 1 [0] (aj 1 cB VB)) (aM (bS (aq 2 [1] (bf (aa XO ag)) (gh 0 1) (fB (aj 2 nh aco)) (aJ Yx)))))
def k8:List D->Option D:=aV so 2
abbrev afn:=(bD bZ aaz)
abbrev afo:=(aa afn ag)
abbrev acp:=(bh afo)
abbrev acq:=(aa (ae 3) VB)
abbrev afp:=(aa (ae 2) acq)
abbrev afq:=(aa (ae 1) afp)
abbrev acr:=(aj 4 dU afq)
abbrev afr:=(aq 1 [0,1,2] acp (fG 0) (λ_=>some true) acr)
abbrev afs:=(bS afr)
abbrev acs:=(aa afs ag)
def iA:au->Option Out:=(aM (bD bp acs))
def ft:List D->Option D:=aV iA 3
abbrev Xh:=(aa (ae 1) YB)
abbrev aaF:=(aa (ae 0) Xh)
def sQ:au->Option Out:=(aw (aI 1 [0] (aj 1 aY VB)) (aM (aJ (aa (aj 3 ft aaF) (aa (aj 3 ft (aa (ae 0) (aa (ae 1) (aa (fC (.int 1)) ag)))) ag)))))
def jh:List D->Option D:=aV sQ 2
abbrev acu:=(f2 ay (ae 0) (ae 1))
abbrev acv:=(aa acu ag)
def y6:au->Option Out:=(aw WQ (aw (jn (aj 1 dy Wb)) (aw (aI 2 [0,1] (f2 ay (aj 1 jh VB) (ae 1))) (aM (bS (aq 2 [2] (bf acv) (gh 0 1) (fB (f2 Bq (f2 ay (ae 2) (ae 0)) XO)) (ae 0)))))))
def j3:List D->Option D:=aV y6 3
open PySem L2 Dl PySem.Spec PyProof.Rows Ex
def tN:XS:=(Jm zq3 (PR "NoWorld") mX)
def bq:List D->Option Str:=kc tN 1
abbrev aft:=(sO 1 bq VB)
abbrev XQ:=(iH aft)
def tZ:XS:=(gg XQ WQ (Jm ab1 (PR "NoPlan") mX))
def ou:List D->Option Str:=kc tZ 2
def FV:XS:=XQ
def AK:List D->Option Str:=kc FV 2
def tG:XS:=(iH (sO 2 ou Yx))
def mv:List D->Option Str:=kc tG 2
def td:XS:=XQ
def cQ:List D->Option Str:=kc td 1
def rX:XS:=(gg (iH (sO 1 AK VB)) ab8 (iH (sO 2 mv ab9)))
def ub:List D->Option Str:=kc rX 2
abbrev acw:=(f2 ay aay (ae 3))
abbrev acx:=(f2 ay acw (fC (.int 0)))
abbrev acy:=(f2 Bq aca acx)
abbrev Y1:=(fB acy)
abbrev Y2:=(f2 ay acw (fC (.int 1)))
abbrev Y3:=(aa (ae 1) (aa X6 ag))
abbrev acz:=(f2 ay (ae 7) (ae 2))
abbrev acA:=(f2 bC acz (ae 3))
abbrev Y4:=(fB acA)
abbrev acB:=(f2 Bu (ae 6) (fC (.int 0)))
abbrev Y5:=(fB acB)
abbrev acC:=(f2 Dl.jd (fC (.int 1)) (ae 2))
abbrev acD:=(f2 ay (ae 7) acC)
abbrev acE:=(f2 mW (ae 5) acD)
abbrev acF:=(f2 mW (ae 5) (ae 4))
abbrev acG:=(f2 Bu acE acF)
abbrev acH:=(fB acG)
abbrev acI:=(eE Y5 acH)
abbrev Y6:=(eE Y4 acI)
abbrev Y7:=(fX Y6 aaC fv)
def kb:au->Option Out:=(aw (fX Y1 aaC fv) (aw (aI 5 [0,2,3] Y2) (aw (cX [0,1] (eK Y3) (gz 6 7) Y7) VV)))
def gm:List D->Option D:=aV kb 8
abbrev acJ:=(f2 bC ab2 (ae 5))
abbrev Y8:=(fB acJ)
abbrev acK:=(aa (fC (.int 0)) ab0)
abbrev acL:=(aa (ae 1) acK)
abbrev acM:=(aa (ae 0) acL)
abbrev acN:=(aj 5 gm acM)
abbrev acO:=(fB acN)
abbrev Y9:=(cC acO)
abbrev acP:=(aa (fC (.int 1)) (aa (ae 4) aaA))
abbrev acQ:=(aa (ae 1) acP)
abbrev acR:=(aa (ae 0) acQ)
abbrev acS:=(aj 5 gm acR)
abbrev Zu:=(fB acS)
def mR:au->Option Out:=(aw (pd 3 4 5 [0,2] aav) (aw (fX Y8 (aM (fC (.str "full"))) fv) (aw (fX Y9 (aM (fC (.str "giver"))) fv) (aM (My Zu (fC .none) (fC (.str "taker")))))))
def mQ:List D->Option D:=aV mR 6
abbrev acT:=(aa (ae 1) aco)
abbrev acU:=(aj 3 mQ acT)
abbrev acV:=(f2 yg acU (fC .none))
abbrev Zv:=(fB acV)
def jx:au->Option Out:=(aM (f2 bC (bS (aq 1 [0,1] aaw (fG 0) Zv (ae 0))) (bS Yv)))
def j5:List D->Option D:=aV jx 2
abbrev acW:=(aj 3 bL zq8)
abbrev acX:=(fB acW)
abbrev WY:=(cC acX)
def tL:XS:=(Jm WY (PR "NoPlace") mX)
def fy:List D->Option Str:=kc tL 3
abbrev XR:=(aa (fC (.int 0)) (aa (f2 Dl.jd (ae 1) (fC (.int 1))) ag))
def qh:XS:=(iH (sO 3 fy (aa (ae 0) XR)))
def eD:List D->Option Str:=kc qh 2
def ur:XS:=(iH (sO 2 eD (aa (ae 0) Y0)))
def ee:List D->Option Str:=kc ur 1
def iC:XS:=(ya (aI 1 [] (fC (.int 1))) (ya ack (Jm aaD (PR "TooMany") mX)))
def eC:List D->Option Str:=kc iC 3
def vz:XS:=(gg XQ WQ (iH (sO 1 eC VB)))
def cZ:List D->Option Str:=kc vz 1
def zf:XS:=(iH (sO 1 cZ VB))
def dW:List D->Option Str:=kc zf 1
def yz:XS:=(iH (sO 1 cQ VB))
def gZ:List D->Option Str:=kc yz 1
def Fs:XS:=(iH (sO 1 dW VB))
def nC:List D->Option Str:=kc Fs 2
def EU:XS:=(iH (sO 1 cQ VB))
def nG:List D->Option Str:=kc EU 2
def Gd:XS:=(gg XQ WQ (iH (sO 1 ee Wb)))
def oF:List D->Option Str:=kc Gd 3
abbrev acY:=(f2 bC (ae 0) (fC (.int 5)))
abbrev WZ:=(fB acY)
abbrev Zw:=(fX WZ (aM (aj 2 j3 zq7)) fv)
def qf:au->Option Out:=(zu (aw Zw (aM (tP 1 [bQ,cB,k8,fJ,jh] (ae 0) Wb))) (gg (Jm WZ (iH (sO 2 oF zq7)) mX) Zw (iH (og 1 [cZ,dW,nC,gZ,nG] (ae 0) Wb))) (n8 ["NoWorld","NoPlan","NoPlace","TooMany","Nothing"]))
def aA:List D->Option D:=aV qf 4
abbrev uE:List Str:=["_law_script","_law_world_here","_law_plans_here","_law_rows","_law_alike","_law_way","_law_sums","_law_side","_law_due","_law_limit","_law_wide","_law_many","_law_odd"]
abbrev Zx:=(aq 1 [1] (aO (ae 2)) (fG 0) (fB (aj 2 j5 XN)) (ae 0))
abbrev acZ:=(f2 ay (ae 1) (ae 7))
abbrev Zy:=(aa acZ ag)
abbrev ac0:=(bD bZ Zy)
abbrev Zz:=(aa ac0 ag)
abbrev ac1:=(bh Zz)
abbrev ZA:=(f1 Kb (fC (.int 1)))
abbrev ac2:=(f2 ay (ae 2) ZA)
abbrev ac3:=(aa ac2 acq)
abbrev ZC:=(aa (ae 1) ac3)
abbrev ac4:=(aj 4 fI ZC)
abbrev ac5:=(aq 1 [1,3,7] ac1 (fG 0) (λ_=>some true) ac4)
abbrev ac6:=(bS ac5)
abbrev ac7:=(aa ac6 ag)
abbrev ZD:=(bD bp ac7)
abbrev ZE:=(iR 6 [1,3,7] ZD)
abbrev ZF:=(aq 2 [6,7] (bf Zy) (gh 0 1) (fB (f2 Bq (f2 ay (f2 ay (ae 2) (ae 3)) (ae 0)) XO)) (ae 0))
abbrev ac8:=(aa (ae 1) (aa (ae 7) ag))
abbrev ac9:=(aa (fC (.int 5)) ac8)
abbrev ada:=(aj 3 aA ac9)
abbrev adb:=(f2 gN ada (ae 8))
abbrev ade:=(fB adb)
abbrev ZH:=(fX ade VV fv)
abbrev W0:=(ui (fC (.int 2)))
abbrev ZI:=(aO (f2 ay (ae 10) (fC (.int 2))))
abbrev ZJ:=(f2 Bu (ae 11) (fC (.int 3000)))
abbrev XU:=(aa (fC (.int 3)) ag)
abbrev ZK:=(aq 1 [10] (bh XU) (fG 0) (λ_=>some true) (aj 3 aA aaF))
abbrev adf:=(aa (gE cU (ae 1) gX W0) zq5)
abbrev ZL:=(aa (ae 0) adf)
def lZ:au->Option Out:=(aw (aI 1 [0] (aj 3 cE (aa (ae 0) (aa (fC (.int 0)) (aa (fC (.int 4)) ag))))) (aw (aI 2 [1] (aj 1 js Wb)) (aw (aQ 3 [1,2] Zx) (aw (fX (ua (fB (f2 gN (aj 3 aA (aa (fC (.int 0)) Xh)) (ae 2))) (fB (f2 gN (aj 3 aA (aa (fC (.int 1)) Xh)) (ae 3)))) VV fv) (aw (fX (fB (f2 gN (aj 3 aA (aa (fC (.int 3)) Xh)) (f2 bC (bD bZ aaA) (fC (.int 1))))) VV fv) (aw (aQ 4 [] Yv) (aw (cX [1] (bh (aa (bD bZ (aa (f2 ay (ae 1) (fC (.int 2))) ag)) ag)) (ik 5) (fX (fB (f2 bC (f1 fF (bS (aq 1 [5] (aO (ae 3)) (fG 0) (λ_=>some true) acu))) (fC (.int 1)))) (iR 4 [3,5] (aJ (aa (ae 5) (aa (f2 ay (f2 ay (ae 3) (fC (.int 0))) (ae 5)) ag)))) fv)) (aw (fX (fB (f2 gN (aj 3 aA (aa (fC (.int 2)) Xh)) (ae 4))) VV fv) (aw (aQ 6 [] Yv) (aw (cX [] (bh Y0) (ik 7) (aw ZE (aw (rZ 8 [1,6,7] ZF) ZH))) (aw (fX (fB (f2 gN (aj 3 aA (aa (fC (.int 4)) Xh)) (bD bp (aa (ae 6) ag)))) VV fv) (aw (aI 9 [0] (f2 aL (fC (.int 1)) (aj 3 av (aa (ae 0) (aa (fC (.int 70)) (aa (fC (.int 9)) ag)))))) (aw (aI 10 [0] (aj 3 cE (aa (ae 0) (aa (fC (.int 80)) (aa (fC (.int 9)) ag))))) (aw (aI 10 [5,9,10] (f2 aL (gE cU (ae 10) gX W0) (aJ (aa (bD bp (aa (bS (aq 1 [9] ZI (fG 0) (λ_=>some true) (f2 aL (gE cU (ae 0) gX W0) (aJ Wb)))) ag)) ag)))) (aw (aI 11 [] (fC (.int 1))) (aw (cX [10] ZI (ik 5) (aI 11 [9,11] (f2 eQ (ae 11) (f2 aL (ae 9) (fC (.int 1)))))) (aw (fX (eE (fB ZJ) (fB (f2 gN (bS ZK) (bS (uK (eX (aa (aJ (aa (fC (.str "refused")) XU)) ag)) (fC (.int 3))))))) VV fv) (aw (aI 12 [0] (f2 ay (bS (eX (aa ZA (aa (fC (.int 2)) (aa (fC (.bool true)) (aa (fC .none) (aa (fC (.str "0")) ag))))))) (aj 3 av (aa (ae 0) (aa (fC (.int 71)) (aa (fC (.int 5)) ag)))))) (aw (fX (fB (f2 gN (aj 3 aA (aa (fC (.int 5)) (aa (ae 1) (aa (ae 12) ag)))) (aJ (aa (fC (.str "refused")) Y0)))) VV fv) (aM (f2 bC (bS (aq 1 [1,12] (bh (aa (fC (.int 6)) ag)) (fG 0) (λ_=>some true) (aj 3 aA ZL))) (bS (uK (eX (aa (aJ (aa (fC (.str "refused")) YB)) ag)) (fC (.int 6)))))))))))))))))))))))))
def i6:List D->Option D:=aV lZ 13
end Pg
namespace K30
open PySem L2 Dl PySem.Spec PyProof.Rows
open Pg Ex Rg
abbrev Uq:List Str:=["NoWorld","NoPlan","NoPlace","TooMany","Nothing"]
abbrev TU:List Str:=["NoPlace","NoPlan","NoWorld","TooMany"]
abbrev gi:List (Str×Int):=[("MOST_PLACES",4),("MOST",9),("MOST_LISTED",3000)]
abbrev Ls:FT:=("_law_told",3,aA)::("_law_rests",2,j5)::("_law_why",3,mQ)::("_law_wants",5,gm)::("_law_plan",3,AE)::("_law_plans",1,js)::("_law_fits",2,iq)::("_law_used",4,fI)::("_law_world",3,cE)::("_law_orders",3,cf)::("_law_drawn",3,av)::("_law_cell",2,fE)::("short",2,j3)::("totals",1,jh)::("through_all",3,ft)::("always",1,k8)::("is_alike",2,nh)::("is_single",1,fJ)::("all_rests",1,cB)::("all_plans",1,bQ)::("within_limits",1,fY)::("check_many",1,du)::("takers_best",1,fj)::("givers_best",1,aY)::("capped",2,rH)::("steps",1,wb)::("refused",2,iW)::("lowered",3,fg)::("limits",1,sr)::("chosen_by_all",3,bK)::("is_still",2,mZ)::("first_leaving",2,fS)::("why_kept",3,mL)::("wants_more",4,gC)::("chosen_by",4,fK)::("ways_of",3,jf)::("turned_plan",2,iK)::("turned",1,rV)::("turned_order",1,bF)::("replaced",3,m9)::("check_side",1,dy)::("check_number",2,dg)::("check_whole",3,dG)::("check_plan",2,jy)::("check_world",1,aZ)::("is_plan",2,iS)::("keeps_amounts",3,dM)::("through",4,dU)::("is_world",1,bT)::("liked_pairs",1,bP)::("are_parts",3,iw)::("is_way",3,lM)::("is_end",2,gL)::("are_likes",2,il)::("is_long",3,bX)::("is_number",2,di)::("is_whole",3,bL)::[]
abbrev Xs:XT:=("short",2,oF)::("totals",1,nG)::("always",1,nC)::("is_single",1,gZ)::("all_rests",1,dW)::("all_plans",1,cZ)::("check_many",1,eC)::("takers_best",1,ub)::("givers_best",1,cQ)::("turned_plan",2,mv)::("turned",1,AK)::("check_side",1,ee)::("check_number",2,eD)::("check_whole",3,fy)::("check_plan",2,ou)::("check_world",1,bq)::[]
def P5:Rf.tW (top 73) uE ⟨Ls,gi⟩ none=some lZ:=by kernel_rfl
structure OG(K:W.Frag)(mg:Str->Option Value):Prop where
 o:∀P w base,Ok P w K mg base gi TU 63 Ls Xs
 c:BN K mg "law" (top 73) ["_law_script"]
def Pv{P:Program}{w:World}{K:W.Frag}{mg:Str->Option Value}{fa:Addr}(D:OG K mg)(hfa:mg "law"=some (.ref fa)):∃fd:FuncData,(∀ (s:Shared) (v:Value),BindsTo s fd ⟨[v],[]⟩ [("_law_script",v)])/\∀base:Heap,K.In base->base.Ns mainGlobals mg->nK P w K mg base HC 64 fa fd ["_law_script"] (Pq K 1 i6):=by
 let⟨f,fd,hm,F,hb⟩:=D.c.ex;rw[hfa] at hm;cases hm;refine⟨fd,λs v=>?_,λbase _ _=>MA F (Rf.RI (N:=uE)) λX hP hw hK VP V8 C _ _ HF H=>by subst hP;subst hw;subst hK;subst VP;subst V8;have o:=D.o X.prog X.w X.base;exact Rf.MD C o.ob o.of o.oi P5⟩;let⟨oc,od,kV,doc,pm,an,UT,ct,Wx,rfl,lk,Vd⟩:=F.ex;exact .of_eq rfl
def walk{l:W.OpenLaw}{q:Program}{loose:List Str}{XP:(Str->Option Value)->Heap->Prop}{YP:World->Heap->Prop}{d:DefRec}{K:Params->W.Frag}{ts:List Addr}(hn:l.most=some 63)(hdf:d.params.defaults=[])(adg:d.name="law")
  (hY:∀ (w:World) (h:Heap),YP w h->(K w.params).In h/\∀P∈ts,h.get? P=some (W.tabObj #[])) (ht:∀w:World,oD (K w.params) ts=true) (hI:∀ (w:World) {h:Heap}{mg:Str->Option Value},(K w.params).In h->h.Ns mainGlobals mg->OG (K w.params) mg) (main:∀ns:List Int,ns.length<=63->i6 [.list (ns.map PyData.int)]=some (.bool true)) :
  W.WalkO q loose XP YP l.row.toRowW d [] (λf vs=>PySem.call f vs) :=
 IU (n:=63) (k:=64) (x:="_law_script") (CX:=λ_=>HC) (sp:=λw=>Pq (K w.params) 1 i6) hn (by decide) hdf ⟨rfl,by decide,by decide⟩ hY ht (λw mg fa h KX G hmg=>Pv (hI w KX G) (by rw[<- adg];exact hmg)) (λ_ _ a ns hl hT hS=>B6 hS hT (main ns hl)) λ_ _ _ _ _ z=>z
end K30
namespace Dl
open PySem L2 PySem.Spec PyProof.Rows
def zw:D->Prop|.none=>True|.bool _=>True|.int _=>True|.str x=>PyData.canLay0 (.str x)=true|_=>False
def iz(b:Nat):Nat->D->Prop
 | 0,d=>zw d
 | k+1,d=>zw d\/(∃xs,(d=.list xs\/d=.tuple xs)/\xs.length<=b/\∀x∈xs,iz b k x)
def iz.leaf(h:zw d):iz b k d:=by
 cases k with
 | zero=>exact h
 | succ k=>exact .inl h
def iz.tup(hb:xs.length<=b)(h:∀x∈xs,iz b k x):iz b (k+1) (.tuple xs):=.inr ⟨xs,.inr rfl,hb,h⟩
def iz.lst(hb:xs.length<=b)(h:∀x∈xs,iz b k x):iz b (k+1) (.list xs):=.inr ⟨xs,.inl rfl,hb,h⟩
def iz.U6(h:iz b k (.tuple xs)):∃j,k=j+1/\xs.length<=b/\∀x∈xs,iz b j x:=by
 cases k with
 | zero=>cases h
 | succ k =>
  rcases h with h|⟨ys,h|h,h1,h2⟩
  ·cases h
  ·cases h
  ·cases h;exact⟨k,rfl,h1,h2⟩
def iz.mono(hb:b<=b'):∀ {k k':Nat}{d:D},k<=k'->iz b k d->iz b' k' d
 | 0,k',d,_,h=>.leaf h
 | k+1,0,d,hk,h=>by lia
 | k+1,k'+1,d,hk,h=>by
  rcases h with h|⟨xs,h,h1,h2⟩
  ·exact .inl h
  ·exact .inr ⟨xs,h,yD h1 hb,λx hx=>(h2 x hx).mono hb (by lia)⟩
def Ez{b:Nat}:∀ {xs:List D},(∀x∈xs,PyData.canLay0 x=true/\x.depth<=k)->PyData.canLayAll0 xs=true/\PyData.depthAll xs<=k
 | [],_=>⟨by simp[PyData.canLayAll0],by simp[PyData.depthAll]⟩
 | x::xs,h=>by
  let⟨a,c⟩:=Ez (b:=b) (xs:=xs) λy hy=>h y (zC _ hy);let⟨a',c'⟩:=h x zE;exact⟨by simp[PyData.canLayAll0,a,a'],by simp[PyData.depthAll];lia⟩
def iz.lay:∀ {k:Nat}{d:D},iz b k d->PyData.canLay0 d=true/\d.depth<=k:=by
 have lf:∀ {k:Nat}{d:D},zw d->PyData.canLay0 d=true/\d.depth<=k:=λ{k d} h=>by
  cases d<;>simp?[zw] at h<;>first|exact⟨h,by simp[PyData.depth]⟩|exact⟨by simp[PyData.canLay0],by simp[PyData.depth]⟩
 intro k
 induction k with
 | zero=>exactλh=>lf h
 | succ k ih =>
  intro d h;rcases h with h|⟨xs,h,h1,h2⟩
  ·exact lf h
  ·let⟨a,c⟩:=Ez (b:=b) (xs:=xs) λy hy=>ih (h2 y hy);rcases h with rfl|rfl
   ·exact⟨by simp[PyData.canLay0,a],by simp[PyData.depth];lia⟩
   ·exact⟨by simp[PyData.canLay0,a],by simp[PyData.depth];lia⟩
def iz.shaped(h:iz b k d)(hk:k<=64):SeqAt.shaped d=true:=by
 let⟨a,c⟩:=h.lay;simp[SeqAt.shaped,a];lia
def iz.noDict(h:iz b k d):∀kv,d≠.dict kv:=by
 rintro kv rfl;have:=h.lay.1;simp[PyData.canLay0] at this
def ij:D->Bool|.dict _=>false|_=>true
def iz.nd(h:iz b k d):ij d=true:=by
 cases d<;>first|rfl|exact absurd rfl (h.noDict _)
def Tw:D->Bool|.int _=>true|.bool _=>true|_=>false
def Tg:D->Bool|.bool _=>true|_=>false
def M5:D->Bool|.tuple _=>true|_=>false
def kI(h:ij d=true):xi (iD d) "int"=some (Tw d):=by cases d<;>first|cases h;done|exact Mc _ (by simp[iD])
def kB(h:ij d=true):xi (iD d) "bool"=some (Tg d):=by cases d<;>first|cases h;done|exact JR _ (by simp[iD])
def kT(h:ij d=true):xi (iD d) "tuple"=some (M5 d):=by cases d<;>first|cases h;done|exact kit_tuple _ (by simp[iD])
def whole(a b:Int):D->Bool|.int i=>decide (a<=i)&&decide (i<=b)|_=>false
def vj:∀ {ds:List D},(∀d∈ds,∃ρ',tgt ρ d=some ρ'/\te ρ'=some (h d))->cD tgt (λ_=>some true) te ρ ds=some (ds.map h)
 | [],_=>rfl
 | d::ds,hh=>by
  let⟨ρ',h1,h2⟩:=hh d zE;have ih:=vj (ds:=ds) λy hy=>hh y (zC _ hy);unfold cD;rw[h1];simp[h2,ih]
def nv:∀ {ds:List D},(∀d∈ds,∃ρ',tgt ρ d=some ρ'/\tt ρ'=some (p d)/\(p d=true->te ρ'=some (h d)))->cD tgt tt te ρ ds=some ((ds.filter p).map h)
 | [],_=>rfl
 | d::ds,hh=>by
  let⟨ρ',h1,h2,h3⟩:=hh d zE;have ih:=nv (ds:=ds) λy hy=>hh y (zC _ hy);unfold cD;rw[h1];simp?[zA,h2];cases hp:p d with
  | true=>rw[yM rfl,h3 hp];simp[ih,jZ,hp]
  | false=>simp[ih,jZ,hp]
def pG:∀ds:List D,boolsOf (ds.map λd=>.bool (p d))=some (ds.map p)
 | []=>rfl
 | d::ds=>by simp[boolsOf,pG ds]
def nN(ds:List D):lu [.list (ds.map λd=>.bool (p d))]=some (.bool (ds.all p)):=by
 simp?[lu,oneOf,zA,pG,zB,List.all_map];rfl
def bw(h:ds.length<=4000):small ds=some ds:=yM (yD h (by decide))
def nJ{ds:List D}{i:Nat}(h:i < ds.length):qa ds (i:Nat)=some (ds.getD i .none):=by
 have:=yr (xs:=ds) (j:=i) (v:=ds[i]) (List.getElem?_eq_some_iff.mpr ⟨h,rfl⟩);rw[this];simp[List.getD,h]
def D7{ds:List D}(h:0 < ds.length):qa ds 0=some (ds.getD 0 .none):=nJ (i:=0) h
def Am{ds:List D}(h:1 < ds.length):qa ds 1=some (ds.getD 1 .none):=nJ (i:=1) h
def MB{ds:List D}(h:2 < ds.length):qa ds 2=some (ds.getD 2 .none):=nJ (i:=2) h
end Dl
namespace Wm
open PySem L2 Dl PySem.Spec PyProof.Rows Pg
variable {mo:Int}{i7 i5:Nat}
def AJ(ha:fa ρ=some (.int a))(hb:fb ρ=some (.int i))(hc:fc ρ=some (.int b)):lG EK EK fa fb fc ρ=some (.bool (decide (a<=i)&&decide (i<=b))):=by
 simp?[lG,ha,hb,hc,zA,EK,zt,xJ];by_cases h:a<=i<;>simp[h]
def rD(i j:Int):Dl.jd (.int i) (.int j)=some (.int (i - j)):=rfl
def dF(i j:Int):Dl.aL (.int i) (.int j)=some (.int (i+j)):=rfl
def w8(d:D):Slot.all (.val d)=some d:=rfl
def zm(ds:List D):Slot.all (.own ds)=some (.list ds):=rfl
def Ew:Slot.all .Ux=none:=rfl
def C8(d:D):Slot.Vh (.val d)=some d:=rfl
def DK(ds:List D):Slot.Vh (.own ds)=none:=rfl
def EB:Slot.Vh .Ux=none:=rfl
local macro_rules|`(tactic| simp! [$ts,*])=>`(tactic| simp only[aV,aw,fX,aM,fv,ua,eE,cC,fB,gB,MQ,ae,fC,mf,SL,SF,QT,f1,f2,rD,dF,aa,ag,aj,bD,um,bZ,eO,oneOf,gf,aG,w8,zm,Ew,C8,DK,EB,aO,bS,bp,aJ,eX,ay,  zI,yV,xH,xQ,zL,xN,List.replicate,xS,yZ,qJ,kY,zA,Option.bind_none,zB,Option.map_none,Nat.reduceAdd,Nat.reduceSub,jF,Nat.sub_self,xJ,reduceIte,$ts,*])
def dR(h:ij d=true)(a b:Int):bL [d,.int a,.int b]=some (.bool (whole a b d)):=by
 simp! [bL,sk,kI h,kB h];cases d<;>simp[Tw,Tg,whole];rw[AJ rfl rfl rfl]
def k9(h:ij d=true)(n:Int):di [d,.int n]=some (.bool (whole 0 (n - 1) d)):=by
 simp! [di,p6,dR h]
def long(a b:Int):D->Bool|.tuple ds=>decide (a<=(ds.length:Int))&&decide ((ds.length:Int)<=b)|_=>false
def eP(h:ij d=true)(a b:Int):bX [d,.int a,.int b]=some (.bool (long a b d)):=by
 simp! [bX,uM,kT h];cases d<;>simp[M5,long];rw[AJ rfl (i:=_) rfl rfl]
def jl:D->Int|.int i=>i|_=>0
def gH(h:whole a b d=true):d=.int (jl d)/\a<=jl d/\jl d<=b:=by
 cases d<;>simp[whole] at h;exact⟨rfl,h⟩
def mS:∀ {ls:List D},ls.all (whole a b)=true->ls=(ls.map jl).map PyData.int
 | [],_=>rfl
 | d::ls,h=>by
  rw[xV,zF] at h;rw[zI,zI,<- (gH h.1).1,<- mS h.2]
def jo(n:Int):D->Bool|.tuple ls=>ls.all (whole 0 (n - 1))&&decide ((ls.map jl).Nodup)|_=>false
def bU(i j:Int):bC (.int i) (.int j)=some (.bool (decide (i=j))):=by
 simp[bC,Lf,SeqAt.shaped,PyData.canLay0,PyData.depth,PyData.eqv];rfl
def F8(h:ls.all (whole a b)=true)(hl:ls.length<=100):f2 bC (f1 l6 (λ_=>some (.tuple ls))) (bD bZ (aa (λ_=>some (.tuple ls)) ag)) []=some (.bool (decide ((ls.map jl).Nodup))):=by
 have e:=mS h;have e1:l6 (.tuple ls)=some (.int (many (ls.map jl))):=by
  simp?[l6,rg]
  conv=>lhs;rw[e]
  rw[cn,zA,yM];rw[zD];exact jB (Nat.add_le_add_right hl 1) (by decide)
 simp! [e1,bU];have:=CV (ls.map jl);rw[zD] at this;simp?[<- this,Int.ofNat_inj,yL,PyData.bool.injEq]
def P2(r:Dl.Env)(d:D):fG 0 (none::r) d=some (some d::r):=by simp[fG,isFree]
def cw{cs:List Nat}(Vx:fi ρ=some ds)(hl:ds.length<=4000)(hh:∀d∈ds,te (some d::cs.map λj=>(ρ[j]?).getD none)=some (h d)):aq 1 cs fi (fG 0) (λ_=>some true) te ρ=some (ds.map h):=by
 simp?[aq,Vx,zA,eL,List.replicate,xH,xQ];rw[vj (h:=h) λd hd=>⟨_,P2 _ d,hh d hd⟩,zA,bw (by rw[zD];exact hl)]
def nu{cs:List Nat}(Vx:fi ρ=some ds)(hl:ds.length<=4000)
  (hp:∀d∈ds,tt (some d::cs.map λj=>(ρ[j]?).getD none)=some (p d)) (hh:∀d∈ds,p d=true->te (some d::cs.map λj=>(ρ[j]?).getD none)=some (h d)):aq 1 cs fi (fG 0) tt te ρ=some ((ds.filter p).map h):=by
 simp?[aq,Vx,zA,eL,List.replicate,xH,xQ];rw[nv (p:=p) (h:=h) λd hd=>⟨_,P2 _ d,hp d hd,hh d hd⟩,zA,bw (by rw[zD];exact yD (xR _ _) hl)]
def A6(h:iz b k d)(hb:b<=100)(n:Int):il [d,.int n]=some (.bool (jo n d)):=by
 simp! [il,pM,kT h.nd];cases d<;>try (simp[M5,jo];done)
 rename_i ls;let⟨j,rfl,hl,hf⟩:=h.U6;have c:=cw (cs:=[1]) (fi:=aO (ae 0)) (te:=(aj 2 di (aa (ae 0) (aa (ae 1) ag)))) (h:=λx=>.bool (whole 0 (n - 1) x)) (ρ:=[some (.tuple ls),some (.int n)]) rfl (by lia) λx hx=>by simp! [k9 (hf x hx).nd]
 simp! [M5,qA,yP,c,nN];cases e:ls.all (whole 0 (n - 1)) with
 | false=>simp[jo,e]
 | true =>
  have:=F8 e (yD hl hb);simp?[f2,f1,bD,aa,ag,zA,zB] at this;simp! [jo,e,qA,yP,jN];simp?[bZ,eO,oneOf,zA,gf,zB] at this;simp! [this]
def placeOk(n:Int):D->Bool|.tuple ds=>decide (ds.length=2)&&(whole 0 9 (ds.getD 0 .none)&&jo n (ds.getD 1 .none))|_=>false
def kf(g t:Int):D->Bool|.tuple ds=>decide (ds.length=3)&&(whole 0 (g - 1) (ds.getD 0 .none)&&(whole 0 (t - 1) (ds.getD 1 .none)&&whole 1 9 (ds.getD 2 .none)))|_=>false
def wa(n:Nat)(ds:List D):long (n:Int) (n:Int) (.tuple ds)=decide (ds.length=n):=by
 simp?[long];by_cases h:ds.length=n
 ·simp[h]
 ·rw[zZ h,Bool.and_eq_false_iff,xC,xC];lia
def getD_mem{ds:List D}{i:Nat}(h:i < ds.length):ds.getD i .none∈ds:=by simp[List.getD,h]
def Ab{b:Nat}(h:iz b k d)(hb:b<=100)(n:Int):gL [d,.int n]=some (.bool (placeOk n d)):=by
 simp! [gL,As,eP h.nd];cases d<;>try (simp[long,placeOk];done)
 rename_i ds;let⟨j,rfl,hl,hf⟩:=h.U6;rw[show long 2 2 (.tuple ds)=decide (ds.length=2) from wa 2 ds];by_cases e:ds.length=2
 ·have f0:=hf _ (getD_mem (i:=0) (by lia));have f1:=hf _ (getD_mem (i:=1) (by lia));simp! [e,jS,D7 (show 0 < ds.length by lia),Am (show 1 < ds.length by lia),dR f0.nd,A6 f1 hb,placeOk];cases whole 0 9 (ds.getD 0 .none)<;>simp
 ·simp[e,placeOk]
def GM{b:Nat}(h:iz b k d)(hb:b<=100)(g t:Int):lM [d,.int g,.int t]=some (.bool (kf g t d)):=by
 simp! [lM,AH,eP h.nd];cases d<;>try (simp[long,kf];done)
 rename_i ds;let⟨j,rfl,hl,hf⟩:=h.U6;rw[show long 3 3 (.tuple ds)=decide (ds.length=3) from wa 3 ds];by_cases e:ds.length=3
 ·have f0:=hf _ (getD_mem (i:=0) (by lia));have f1:=hf _ (getD_mem (i:=1) (by lia));have WA:=hf _ (getD_mem (i:=2) (by lia));simp! [e,jS,qA,yP,D7 (show 0 < ds.length by lia),Am (show 1 < ds.length by lia),MB (show 2 < ds.length by lia),dR WA.nd,k9 f0.nd,k9 f1.nd,kf];cases whole 0 (g - 1) (ds.getD 0 .none)<;>cases whole 0 (t - 1) (ds.getD 1 .none)<;>simp
 ·simp[e,kf]
def cY:D->List D|.tuple ds=>ds|_=>[]
def oR(d:D):Bool:=long 1 4 d
def ka(g t w:D):Bool:=oR g&&(oR t&&((cY g).all (placeOk (cY t).length)&&((cY t).all (placeOk (cY g).length)&&(M5 w&&(cY w).all (kf (cY g).length (cY t).length)))))
def lF(h:long a b d=true):d=.tuple (cY d):=by cases d<;>first|rfl|cases h
def pV(hg:iz b k g)(ht:iz b k t)(hw:iz b k w)(hb:b<=100):iw [g,t,w]=some (.bool (ka g t w)):=by
 simp! [iw,pW,eP hg.nd,eP ht.nd,kT hw.nd];unfold ka oR;cases e1:long 1 4 g with
 | false=>simp
 | true =>
  cases e2:long 1 4 t with
  | false=>simp
  | true =>
   obtain⟨gs,rfl⟩:∃gs,g=.tuple gs:=⟨_,lF e1⟩
   obtain⟨ts,rfl⟩:∃ts,t=.tuple ts:=⟨_,lF e2⟩
   let⟨j,rfl,hgl,hgf⟩:=hg.U6;let⟨j',hj,htl,htf⟩:=ht.U6;have c1:=cw (cs:=[1]) (fi:=aO (ae 0)) (te:=(aj 2 gL (aa (ae 0) (aa (bD bZ (aa (ae 1) ag)) ag)))) (h:=λx=>.bool (placeOk ts.length x)) (ρ:=[some (.tuple gs),some (.tuple ts),some w]) rfl (by lia) λx hx=>by simp! [Ab (hgf x hx) hb]
   have c2:=cw (cs:=[0]) (fi:=aO (ae 1)) (te:=(aj 2 gL (aa (ae 0) (aa (bD bZ (aa (ae 1) ag)) ag)))) (h:=λx=>.bool (placeOk gs.length x)) (ρ:=[some (.tuple gs),some (.tuple ts),some w]) rfl (by lia) λx hx=>by simp! [Ab (htf x hx) hb]
   simp! [qA,yP,c1,nN,cY,jN];cases e3:gs.all (placeOk ts.length) with
   | false=>simp
   | true =>
    simp! [qA,yP,c2,nN,jN];cases e4:ts.all (placeOk gs.length) with
    | false=>simp
    | true =>
     cases hT:M5 w with
     | false=>simp! [qA,yP,kT hw.nd,hT,wQ,vG]
     | true =>
     obtain⟨ws,rfl⟩:∃ws,w=.tuple ws:=by cases w<;>first|exact⟨_,rfl⟩|cases hT
     let⟨j2,hj2,YH,hwf⟩:=hw.U6;have c3:=cw (cs:=[0,1]) (fi:=aO (ae 2)) (te:=(aj 3 lM (aa (ae 0) (aa (bD bZ (aa (ae 1) ag)) (aa (bD bZ (aa (ae 2) ag)) ag))))) (h:=λx=>.bool (kf gs.length ts.length x)) (ρ:=[some (.tuple gs),some (.tuple ts),some (.tuple ws)]) rfl (by lia) λx hx=>by simp! [GM (hwf x hx) hb]
     simp! [qA,yP,c3,nN,jN,kT hw.nd,M5]
def tK:∀ (a b:List Int),PyData.eqvAll (a.map PyData.int) (b.map PyData.int)=decide (a=b)
 | [],[]=>by simp[PyData.eqvAll]
 | [],_::_=>by simp[PyData.eqvAll]
 | _::_,[]=>by simp[PyData.eqvAll]
 | i::a,j::b=>by
  rw[zI,zI,PyData.eqvAll,tK a b];by_cases h:i=j
  ·subst h;simp[PyData.eqv]
  ·simp[PyData.eqv,h]
def tR:∀ (a b:List (List Int)),PyData.eqvAll (a.map af) (b.map af)=decide (a=b)
 | [],[]=>by simp[PyData.eqvAll]
 | [],_::_=>by simp[PyData.eqvAll]
 | _::_,[]=>by simp[PyData.eqvAll]
 | x::a,y::b=>by
  rw[zI,zI,PyData.eqvAll,tR a b,af,af,PyData.eqv,tK];by_cases h:x=y
  ·subst h;simp
  ·simp[h]
def lW(i:Int):iz b k (.int i):=.leaf trivial
def qm(h:r.length<=b):iz b (k+1) (af r):=.tup (by rw[zD];exact h) λx hx=>by
 let⟨i,_,rfl⟩:=List.mem_map.mp hx;exact lW i
def Jq{b k:Nat}{a:List (List Int)}(h:a.length<=b)(hr:∀r∈a,r.length<=b):iz b (k+2) (.list (a.map af)):=.lst (by rw[zD];exact h) λx hx=>by
 let⟨r,Vr,rfl⟩:=List.mem_map.mp hx;exact qm (hr r Vr)
def Fq(a:List (List Int)):∃b,a.length<=b/\∀r∈a,r.length<=b:=by
 induction a with
 | nil=>exact⟨0,yN _,λr h=>by cases h⟩
 | cons x a ih =>
  let⟨b,h1,h2⟩:=ih;refine⟨b+1+x.length,by rw[zL];lia,λr hr=>?_⟩;rcases List.mem_cons.mp hr with rfl|hr
  ·lia
  ·have:=h2 r hr;lia
def pI(a:List (List Int)):SeqAt.shaped (.list (a.map af))=true:=by
 let⟨b,h1,h2⟩:=Fq a;exact (Jq (b:=b) (k:=0) h1 h2).shaped (by decide)
def FK(a b:List (List Int)):bC (.list (a.map af)) (.list (b.map af))=some (.bool (decide (a=b))):=by
 simp?[bC,Lf,pI,jR,xJ,PyData.eqv,tR,zB]
def jc(d:D):List Int:=(cY ((cY d).getD 1 .none)).map jl
def j6(h:placeOk n d=true):∃a ds,d=.tuple ds/\ds.length=2/\ds.getD 0 .none=.int a/\0<=a/\a<=9/\ds.getD 1 .none=.tuple ((jc d).map PyData.int)/\(jc d).Nodup/\∀j∈jc d,0<=j/\j<=n - 1:=by
 cases d<;>simp?[placeOk] at h<;>try cases h
 rename_i ds;simp?[zF,zJ] at h;let⟨h1,h2,h3⟩:=h;have e:jc (.tuple ds)=(cY (ds.getD 1 .none)).map jl:=rfl;rw[e];generalize hl:ds.getD 1 .none=l at h3;cases l<;>simp?[jo] at h3<;>try cases h3
 rename_i ls;simp?[zF,zJ] at h3;let⟨w1,w2,w3⟩:=gH h2;refine⟨_,ds,rfl,h1,w1,w2,w3,?_,h3.2,λj hj=>?_⟩
 ·rw[show cY (.tuple ls)=ls from rfl,<- mS h3.1];exact hl
 ·let⟨x,hx,rfl⟩:=List.mem_map.mp hj;exact (gH (List.all_eq_true.mp h3.1 x hx)).2
def nr(k:Nat):List D->List (List Int)|[]=>[]|p::ps=>(jc p).map (λj=>[((k:Nat):Int),j])++nr (k+1) ps
def sv:∀ (n:Nat) {l:List Int},l.Nodup->(∀j∈l,0<=j/\j<=(n:Int) - 1)->l.length<=n:=by
 intro n l hn h;have hs:l.map Int.toNat ⊆ List.range n:=λx hx=>by
  let⟨j,hj,rfl⟩:=List.mem_map.mp hx;have:=h j hj;exact List.mem_range.mpr (by lia)
 have Vq:(l.map Int.toNat).Nodup:=by
  refine List.pairwise_map.mpr (hn.imp_of_mem λ{x y} hx hy UN e=>UN ?_);have:=h x hx;have:=h y hy;lia
 have:=List.Nodup.length_le_of_subset Vq hs;simpa using this
def xt{n:Nat}:∀ {ps:List D}{k:Nat},(∀p∈ps,placeOk n p=true)->(nr k ps).length<=ps.length * n
 | [],k,_=>xX _
 | p::ps,k,h=>by
  let⟨_,_,_,_,_,_,_,_,hn,hr⟩:=j6 (h p zE);have h1:=sv n hn hr;have h2:=xt (ps:=ps) (k:=k+1) λq hq=>h q (zC _ hq);rw[nr,zN,zD,zL,Nat.succ_mul];lia
def pB:au->Option Out:=wg 1 [2,3] (aq 1 [2] (aO (f2 ay (ae 3) (fC (.int 1)))) (fG 0) (λ_=>some true) (aJ (aa (ae 1) (aa (ae 0) ag))))
def Ow{n:Nat}{p:D}{acc:List D}(hp:placeOk n p=true)(hn:n<=100)(ha:acc.length<=1000):pB [.val x,.own acc,.val (.int (k:Nat)),.val p]=some (.nx [.val x,.own (acc++((jc p).map λj=>af [((k:Nat):Int),j])),.val (.int (k:Nat)),.val p]):=by
 let⟨a,ds,rfl,hl,_,_,_,h1,Vq,hr⟩:=j6 hp;have hb:=sv n Vq hr;generalize jc (.tuple ds)=ls at *;have c:=cw (cs:=[2]) (fi:=aO (f2 ay (ae 3) (fC (.int 1)))) (te:=aJ (aa (ae 1) (aa (ae 0) ag))) (h:=λy=>.tuple [.int (k:Nat),y]) (ρ:=[some x,none,some (.int (k:Nat)),some (.tuple ds)]) (ds:=ls.map PyData.int)
  (by simp! [Am (show 1 < ds.length by lia),h1]) (by rw[zD];lia) λy hy=>by
   simp! [bw (show [PyData.int (k:Nat),y].length<=4000 by simp)]
 have hh:hand [2,3] 0 [Slot.val x,.own acc,.val (.int (k:Nat)),.val (.tuple ds)]=[Slot.val x,.own acc,.val (.int (k:Nat)),.val (.tuple ds)]:=rfl;simp?[pB,wg,hh,bJ,zI,yV,Slot.Vh,c,zA,oE,yZ,xS];rw[yM]
 ·simp?[zB,yX,yW,zM];rfl
 ·simp?[zD];exact yD (show acc.length+ls.length<=1100 by lia) (by decide)
def vt{n:Nat}(hn:n<=100):∀ {ps:List D}{k:Nat}{acc:List D}{s2 s3:Slot},(∀p∈ps,placeOk n p=true)->acc.length+ps.length * n<=1000 ->
  ∃t2 t3,bN (gz 2 3) pB (bH k ps) [.val x,.own acc,s2,s3]=some (.nx [.val x,.own (acc++(nr k ps).map af),t2,t3])
 | [],k,acc,s2,s3,_,_=>⟨s2,s3,by simp[bH,bN,nr]⟩
 | p::ps,k,acc,s2,s3,h,hl=>by
  have hp:=h p zE;let⟨_,_,_,_,_,_,_,_,Vq,hr⟩:=j6 hp;have hb:=sv n Vq hr;rw[zL,Nat.succ_mul] at hl;let⟨t2,t3,e⟩:=vt hn (x:=x) (ps:=ps) (k:=k+1) (acc:=acc++((jc p).map λj=>af [((k:Nat):Int),j])) (s2:=.val (.int (k:Nat))) (s3:=.val p) (λq hq=>h q (zC _ hq)) (by rw[zN,zD];lia);refine⟨t2,t3,?_⟩;have hs:gz 2 3 [.val x,.own acc,s2,s3] (.tuple [.int (k:Nat),p])=some [.val x,.own acc,.val (.int (k:Nat)),.val p]:=rfl;simp?[bH,bN,hs,zA,Ow hp hn (show acc.length<=1000 by lia)];rw[e];simp[nr,zM,Zs]
def Da{n:Nat}{ps:List D}(h:∀p∈ps,placeOk n p=true)(hn:n<=100)(hl:ps.length * n<=1000):bP [.tuple ps]=some (.list ((nr 0 ps).map af)):=by
 let⟨t2,t3,e⟩:=vt hn (x:=.tuple ps) (k:=0) (acc:=[]) (s2:=.Ux) (s3:=.Ux) h (by simpa using hl);have hs:aQ 1 [] (eX ag) [Slot.val (.tuple ps),.Ux,.Ux,.Ux]=some (.nx [.val (.tuple ps),.own [],.Ux,.Ux]):=rfl;have hh:hand [0] 0 [Slot.val (.tuple ps),.own [],.Ux,.Ux]=[Slot.val (.tuple ps),.own [],.Ux,.Ux]:=rfl;have hf:bf (aa (ae 0) ag) (bJ [Slot.val (.tuple ps),.own [],.Ux,.Ux])=some (bH 0 ps):=rfl;simp! [bP,mz,hs,cX,hh,hf];rw[show wg 1 [2,3] (aq 1 [2] (aO (f2 ay (ae 3) (fC (.int 1)))) (fG 0) (λ_=>some true) (aJ (aa (ae 1) (aa (ae 0) ag))))=pB from rfl,e];simp! []
def gc(d:D):List Int:=[jl ((cY d).getD 0 .none),jl ((cY d).getD 1 .none)]
def Cd(h:kf g t d=true):∃ds c,d=.tuple ds/\ds.length=3/\ds.getD 0 .none=.int (jl (ds.getD 0 .none))/\ds.getD 1 .none=.int (jl (ds.getD 1 .none))/\ds.getD 2 .none=.int c/\1<=c/\c<=9 /\
  0<=jl (ds.getD 0 .none)/\jl (ds.getD 0 .none)<=g - 1/\0<=jl (ds.getD 1 .none)/\jl (ds.getD 1 .none)<=t - 1:=by
 cases d<;>simp?[kf] at h<;>try cases h
 rename_i ds;simp?[zF,zJ] at h;let⟨h1,h2,h3,h4⟩:=h;have a:=gH h2;have b:=gH h3;have c:=gH h4;exact⟨ds,_,rfl,h1,a.1,b.1,c.1,c.2.1,c.2.2,a.2.1,a.2.2,b.2.1,b.2.2⟩
def BE(g t w:D):Bool:=decide ((cY w).map gc=tT (nr 0 (cY g)))&&decide ((cY w).map gc=tT ((nr 0 (cY t)).map List.reverse))
def RJ(d:D):Bool:=long 3 3 d&&(ka ((cY d).getD 0 .none) ((cY d).getD 1 .none) ((cY d).getD 2 .none)&&BE ((cY d).getD 0 .none) ((cY d).getD 1 .none) ((cY d).getD 2 .none))
def l7:∀ {ps:List D}{k:Nat},∀r∈nr k ps,∃i j,r=[i,j]
 | [],k,r,h=>by cases h
 | p::ps,k,r,h=>by
  rcases List.mem_append.mp h with h|h
  ·let⟨j,_,rfl⟩:=List.mem_map.mp h;exact⟨_,_,rfl⟩
  ·exact l7 r h
def nR(h:∀r∈a,∃i j,r=[i,j])(hl:a.length < 64):hU [.list (a.map af)]=some ((tT a).map af):=by
 have:∀ns∈a,ns≠[]:=λns hn=>by let⟨i,j,rfl⟩:=h ns hn;exact List.cons_ne_nil _ _
 simp?[hU,oneOf,zA,mC this,yM hl]
def uI:∀ {a:List (List Int)},(∀r∈a,∃i j,r=[i,j])->cD (gh 0 1) (λ_=>some true) (aJ (aa (ae 1) (aa (ae 0) ag))) [none,none] (a.map af)=some ((a.map List.reverse).map af)
 | [],_=>rfl
 | r::a,h=>by
  let⟨i,j,rfl⟩:=h r zE;have ih:=uI (a:=a) λq hq=>h q (zC _ hq);have e:gh 0 1 [none,none] (af [i,j])=some [some (.int i),some (.int j)]:=rfl;rw[zI,cD,e,zA,zA,yM rfl,ih];simp! [bw (show [PyData.int j,.int i].length<=4000 by simp)];rfl
def F3{a:List (List Int)}(Vx:fi ρ=some (a.map af))(hl:a.length<=4000)(h:∀r∈a,∃i j,r=[i,j]):aq 2 [] fi (gh 0 1) (λ_=>some true) (aJ XN) ρ=some ((a.map List.reverse).map af):=by
 simp?[aq,Vx,zA,eL,List.replicate,xH,xQ,yV];rw[uI h,zA,bw (by rw[zD,zD];exact hl)]
def A9(h:ka g t w=true):∃gs ts ws,g=.tuple gs/\t=.tuple ts/\w=.tuple ws/\1<=gs.length/\gs.length<=4/\1<=ts.length/\ts.length<=4/\(∀p∈gs,placeOk ts.length p=true)/\(∀p∈ts,placeOk gs.length p=true)/\∀x∈ws,kf gs.length ts.length x=true:=by
 simp?[ka,oR,zF] at h;let⟨h1,h2,h3,h4,h5,h6⟩:=h;cases w<;>try cases h5
 rename_i ws;have e1:=lF h1;have e2:=lF h2;generalize cY g=gs at *;generalize cY t=ts at *;subst e1 e2;simp?[long,zF,zJ] at h1 h2;exact⟨gs,ts,ws,rfl,rfl,rfl,by lia,by lia,by lia,by lia,List.all_eq_true.mp h3,List.all_eq_true.mp h4,List.all_eq_true.mp h6⟩
def mP{b:Nat}(h:iz b k d)(hb:b<=100):bT [d]=some (.bool (RJ d)):=by
 unfold RJ;cases e1:long 3 3 d with
 | false=>simp! [bT,j9,eP h.nd,e1,Bool.not_false,wQ]
 | true =>
  obtain⟨ds,rfl⟩:∃ds,d=.tuple ds:=⟨_,lF e1⟩
  let⟨j,rfl,hl,hf⟩:=h.U6;rw[show long 3 3 (.tuple ds)=decide (ds.length=3) from wa 3 ds,zJ] at e1;have f0:=hf _ (getD_mem (i:=0) (by lia));have f1:=hf _ (getD_mem (i:=1) (by lia));have WA:=hf _ (getD_mem (i:=2) (by lia));have i0:=D7 (show 0 < ds.length by lia);have i1:=Am (show 1 < ds.length by lia);have i2:=MB (show 2 < ds.length by lia);have el:bX [.tuple ds,.int 3,.int 3]=some (.bool true):=by rw[eP rfl,show long 3 3 (.tuple ds)=decide (ds.length=3) from wa 3 ds,yA e1]
  rw[show cY (.tuple ds)=ds from rfl,jN];generalize hg:ds.getD 0 .none=g at *;generalize ht:ds.getD 1 .none=t at *;generalize hw:ds.getD 2 .none=w at *;cases e2:ka g t w with
  | false=>simp! [bT,j9,el,i0,i1,i2,pV f0 f1 WA hb,e2,Bool.not_false,qA,wQ]
  | true =>
   let⟨gs,ts,ws,rfl,rfl,rfl,g1,g4,t1,t4,hG,hT,hW⟩:=A9 e2;have hfw:=WA.U6;let⟨j2,_,YH,_⟩:=hfw;have q1:=xt (k:=0) hG;have q2:=xt (k:=0) hT;have m1:gs.length * ts.length<=16:=wM g4 t4;have m2:ts.length * gs.length<=16:=wM t4 g4;have l1:=Da hG (by lia) (by lia);have l2:=Da hT (by lia) (by lia);have s1:=nR (a:=nr 0 gs) l7 (by lia);have s2:=nR (a:=(nr 0 ts).map List.reverse) (λr hr=>by
    let⟨q,hq,rfl⟩:=List.mem_map.mp hr;let⟨i,j,rfl⟩:=l7 q hq;exact⟨j,i,rfl⟩) (by rw[zD];lia)
   have c1:aq 1 [] (aO (f2 ay (ae 0) (fC (.int 2)))) (fG 0) (λ_=>some true) (aJ (aa (f2 ay (ae 0) (fC (.int 0))) (aa (f2 ay (ae 0) (fC (.int 1))) ag))) [some (.tuple ds),none,none,none]=some ((ws.map gc).map af):=by
    rw[cw (ds:=ws) (h:=λx=>af (gc x)) (by simp! [i2]) (by lia) λx hx=>?_,zM]
    ·rfl
    ·let⟨vs,c,rfl,v3,v0,v1,_⟩:=Cd (hW x hx);simp! [D7 (show 0 < vs.length by lia),Am (show 1 < vs.length by lia),bw (show [vs.getD 0 PyData.none,vs.getD 1 .none].length<=4000 by simp),af,gc,cY];rw[<- v0,<- v1]
   have c2:∀x y z,aq 2 [] (aO (aj 1 bP (aa (f2 ay (ae 0) (fC (.int 1))) ag))) (gh 0 1) (λ_=>some true) (aJ (aa (ae 1) (aa (ae 0) ag))) [some (.tuple ds),x,y,z]=some (((nr 0 ts).map List.reverse).map af):=λx y z =>
    F3 (by simp! [i1,l2]) (by lia) l7
   have X4:aQ 1 [0] (aq 1 [] (aO (f2 ay (ae 0) (fC (.int 2)))) (fG 0) (λ_=>some true) (aJ (aa (f2 ay (ae 0) (fC (.int 0))) (aa (f2 ay (ae 0) (fC (.int 1))) ag)))) [Slot.val (.tuple ds),.Ux,.Ux,.Ux]=some (.nx [.val (.tuple ds),.own ((ws.map gc).map af),.Ux,.Ux]):=by
    have hh:hand [0] 0 [Slot.val (.tuple ds),.Ux,.Ux,.Ux]=[Slot.val (.tuple ds),.Ux,.Ux,.Ux]:=rfl;simp?[aQ,hh,bJ,zI,yV,Slot.Vh,c1,zB,yX,yW]
   have XX:aQ 2 [0] (um hU (aa (aj 1 bP (aa (f2 ay (ae 0) (fC (.int 0))) ag)) ag)) [Slot.val (.tuple ds),.own ((ws.map gc).map af),.Ux,.Ux]=some (.nx [.val (.tuple ds),.own ((ws.map gc).map af),.own ((tT (nr 0 gs)).map af),.Ux]):=by
    have hh:hand [0] 0 [Slot.val (.tuple ds),.own ((ws.map gc).map af),.Ux,.Ux]=[Slot.val (.tuple ds),.own ((ws.map gc).map af),.Ux,.Ux]:=rfl;simp?[aQ,hh,bJ,zI,yV,Slot.Vh];simp! [i0,l1,s1,yX,yW]
   have ZU:aQ 3 [0] (um hU (aa (bS (aq 2 [] (aO (aj 1 bP (aa (f2 ay (ae 0) (fC (.int 1))) ag))) (gh 0 1) (λ_=>some true) (aJ (aa (ae 1) (aa (ae 0) ag))))) ag)) [Slot.val (.tuple ds),.own ((ws.map gc).map af),.own ((tT (nr 0 gs)).map af),.Ux]
      =some (.nx [.val (.tuple ds),.own ((ws.map gc).map af),.own ((tT (nr 0 gs)).map af),.own ((tT ((nr 0 ts).map List.reverse)).map af)]):=by
    have hh:hand [0] 0 [Slot.val (.tuple ds),.own ((ws.map gc).map af),.own ((tT (nr 0 gs)).map af),.Ux]=[Slot.val (.tuple ds),.own ((ws.map gc).map af),.own ((tT (nr 0 gs)).map af),.Ux]:=rfl;simp?[aQ,hh,bJ,zI,yV,Slot.Vh];simp! [c2,s2,yX,yW]
   simp! [bT,j9,el,i0,i1,i2,pV f0 f1 WA hb,e2,qA,yP,X4,XX,ZU,FK,BE,cY,jN];by_cases hq:List.map gc ws=tT (nr 0 gs)<;>simp[hq]
def tM(xs:List D):PyData.eqvAll xs []=xs.isEmpty:=by cases xs<;>simp[PyData.eqvAll]
def CM:SeqAt.shaped (.list [])=true:=by simp[SeqAt.shaped,PyData.canLay0,PyData.canLayAll0,PyData.depth,PyData.depthAll]
def IC(h:∀x∈xs,iz b k x)(hk:k<=60):bC (.list xs) (.list [])=some (.bool xs.isEmpty):=by
 have hs:SeqAt.shaped (.list xs)=true:=(iz.lst (b:=max b xs.length) (k:=k) (Nat.le_max_right _ _) λx hx=>(h x hx).mono (Nat.le_max_left _ _) (yN _)).shaped (by lia);simp?[bC,Lf,hs,CM,jR,xJ,PyData.eqv,tM,zB]
def ja:small []=some []:=rfl
def Ge(xs:List α)(k:Nat):cut xs none (some (k:Int))=xs.take k:=by
 simp?[cut,HT.Aj,HT.D4,List.drop_zero,Nat.sub_zero];rw[List.take_eq_take_iff];lia
def A1(xs:List α)(k:Nat):cut xs (some (k:Int)) none=xs.drop k:=by
 simp?[cut,HT.Aj,HT.D4];rw[kP (by rw[qK];lia)];by_cases h:k<=xs.length
 ·rw[Nat.min_eq_left h]
 ·rw[Nat.min_eq_right (by lia),List.drop_of_length_le (yN _),List.drop_of_length_le (by lia)]
def ir(b:Bool):gB (.bool b)=some b:=rfl
def Uc(P:List (List Int))(i j:Int)(lp lq:List Int):Bool:=decide ([i,j]∈P) == decide (j∈lp)&&decide ([i,j]∈P) == decide (i∈lq)
def Th(P:List (List Int))(i:Int)(lp:List Int):Nat->List D->Bool|_,[]=>true|k,q::qs=>Uc P i k lp (jc q)&&Th P i lp (k+1) qs
def QI(P:List (List Int))(ts:List D):Nat->List D->Bool|_,[]=>true|k,p::ps=>Th P k (jc p) 0 ts&&QI P ts (k+1) ps
def CD(a b:D):small [a,b]=some [a,b]:=rfl
def n0:∀ (ρ:au) (k:Nat),hand [] k ρ=ρ
 | [],k=>rfl
 | s::r,k=>by simp[hand,n0 r]
def rC:∀ {ps:List D}{k:Nat}{i j:Int},[i,j]∈nr k ps↔∃m p,ps[m]?=some p/\i=((k+m:Nat):Int)/\j∈jc p
 | [],k,i,j=>by simp[nr]
 | p::ps,k,i,j=>by
  rw[nr,List.mem_append,rC (ps:=ps)];constructor
  ·rintro (h|⟨m,q,h1,h2,h3⟩)
   ·let⟨y,hy,e⟩:=List.mem_map.mp h;injection e with e1 e2
    injection e2 with e2 _
    exact⟨0,p,rfl,by simpa using e1.symm,e2 ▸ hy⟩
   ·exact⟨m+1,q,by simpa using h1,by rw[h2];congr 1;lia,h3⟩
  ·rintro⟨m,q,h1,h2,h3⟩;cases m with
   | zero =>
    simp at h1;subst h1;exact .inl (List.mem_map.mpr ⟨j,h3,by rw[h2];rfl⟩)
   | succ m=>exact .inr ⟨m,q,by simpa using h1,by rw[h2];congr 1;lia,h3⟩
def uG:∀ {ps:List D}{k:Nat},(∀p∈ps,(jc p).Nodup)->(nr k ps).Nodup
 | [],k,_=>List.nodup_nil
 | p::ps,k,h=>by
  rw[nr,Zr];refine⟨List.pairwise_map.mpr ((h p zE).imp λUN e=>UN ?_),uG λq hq=>h q (zC _ hq),?_⟩;rotate_left
  ·injection e with _ e2
   injection e2
  ·rintro a ha b hb rfl;let⟨y,hy,rfl⟩:=List.mem_map.mp ha;let⟨m,q,h1,h2,h3⟩:=rC.mp hb;lia
def QO(h:Dl.lexLt a b=true):lexLe a b=true:=by
 unfold lexLe;cases e:Dl.lexLt b a with
 | false=>rfl
 | true=>have:=e9 h e;rw[dO] at this;cases this
def dk(h:yj i j):Dl.eQ (.int i) (.int j)=some (.int (i * j)):=by
 simp?[Dl.eQ,zt,yM h,Option.some_or]
def iX(h:0 < j):Dl.mh (.int i) (.int j)=some (.int (i % j)):=yM h
def lb(h:0 < j/\j < 1073741824):Dl.nz (.int i) (.int j)=some (.int (i / j)):=yM h
def dA(i j:Int):Dl.Bu (.int i) (.int j)=some (.bool (decide (j < i))):=rfl
def ig(i j:Int):Dl.Bq (.int i) (.int j)=some (.bool (decide (i < j))):=rfl
def mH(h:-(2 ^ 64) < i/\i < 2 ^ 64):yj i j:=.inl h
def Oj(h:-(2 ^ 64) < j/\j < 2 ^ 64):yj i j:=.inr h
def A2(i:Int):Dl.oa (.int i)=true:=rfl
def Bf(i:List D):Dl.oa (.tuple i)=false:=rfl
def cF(ns:List Int):D:=.list (ns.map PyData.int)
def Pa(k:Int)(hl:ns.length<=63):∃c,fE [cF ns,.int k]=some (.int c):=by
 have heq:bC (.list (ns.map PyData.int)) (.list [])=some (.bool ns.isEmpty):=by
  have:=IC (b:=0) (k:=0) (xs:=ns.map PyData.int) (λx hx=>by let⟨i,_,rfl⟩:=List.mem_map.mp hx;exact lW i) (by decide);rw[this];cases ns<;>rfl
 by_cases hn:ns=[]
 ·subst hn;refine⟨7 * k,?_⟩;rw[yV,List.isEmpty_nil] at heq;simp! [fE,lj,cF,ja,heq,List.isEmpty_nil,dk (mH (i:=7) (j:=k) (by decide))]
 ·have Vg:(0:Int) < (ns.length:Int):=by have:=List.length_pos_iff.mpr hn;lia
  have he:ns.isEmpty=false:=by cases ns<;>first|rfl|exact absurd rfl hn
  let⟨j,hj⟩:=vT (wI k (show (ns.length:Int)≠0 by lia));have UQ:=vI k Vg;have hx:qa (ns.map PyData.int) (k % (ns.length:Int))=some (.int (ns.getD j 0)):=by
   rw[hj];have:j < (ns.map PyData.int).length:=by rw[zD];lia
   rw[nJ this,zG,zO,zG];rw[zK (by lia)];rfl
  refine⟨ns.getD j 0+6553 * (k / (ns.length:Int)),?_⟩;simp! [fE,lj,cF,ja,heq,he,yP,zD,iX Vg,hx,lb (i:=k) (j:=(ns.length:Int)) ⟨Vg,by lia⟩,dk (mH (i:=6553) (j:=k / (ns.length:Int)) (by decide))]
def Kw(k many:Int)(hl:ns.length<=63)(hm:0 < many):∃r,av [cF ns,.int k,.int many]=some (.int r)/\0<=r/\r < many:=by
 let⟨c,hc⟩:=Pa k hl;have m1:∀i:Int,Dl.mh (.int i) (.int 2147483563)=some (.int (i % 2147483563)):=λi=>iX (by decide);have m2:∀i:Int,Dl.mh (.int i) (.int 2147483399)=some (.int (i % 2147483399)):=λi=>iX (by decide);have m3:∀i:Int,Dl.mh (.int i) (.int 2147483647)=some (.int (i % 2147483647)):=λi=>iX (by decide);have d1:∀i:Int,Dl.nz (.int i) (.int 3)=some (.int (i / 3)):=λi=>lb (by decide);have d2:∀i:Int,Dl.nz (.int i) (.int 7)=some (.int (i / 7)):=λi=>lb (by decide);have d3:∀i:Int,Dl.nz (.int i) (.int 11)=some (.int (i / 11)):=λi=>lb (by decide);have u1:∀i:Int,Dl.eQ (.int i) (.int 69069)=some (.int (i * 69069)):=λi=>dk (Oj (by decide));have u2:∀i:Int,Dl.eQ (.int 104723) (.int i)=some (.int (104723 * i)):=λi=>dk (mH (by decide));have b1:∀x:Int,Dl.eQ (.int (x % 2147483563)) (.int (x % 2147483563))=some (.int (x % 2147483563 * (x % 2147483563))):=λx=>dk (mH (by
  have:=wI x (show (2147483563:Int)≠0 by decide);have:=vI x (show (0:Int) < 2147483563 by decide);lia))
 have b2:∀x:Int,Dl.eQ (.int (x % 2147483399)) (.int (x % 2147483399))=some (.int (x % 2147483399 * (x % 2147483399))):=λx=>dk (mH (by
  have:=wI x (show (2147483399:Int)≠0 by decide);have:=vI x (show (0:Int) < 2147483399 by decide);lia))
 suffices h:∃x,av [cF ns,.int k,.int many]=some (.int (x % many)) by
  let⟨x,hx⟩:=h;exact⟨_,hx,wI x (show many≠0 by lia),vI x hm⟩
 ·refine⟨(((((c % 2147483563 * 69069+104723 * (k+1)) % 2147483563) * ((c % 2147483563 * 69069+104723 * (k+1)) % 2147483563)+((c % 2147483563 * 69069+104723 * (k+1)) % 2147483563) / 3) % 2147483399) * ((((c % 2147483563 * 69069+104723 * (k+1)) % 2147483563) * ((c % 2147483563 * 69069+104723 * (k+1)) % 2147483563)+((c % 2147483563 * 69069+104723 * (k+1)) % 2147483563) / 3) % 2147483399)+((((c % 2147483563 * 69069+104723 * (k+1)) % 2147483563) * ((c % 2147483563 * 69069+104723 * (k+1)) % 2147483563)+((c % 2147483563 * 69069+104723 * (k+1)) % 2147483563) / 3) % 2147483399) / 7) % 2147483647 / 11,?_⟩;simp! [av,nF,hc,m1,u1,u2,Dl.aI,A2,yX,yW,b1,d1,m2,b2,d2,m3,d3,iX (j:=many) hm]
def dr(ns:List Int)(k many:Int):Int:=jl ((av [cF ns,.int k,.int many]).getD .none)
def eV(k many:Int)(hl:ns.length<=63)(hm:0 < many):av [cF ns,.int k,.int many]=some (.int (dr ns k many))/\0<=dr ns k many/\dr ns k many < many:=by
 let⟨r,h1,h2⟩:=Kw k many hl hm;have:dr ns k many=r:=by simp?[dr,h1,qJ,jl]
 rw[this];exact⟨h1,h2⟩
def AW(k many:Int)(hl:ns.length<=63)(hm:0 < many):av [cF ns,.int k,.int many]=some (.int (dr ns k many)):=(eV k many hl hm).1
def Rh(k many:Int)(hl:ns.length<=63)(hm:0 < many):0<=dr ns k many:=(eV k many hl hm).2.1
def Rm(k many:Int)(hl:ns.length<=63)(hm:0 < many):dr ns k many < many:=(eV k many hl hm).2.2
def cA(r:List Int):D:=.list (r.map PyData.int)
def insI(ds:List Int)(k:Int)(d:Int):List Int:=let j:=if k < 0 then (k+(ds.length:Int)).toNat else min k.toNat ds.length;ds.take j++d::ds.drop j
def Fi(ds:List Int)(k d:Int):EE (ds.map PyData.int) k (.int d)=(insI ds k d).map PyData.int:=by
 simp?[EE,insI,zD,jC,zI,List.map_take,List.map_drop]
def insI_perm(ds:List Int)(k d:Int):(insI ds k d).Perm (d::ds):=by
 simp?[insI];refine List.perm_middle.trans ?_;rw[List.take_append_drop]
def oB:au->Option Out:=(Gv 6 [8] (aj 3 av (aa (ae 0) (aa (f2 aL (f2 aL (ae 1) (f2 eQ (fC (.int 4)) (ae 4))) (ae 7)) (aa (f2 aL (bD bZ (aa (ae 6) ag)) (fC (.int 1))) ag)))) (ae 8))
def Oc{s3:Slot}(hl:ns.length<=63)(ho:order.length<=1000) :
  oB [.val (cF ns),.val (.int a),s2,s3,.val (.int k),s5,.own (order.map PyData.int),.val (.int j),.val (.int x)] =
   some (.nx [.val (cF ns),.val (.int a),s2,s3,.val (.int k),s5,.own ((insI order (dr ns (a+4 * k+j) ((order.length:Int)+1)) x).map PyData.int),.val (.int j),.val (.int x)]):=by
 have h4:Dl.eQ (.int 4) (.int k)=some (.int (4 * k)):=dk (mH (by decide));have hd:=eV (ns:=ns) (a+4 * k+j) ((order.length:Int)+1) hl (by lia);have hr:Bx (dr ns (a+4 * k+j) ((order.length:Int)+1))=true:=by
  simp?[Bx,zF,zJ];lia
 have hz:(order.map PyData.int).length < sizeLine:=by rw[zD];exact jB ho (by decide)
 simp! [oB,Gv,kh,A2,oE,zD,h4,hd.1];rw[zD] at hz;simp?[hr,hz,jR,xJ,zB,Fi,yX,yW]
def GH{s3:Slot}(hl:ns.length<=63):∀ {row order:List Int}{j:Nat}{s7 s8:Slot},order.length+row.length<=1000 ->
  ∃ (o:List Int) (t7 t8:Slot),bN (gz 7 8) oB (bH j (row.map PyData.int)) [.val (cF ns),.val (.int a),s2,s3,.val (.int k),s5,.own (order.map PyData.int),s7,s8] =
   some (.nx [.val (cF ns),.val (.int a),s2,s3,.val (.int k),s5,.own (o.map PyData.int),t7,t8])/\o.Perm (row++order)
 | [],order,j,s7,s8,_=>⟨order,s7,s8,by simp[bH,bN],by simp⟩
 | x::row,order,j,s7,s8,h=>by
  rw[zL] at h;have hp:=insI_perm order (dr ns (a+4 * k+((j:Nat):Int)) ((order.length:Int)+1)) x;have hlen:=hp.length_eq;rw[zL] at hlen;let⟨o,t7,t8,e,p⟩:=GH (s2:=s2) (s3:=s3) (s5:=s5) (a:=a) (k:=k) hl (row:=row) (order:=insI order (dr ns (a+4 * k+((j:Nat):Int)) ((order.length:Int)+1)) x) (j:=j+1) (s7:=.val (.int (j:Nat))) (s8:=.val (.int x)) (by lia);refine⟨o,t7,t8,?_,p.trans ?_⟩
  ·have hs:gz 7 8 [.val (cF ns),.val (.int a),s2,s3,.val (.int k),s5,.own (order.map PyData.int),s7,s8] (.tuple [.int (j:Nat),.int x])=some [.val (cF ns),.val (.int a),s2,s3,.val (.int k),s5,.own (order.map PyData.int),.val (.int (j:Nat)),.val (.int x)]:=rfl;simp?[zI,bH,bN,hs,zA,Oc hl (show order.length<=1000 by lia),e]
  ·refine (hp.append_left row).trans ?_;rw[xH];exact List.perm_middle
def tO:List (List Int)->List (List Int)->Prop|[],[]=>True|a::l,b::m=>a.Perm b/\tO l m|_,_=>False
def rB:au->Option Out:=(aw (aQ 6 [] (eX ag)) (aw (cX [5] (bf (aa (ae 5) ag)) (gz 7 8) oB) (iR 3 [6] (bD bp (aa (ae 6) ag)))))
def O5(hl:ns.length<=63)(hr:row.length<=1000)(hf:found.length<=1000) :
  ∃ (o:List Int) (t7 t8:Slot),rB [.val (cF ns),.val (.int a),.val rows,.own found,.val (.int k),.val (cA row),s6,s7,s8]=some (.nx [.val (cF ns),.val (.int a),.val rows,.own (found++[af o]),.val (.int k),.val (cA row),.val (cA o),t7,t8])/\o.Perm row:=by
 let⟨o,t7,t8,e,p⟩:=GH (s2:=.val rows) (s3:=.own found) (s5:=.val (cA row)) (a:=a) (k:=k) hl (row:=row) (order:=[]) (j:=0) (s7:=s7) (s8:=s8) (by simpa using hr);rw[qH] at p;refine⟨o,t7,t8,?_,p⟩;have h1:aQ 6 [] (eX ag) [.val (cF ns),.val (.int a),.val rows,.own found,.val (.int k),.val (cA row),s6,s7,s8]=some (.nx [.val (cF ns),.val (.int a),.val rows,.own found,.val (.int k),.val (cA row),.own [],s7,s8]):=by
  simp?[aQ,n0,eX,ag,zA,ja,zB,yX,yW]
 have h2:cX [5] (bf (aa (ae 5) ag)) (gz 7 8) oB [.val (cF ns),.val (.int a),.val rows,.own found,.val (.int k),.val (cA row),.own [],s7,s8]=some (.nx [.val (cF ns),.val (.int a),.val rows,.own found,.val (.int k),.val (cA row),.own (o.map PyData.int),t7,t8]):=by
  have hh:hand [5] 0 [Slot.val (cF ns),.val (.int a),.val rows,.own found,.val (.int k),.val (cA row),.own [],s7,s8]=[Slot.val (cF ns),.val (.int a),.val rows,.own found,.val (.int k),.val (cA row),.own [],s7,s8]:=rfl;have hq:bf (aa (ae 5) ag) (bJ [Slot.val (cF ns),.val (.int a),.val rows,.own found,.val (.int k),.val (cA row),.own [],s7,s8])=some (bH 0 (row.map PyData.int)):=by
   simp?[bJ,zI,yV];simp! [bf,cA]
  simp?[cX,hh,hq,zA];exact e
 have h3:iR 3 [6] (bD bp (aa (ae 6) ag)) [.val (cF ns),.val (.int a),.val rows,.own found,.val (.int k),.val (cA row),.own (o.map PyData.int),t7,t8]=some (.nx [.val (cF ns),.val (.int a),.val rows,.own (found++[af o]),.val (.int k),.val (cA row),.val (cA o),t7,t8]):=by
  have hz:found.length < sizeLine:=jB hf (by decide);have hh:hand [6] 0 [Slot.val (cF ns),.val (.int a),.val rows,.own found,.val (.int k),.val (cA row),.own (o.map PyData.int),t7,t8]=[Slot.val (cF ns),.val (.int a),.val rows,.own found,.val (.int k),.val (cA row),.val (cA o),t7,t8]:=rfl;simp?[iR,kh,hh,bJ,zI,yV];simp! [Bf,yP,oE,hz,yX,yW,cA,af]
 simp?[rB,aw,h1,h2,h3,zA]
def GN{rws:D}(hl:ns.length<=63):∀ {rows:List (List Int)}{found:List D}{k:Nat}{s4 s5 s6 s7 s8:Slot},(∀r∈rows,r.length<=1000)->found.length+rows.length<=1000 ->
  ∃ (os:List (List Int)) (t4 t5 t6 t7 t8:Slot),bN (gz 4 5) rB (bH k (rows.map cA)) [.val (cF ns),.val (.int a),.val rws,.own found,s4,s5,s6,s7,s8]=some (.nx [.val (cF ns),.val (.int a),.val rws,.own (found++os.map af),t4,t5,t6,t7,t8])/\tO os rows
 | [],found,k,s4,s5,s6,s7,s8,_,_=>⟨[],s4,s5,s6,s7,s8,by simp[bH,bN],trivial⟩
 | r::rows,found,k,s4,s5,s6,s7,s8,h,hf=>by
  rw[zL] at hf;let⟨o,u7,u8,e1,p1⟩:=O5 (rows:=rws) (a:=a) (k:=((k:Nat):Int)) (s6:=s6) (s7:=s7) (s8:=s8) hl (h r zE) (show found.length<=1000 by lia);let⟨os,t4,t5,t6,t7,t8,e,p⟩:=GN hl (rws:=rws) (a:=a) (rows:=rows) (found:=found++[af o]) (k:=k+1) (s4:=.val (.int (k:Nat))) (s5:=.val (cA r)) (s6:=.val (cA o)) (s7:=u7) (s8:=u8) (λr' Vr=>h r' (zC _ Vr)) (by rw[zN,xD];lia);refine⟨o::os,t4,t5,t6,t7,t8,?_,p1,p⟩;have hs:gz 4 5 [.val (cF ns),.val (.int a),.val rws,.own found,s4,s5,s6,s7,s8] (.tuple [.int (k:Nat),cA r])=some [.val (cF ns),.val (.int a),.val rws,.own found,.val (.int (k:Nat)),.val (cA r),s6,s7,s8]:=rfl;simp?[zI,bH,bN,hs,zA,e1];rw[e,List.append_assoc];rfl
def AZ(hl:ns.length<=63)(hr:∀r∈rows,r.length<=1000)(hn:rows.length<=1000):∃os:List (List Int),cf [cF ns,.int a,.list (rows.map cA)]=some (.list (os.map af))/\tO os rows:=by
 let⟨os,t4,t5,t6,t7,t8,e,p⟩:=GN hl (rws:=.list (rows.map cA)) (a:=a) (rows:=rows) (found:=[]) (k:=0) (s4:=.Ux) (s5:=.Ux) (s6:=.Ux) (s7:=.Ux) (s8:=.Ux) hr (by simpa using hn);refine⟨os,?_,p⟩;rw[xQ] at e;have h1:aQ 3 [] (eX ag) [.val (cF ns),.val (.int a),.val (.list (rows.map cA)),.Ux,.Ux,.Ux,.Ux,.Ux,.Ux]=some (.nx [.val (cF ns),.val (.int a),.val (.list (rows.map cA)),.own [],.Ux,.Ux,.Ux,.Ux,.Ux]):=by
  simp?[aQ,n0,eX,ag,zA,ja,zB,yX,yW]
 have h2:cX [2] (bf (aa (ae 2) ag)) (gz 4 5) rB [.val (cF ns),.val (.int a),.val (.list (rows.map cA)),.own [],.Ux,.Ux,.Ux,.Ux,.Ux]=some (.nx [.val (cF ns),.val (.int a),.val (.list (rows.map cA)),.own (os.map af),t4,t5,t6,t7,t8]):=by
  have hh:hand [2] 0 [Slot.val (cF ns),.val (.int a),.val (.list (rows.map cA)),.own [],.Ux,.Ux,.Ux,.Ux,.Ux]=[Slot.val (cF ns),.val (.int a),.val (.list (rows.map cA)),.own [],.Ux,.Ux,.Ux,.Ux,.Ux]:=rfl;have hq:bf (aa (ae 2) ag) (bJ [Slot.val (cF ns),.val (.int a),.val (.list (rows.map cA)),.own [],.Ux,.Ux,.Ux,.Ux,.Ux])=some (bH 0 (rows.map cA)):=by
   simp?[bJ,zI,yV];simp! [bf]
  simp?[cX,hh,hq,zA];exact e
 unfold rB oB at h2;simp! [cf,my,h1,h2]
abbrev Pl:=Int×List Int
abbrev Wy:=Int×Int×Int
def aW(p:Pl):D:=.tuple [.int p.1,af p.2]
def ao(w:Wy):D:=.tuple [.int w.1,.int w.2.1,.int w.2.2]
def az(G T:List Pl)(W:List Wy):D:=.tuple [.tuple (G.map aW),.tuple (T.map aW),.tuple (W.map ao)]
def Br(W:List Wy)(i:Int):List Int:=(W.filter λw=>decide (w.1=i)).map λw=>w.2.1
def ofT(W:List Wy)(j:Int):List Int:=(W.filter λw=>decide (w.2.1=j)).map λw=>w.1
abbrev uy(W:List Wy):Prop:=W.Pairwise λa b=>a.1 < b.1\/(a.1=b.1/\a.2.1 < b.2.1)
structure Wd(G T:List Pl)(W:List Wy):Prop where
 g1:1<=G.length
 g4:G.length<=4
 t1:1<=T.length
 t4:T.length<=4
 ga:∀p∈G,0<=p.1/\p.1<=9
 ta:∀p∈T,0<=p.1/\p.1<=9
 gl:∀ (i:Nat) (p:Pl),G[i]?=some p->p.2.Perm (Br W i)
 tl:∀ (j:Nat) (p:Pl),T[j]?=some p->p.2.Perm (ofT W j)
 wr:∀w∈W,(0<=w.1/\w.1 < G.length)/\(0<=w.2.1/\w.2.1 < T.length)/\1<=w.2.2/\w.2.2<=9
 wp:uy W
 wl:W.length<=16
def xx:j∈Br W i↔[i,j]∈W.map λw=>[w.1,w.2.1]:=by
 simp?[Br,List.mem_map,List.mem_filter,zJ,vE,and_true];constructor
 ·rintro⟨w,⟨h1,h2⟩,h3⟩;exact⟨w,h1,h2,h3⟩
 ·rintro⟨w,h1,h2,h3⟩;exact⟨w,⟨h1,h2⟩,h3⟩
def yh:i∈ofT W j↔[i,j]∈W.map λw=>[w.1,w.2.1]:=by
 simp?[ofT,List.mem_map,List.mem_filter,zJ,vE,and_true];constructor
 ·rintro⟨w,⟨h1,h2⟩,h3⟩;exact⟨w,h1,h3,h2⟩
 ·rintro⟨w,h1,h2,h3⟩;exact⟨w,⟨h1,h3⟩,h2⟩
def oK(h:uy W)(i:Int):(Br W i).Nodup:=by
 unfold Br List.Nodup;rw[jG,List.pairwise_filter];refine h.imp λVz ha hb=>?_;rw[zJ] at ha hb;lia
def pA(h:uy W)(i:Int):(ofT W i).Nodup:=by
 unfold ofT List.Nodup;rw[jG,List.pairwise_filter];refine h.imp λVz ha hb=>?_;rw[zJ] at ha hb;lia
def gG(p:Pl):jc (aW p)=p.2:=by
 show ((p.2.map PyData.int).map jl)=p.2;rw[zM];exact List.map_id _
def pL(ha:0<=p.1/\p.1<=9)(hn:p.2.Nodup)(hr:∀j∈p.2,0<=j/\j < n):placeOk n (aW p)=true:=by
 have e:(p.2.map PyData.int).map jl=p.2:=gG p;have e2:(p.2.map PyData.int).all (whole 0 (n - 1))=true:=by
  rw[xI];intro x hx;let⟨j,hj,rfl⟩:=List.mem_map.mp hx;have:=hr j hj;simp?[whole,zF,zJ];lia
 simp?[placeOk,aW,af,zL,xN,wX,wY,jo,whole,e,e2,ha.1,ha.2,hn,jS,Bool.and_self]
def Fe(h:(0<=w.1/\w.1 < g)/\(0<=w.2.1/\w.2.1 < t)/\1<=w.2.2/\w.2.2<=9):kf g t (ao w)=true:=by
 let⟨⟨a,b⟩,⟨c,d⟩,e,f⟩:=h;have b':w.1<=g - 1:=by lia
 have d':w.2.1<=t - 1:=by lia
 simp?[kf,ao,zL,xN,wX,wY,whole,a,b',c,d',e,f,jS,Bool.and_self]
def Tb(h:a < c\/(a=c/\b < d)):Dl.lexLt [a,b] [c,d]=true:=by
 show HT.lexLt [a,b] [c,d]=true;rw[HT.cm];by_cases e:a=c
 ·rw[yM e,HT.cm,yO (by lia)];simp?[zJ];lia
 ·rw[yO e];simp?[zJ];lia
def Wd.ZM(h:Wd G T W)(hp:p∈G):∃i:Nat,i < G.length/\p.2.Perm (Br W i):=by
 let⟨i,hi,e⟩:=qT hp;exact⟨i,hi,h.gl i p (by rw[zK hi,e])⟩
def Wd.ZN(h:Wd G T W)(hp:p∈T):∃i:Nat,i < T.length/\p.2.Perm (ofT W i):=by
 let⟨i,hi,e⟩:=qT hp;exact⟨i,hi,h.tl i p (by rw[zK hi,e])⟩
def Wd.gok(h:Wd G T W):(G.map aW).all (placeOk T.length)=true:=by
 rw[xI];intro x hx;let⟨p,hp,rfl⟩:=List.mem_map.mp hx;let⟨i,hi,q⟩:=h.ZM hp;refine pL (h.ga p hp) (q.nodup_iff.mpr (oK h.wp _)) λj hj=>?_;let⟨w,hw,e⟩:=List.mem_map.mp (xx.mp (q.mem_iff.mp hj));injection e with e1 e2
 injection e2 with e2 _
 have:=(h.wr w hw).2.1;rw[e2] at this;exact this
def Wd.tok(h:Wd G T W):(T.map aW).all (placeOk G.length)=true:=by
 rw[xI];intro x hx;let⟨p,hp,rfl⟩:=List.mem_map.mp hx;let⟨i,hi,q⟩:=h.ZN hp;refine pL (h.ta p hp) (q.nodup_iff.mpr (pA h.wp _)) λj hj=>?_;let⟨w,hw,e⟩:=List.mem_map.mp (yh.mp (q.mem_iff.mp hj));injection e with e1 e2
 have:=(h.wr w hw).1;rw[e1] at this;exact this
def rY{W:List Wy}{p:Wy->Bool}(h:W.length<=16):(W.filter p).length<=16:=yD (xR _ _) h
def Dk(h:p.2.length<=16):iz 16 2 (aW p):=.tup (by simp?[zL,xN];lia) λx hx=>by
 rcases List.mem_cons.mp hx with rfl|hx
 ·exact lW _
 ·rw[yK] at hx;subst hx;exact qm h
def Le(w:Wy):iz 16 1 (ao w):=.tup (by simp?[zL,xN];lia) λx hx=>by
 simp?[zQ,yF,xW] at hx;rcases hx with rfl|rfl|rfl<;>exact lW _
def Wd.fit(h:Wd G T W):iz 16 4 (az G T W):=by
 refine .tup (by simp?[zL,xN];lia) λx hx=>?_;simp?[zQ,yF,xW] at hx;have h4:=h.g4;have h5:=h.t4;have h6:=h.wl;rcases hx with rfl|rfl|rfl
 ·refine .tup (by rw[zD];lia) λx hx=>?_;let⟨p,hp,rfl⟩:=List.mem_map.mp hx;let⟨i,hi,q⟩:=h.ZM hp;exact Dk (by rw[q.length_eq,Br,zD];exact rY h.wl)
 ·refine .tup (by rw[zD];lia) λx hx=>?_;let⟨p,hp,rfl⟩:=List.mem_map.mp hx;let⟨i,hi,q⟩:=h.ZN hp;exact Dk (by rw[q.length_eq,ofT,zD];exact rY h.wl)
 ·refine .tup (by rw[zD];lia) λx hx=>?_;let⟨p,hp,rfl⟩:=List.mem_map.mp hx;exact (Le p).mono (yN _) (by decide)
def E9(h0:0<=c)(h9:c<=9):Wd [(c,[0,1]),(c,[1,0])] [(c,[1,0]),(c,[0,1])] [(0,0,2),(0,1,2),(1,0,2),(1,1,2)] where
 g1:=by simp?[zL,xN];lia
 g4:=by simp?[zL,xN];lia
 t1:=by simp?[zL,xN];lia
 t4:=by simp?[zL,xN];lia
 ga:=by intro p hp;simp?[zQ,yF,xW] at hp;rcases hp with rfl|rfl<;>exact⟨h0,h9⟩
 ta:=by intro p hp;simp?[zQ,yF,xW] at hp;rcases hp with rfl|rfl<;>exact⟨h0,h9⟩
 gl:=by
  intro i p hp
  match i,hp with
  | 0,hp=>injection hp with hp;subst hp;exact (show List.Perm ([0,1]:List Int) (Br [(0,0,2),(0,1,2),(1,0,2),(1,1,2)] ((0:Nat):Int)) by decide)
  | 1,hp=>injection hp with hp;subst hp;exact (show List.Perm ([1,0]:List Int) (Br [(0,0,2),(0,1,2),(1,0,2),(1,1,2)] ((1:Nat):Int)) by decide)
 tl:=by
  intro i p hp
  match i,hp with
  | 0,hp=>injection hp with hp;subst hp;exact (show List.Perm ([1,0]:List Int) (ofT [(0,0,2),(0,1,2),(1,0,2),(1,1,2)] ((0:Nat):Int)) by decide)
  | 1,hp=>injection hp with hp;subst hp;exact (show List.Perm ([0,1]:List Int) (ofT [(0,0,2),(0,1,2),(1,0,2),(1,1,2)] ((1:Nat):Int)) by decide)
 wr:=show ∀w∈([(0,0,2),(0,1,2),(1,0,2),(1,1,2)]:List Wy),(0<=w.1/\w.1 < ((2:Nat):Int))/\(0<=w.2.1/\w.2.1 < ((2:Nat):Int))/\1<=w.2.2/\w.2.2<=9 by decide
 wp:=by decide
 wl:=by decide
def k6(f:Nat->Int):Nat->List (List Int)->List Pl|_,[]=>[]|k,r::rs=>(f k,r)::k6 f (k+1) rs
def iZ(f:Nat->Int):∀ (rs:List (List Int)) (k:Nat),(k6 f k rs).length=rs.length
 | [],k=>rfl
 | r::rs,k=>by rw[k6,zL,zL,iZ f rs]
def iO(f:Nat->Int):∀ {rs:List (List Int)}{k i:Nat}{p:Pl},(k6 f k rs)[i]?=some p->∃r,rs[i]?=some r/\p=(f (k+i),r)
 | [],k,i,p,h=>by simp[k6] at h
 | r::rs,k,0,p,h=>by simp[k6] at h;exact⟨r,rfl,h.symm⟩
 | r::rs,k,i+1,p,h=>by
  simp?[k6,yZ] at h;let⟨y,h1,h2⟩:=iO f h;exact⟨y,by simpa using h1,by rw[h2];congr 2;lia⟩
def eW:∀ {a b:List (List Int)},tO a b->a.length=b.length
 | [],[],_=>rfl
 | x::a,y::b,h=>by rw[zL,zL,eW h.2]
 | [],_::_,h=>h.elim
 | _::_,[],h=>h.elim
def oO:∀ {a b:List (List Int)}{i:Nat}{r:List Int},tO a b->a[i]?=some r->∃s,b[i]?=some s/\r.Perm s
 | [],[],i,r,_,h=>by simp at h
 | x::a,y::b,0,r,h,e=>by
  simp?[xS,yL] at e;subst e;exact⟨y,rfl,h.1⟩
 | x::a,y::b,i+1,r,h,e=>by
  simp?[yZ] at e;let⟨s,h1,h2⟩:=oO h.2 e;exact⟨s,by simpa using h1,h2⟩
 | [],_::_,i,r,h,_=>h.elim
 | _::_,[],i,r,h,_=>h.elim
def ml(W:List Wy)(m:Nat):List (List Int):=(List.range m).map λi=>Br W ((i:Nat):Int)
def kg(W:List Wy)(m:Nat):List (List Int):=(List.range m).map λi=>ofT W ((i:Nat):Int)
def KW(m1:1<=m)(m4:m<=4)(s1:1<=s)(s4:s<=4)(hf:∀k,0<=f k/\f k<=9)(hg:∀k,0<=g k/\g k<=9)
  (hm:tO UK (ml W m)) (hy:tO UZ (kg W s)) (wr:∀w∈W,(0<=w.1/\w.1 < m)/\(0<=w.2.1/\w.2.1 < s)/\1<=w.2.2/\w.2.2<=9) (wp:uy W) (wl:W.length<=16):Wd (k6 f 0 UK) (k6 g 0 UZ) W:=by
 have lm:(k6 f 0 UK).length=m:=by rw[iZ,eW hm,ml,zD,zR]
 have ly:(k6 g 0 UZ).length=s:=by rw[iZ,eW hy,kg,zD,zR]
 have am:∀ {h:Nat->Int}{rs:List (List Int)},(∀k,0<=h k/\h k<=9)->∀p∈k6 h 0 rs,0<=p.1/\p.1<=9:=λ{h rs} hh p hp=>by
  let⟨i,hi⟩:=List.mem_iff_getElem?.mp hp;let⟨r,_,rfl⟩:=iO h hi;exact hh _
 refine⟨by lia,by lia,by lia,by lia,am hf,am hg,λi p hp=>?_,λi p hp=>?_,by rw[lm,ly];exact wr,wp,wl⟩
 ·let⟨r,h1,rfl⟩:=iO f hp;let⟨t,h2,h3⟩:=oO hm h1;rw[ml,zO] at h2;let⟨k,hk,rfl⟩:=Option.map_eq_some_iff.mp h2;have:k=i:=by
   rw[zT] at hk;let⟨h,e⟩:=hk;rw[List.getElem_range] at e;exact e.symm
  subst this;exact h3
 ·let⟨r,h1,rfl⟩:=iO g hp;let⟨t,h2,h3⟩:=oO hy h1;rw[kg,zO] at h2;let⟨k,hk,rfl⟩:=Option.map_eq_some_iff.mp h2;have:k=i:=by
   rw[zT] at hk;let⟨h,e⟩:=hk;rw[List.getElem_range] at e;exact e.symm
  subst this;exact h3
def cx{i:Nat}{fz:List Nat}{f:Dl.Env->Option D}{ρ ρ':au}{d:D}(hf:f (aG ρ)=some d)(hs:Dl.oa d=false)(hh:hand fz 0 ρ=ρ')(hv:bJ ρ'=aG ρ)(hr:hJ d=false\/ρ'=ρ:=by first|exact .inr rfl|exact .inl rfl):Dl.aI i fz f ρ=some (.nx (ρ'.set i (.val d))):=by
 rcases hr with hr|hr
 ·simp?[Dl.aI,hf,zA,hs,yP,qS,hh,hv,zB,hr]
 ·subst hr;simp?[Dl.aI,hf,zA,hs,yP,qS,hh,hv,zB,ite_self]
def bI{i:Nat}{fz:List Nat}{f:Dl.Env->Option D}{ρ:au}{d:D}(hf:f (aG ρ)=some d)(hs:Dl.oa d=true):Dl.aI i fz f ρ=some (.nx (ρ.set i (.val d))):=by
 simp?[Dl.aI,hf,zA,hs,xJ]
def MM(w:Wy):ay (ao w) (.int 0)=some (.int w.1):=rfl
def Mw(w:Wy):ay (ao w) (.int 1)=some (.int w.2.1):=rfl
def Cn(a b c:D):small [a,b,c]=some [a,b,c]:=rfl
def Re{a b s:Int}(hs:s=1\/s=2\/s=3)(h:a < b):a / s < b / s\/(a / s=b / s/\a % s < b % s):=by rcases hs with rfl|rfl|rfl<;>lia
def PD{k m s:Int}(hs:s=1\/s=2\/s=3)(hm:m=1\/m=2\/m=3)(h0:0<=k)(h:k < m * s):(0<=k / s/\k / s < m)/\0<=k % s/\k % s < s:=by
 rcases hs with rfl|rfl|rfl<;>rcases hm with rfl|rfl|rfl<;>lia
def lB:au->Option Out:=(fX (eE (fB (f2 Bq (bD bZ (aa (ae 7) ag)) (ae 2))) (fB (f2 Bu (aj 3 av (aa (ae 0) (aa (f2 aL (f2 aL (ae 1) (fC (.int 2))) (ae 8)) (aa (fC (.int 4)) ag)))) (fC (.int 0))))) (iR 7 [0,1,6,8] (aJ (aa (f2 nz (ae 8) (ae 6)) (aa (f2 mh (ae 8) (ae 6)) (aa (f2 aL (fC (.int 1)) (aj 3 av (aa (ae 0) (aa (f2 aL (f2 aL (ae 1) (fC (.int 12))) (ae 8)) (aa (fC (.int 2)) ag))))) ag))))) fv)
abbrev st(ns:List Int)(a mo m s:Int)(x4 x7 x8 x9 x10 x11:Slot):au:=[.val (cF ns),.val (.int a),.val (.int mo),.Ux,x4,.val (.int m),.val (.int s),x7,x8,x9,x10,x11]
def LX(ns:List Int)(a mo s k:Int)(W:List Wy):List Wy:=if (W.length:Int) < mo/\0 < dr ns (a+2+k) 4 then W++[(k / s,k % s,1+dr ns (a+12+k) 2)] else W
def Nz{ns:List Int}{a mo m s k:Int}{W:List Wy}(hl:ns.length<=63)(hs:s=1\/s=2\/s=3)(hw:W.length<=9) :
  lB (st ns a mo m s .Ux (.own (W.map ao)) (.val (.int k)) .Ux .Ux .Ux)=some (.nx (st ns a mo m s .Ux (.own ((LX ns a mo s k W).map ao)) (.val (.int k)) .Ux .Ux .Ux)):=by
 have hs0:0 < s:=by lia
 have hz:W.length < sizeLine:=jB hw (by decide);have hd:Dl.nz (.int k) (.int s)=some (.int (k / s)):=lb ⟨hs0,by lia⟩;have hm:Dl.mh (.int k) (.int s)=some (.int (k % s)):=iX hs0;have e4:=AW (ns:=ns) (a+2+k) 4 hl (by decide);have e2:=AW (ns:=ns) (a+12+k) 2 hl (by decide);have hh:hand [0,1,6,8] 0 (st ns a mo m s .Ux (.own (W.map ao)) (.val (.int k)) .Ux .Ux .Ux)=st ns a mo m s .Ux (.own (W.map ao)) (.val (.int k)) .Ux .Ux .Ux:=rfl;have ha:iR 7 [0,1,6,8] (aJ (aa (f2 nz (ae 8) (ae 6)) (aa (f2 mh (ae 8) (ae 6)) (aa (f2 aL (fC (.int 1)) (aj 3 av (aa (ae 0) (aa (f2 aL (f2 aL (ae 1) (fC (.int 12))) (ae 8)) (aa (fC (.int 2)) ag))))) ag)))) (st ns a mo m s .Ux (.own (W.map ao)) (.val (.int k)) .Ux .Ux .Ux)=some (.nx (st ns a mo m s .Ux (.own ((W++[(k / s,k % s,1+dr ns (a+12+k) 2)]).map ao)) (.val (.int k)) .Ux .Ux .Ux)):=by
  simp?[iR,kh,hh,bJ,zI,yV];simp! [Bf,yP,oE,hd,hm,e2,Cn,zD,hz,yX,yW,jC];rfl
 by_cases c1:(W.length:Int) < mo
 ·by_cases c2:0 < dr ns (a+2+k) 4
  ·rw[show LX ns a mo s k W=W++[(k / s,k % s,1+dr ns (a+12+k) 2)] from yM ⟨c1,c2⟩,<- ha];simp! [lB,ig,dA,zD,c1,c2,jS,ir,e4]
  ·rw[show LX ns a mo s k W=W from yO λh=>c2 h.2];simp! [lB,ig,dA,zD,c1,c2,jS,Zk,ir,e4,yP]
 ·rw[show LX ns a mo s k W=W from yO λh=>c1 h.1];simp! [lB,ig,dA,zD,c1,Zk,ir,yP]
structure FN(mo s k:Int)(W:List Wy):Prop where
 mem:∀w∈W,∃j:Int,0<=j/\j < k/\w.1=j / s/\w.2.1=j % s/\1<=w.2.2/\w.2.2<=2
 ris:uy W
 len:(W.length:Int)<=k
 lem:(W.length:Int)<=mo
def FN.next{ns:List Int}{a mo s k:Int}{W:List Wy}(hl:ns.length<=63)(hs:s=1\/s=2\/s=3)(hk:0<=k)(h:FN mo s k W):FN mo s (k+1) (LX ns a mo s k W):=by
 have old:∀w∈W,∃j:Int,0<=j/\j < k+1/\w.1=j / s/\w.2.1=j % s/\1<=w.2.2/\w.2.2<=2:=λw hw=>by
  let⟨j,a,b,c⟩:=h.mem w hw;exact⟨j,a,by lia,c⟩
 by_cases c:(W.length:Int) < mo/\0 < dr ns (a+2+k) 4
 ·rw[show LX ns a mo s k W=W++[(k / s,k % s,1+dr ns (a+12+k) 2)] from yM c];have g1:=Rh (ns:=ns) (a+12+k) 2 hl (by decide);have g2:=Rm (ns:=ns) (a+12+k) 2 hl (by decide);refine⟨λw hw=>?_,?_,?_,?_⟩
  ·rcases List.mem_append.mp hw with hw|hw
   ·exact old w hw
   ·rw[yK] at hw;subst hw;exact⟨k,hk,by lia,rfl,rfl,by simp only;lia,by simp only;lia⟩
  ·refine List.pairwise_append.mpr ⟨h.ris,vS _ _,λa ha b hb=>?_⟩;rw[yK] at hb;subst hb;let⟨j,_,b,c1,c2,_⟩:=h.mem a ha;rw[c1,c2];exact Re hs b
  ·have:=h.len;rw[zN,xD];lia
  ·have:=c.1;rw[zN,xD];lia
 ·rw[show LX ns a mo s k W=W from yO c];exact⟨old,h.ris,by have:=h.len;lia,h.lem⟩
def GY{ns:List Int}{a mo m s:Int}(hl:ns.length<=63)(hs:s=1\/s=2\/s=3):∀ (n k:Nat) {W:List Wy}{x8:Slot},k+n<=9->FN mo s k W ->
  ∃W' t8,bN (ik 8) lB ((List.range' k n).map λi=>PyData.int ((i:Nat):Int)) (st ns a mo m s .Ux (.own (W.map ao)) x8 .Ux .Ux .Ux)=some (.nx (st ns a mo m s .Ux (.own (W'.map ao)) t8 .Ux .Ux .Ux))/\(n=0/\t8=x8\/∃d,t8=.val d)/\FN mo s ((k+n:Nat):Int) W'
 | 0,k,W,x8,hk,h=>⟨W,x8,rfl,.inl ⟨rfl,rfl⟩,h⟩
 | n+1,k,W,x8,hk,h=>by
  have h':FN mo s ((k+1:Nat):Int) (LX ns a mo s k W):=by
   have:=h.next (ns:=ns) (a:=a) hl hs (by lia)
   rwa [show ((k:Int)+1)=((k+1:Nat):Int) by lia] at this
  let⟨W',t8,e,q,b⟩:=GY hl hs n (k+1) (W:=LX ns a mo s k W) (x8:=.val (.int (k:Nat))) (by lia) h';refine⟨W',t8,?_,.inr (q.elim (λz=>⟨_,z.2⟩) id),by rw[show k+(n+1)=k+1+n by lia];exact b⟩;have hsg:∀d,ik 8 (st ns a mo m s .Ux (.own (W.map ao)) x8 .Ux .Ux .Ux) d=some (st ns a mo m s .Ux (.own (W.map ao)) (.val d) .Ux .Ux .Ux):=λd=>rfl;rw[vQ,zI,bN,hsg,zA,Nz hl hs (by have:=h.len;lia)];exact e
def TX(W:List Wy)(i:Int)(hw:W.length<=20):aq 1 [0] (aO (ae 1)) (fG 0) (fB (f2 bC (f2 ay (ae 0) (fC (.int 0))) (ae 1))) (f2 ay (ae 0) (fC (.int 1))) [some (.int i),some (.list (W.map ao))]=some ((Br W i).map PyData.int):=by
 rw[nu (ds:=W.map ao) (p:=λd=>decide (jl ((cY d).getD 0 .none)=i)) (h:=λd=>(cY d).getD 1 .none) rfl (by rw[zD];lia) (λd hd=>?_) λd hd _=>?_]
 ·rw[kL,zM,Br,zM];rfl
 ·let⟨w,_,rfl⟩:=List.mem_map.mp hd;simp! [MM,bU,ir];rfl
 ·let⟨w,_,rfl⟩:=List.mem_map.mp hd;simp! [Mw];rfl
def Ul(W:List Wy)(i:Int)(hw:W.length<=20):aq 1 [0] (aO (ae 1)) (fG 0) (fB (f2 bC (f2 ay (ae 0) (fC (.int 1))) (ae 1))) (f2 ay (ae 0) (fC (.int 0))) [some (.int i),some (.list (W.map ao))]=some ((ofT W i).map PyData.int):=by
 rw[nu (ds:=W.map ao) (p:=λd=>decide (jl ((cY d).getD 1 .none)=i)) (h:=λd=>(cY d).getD 0 .none) rfl (by rw[zD];lia) (λd hd=>?_) λd hd _=>?_]
 ·rw[kL,zM,ofT,zM];rfl
 ·let⟨w,_,rfl⟩:=List.mem_map.mp hd;simp! [Mw,bU,ir];rfl
 ·let⟨w,_,rfl⟩:=List.mem_map.mp hd;simp! [MM];rfl
def yn{m:Nat}(hm:m<=1000):Bx ((m:Nat):Int)=true:=by
 unfold Bx;rw[zF,zJ,zJ];have h1:(0:Int)<=(m:Int):=Int.natCast_nonneg m;have h2:(m:Int)<=1000:=by lia
 exact⟨jW (by decide) h1,Int.lt_of_le_of_lt h2 (by decide)⟩
def zx{j:Int}(h:Bx j=true):mG [.int j]=some ((List.range j.toNat).map λi=>PyData.int ((i:Nat):Int)):=by
 rw[mG,yM h]
def yu{fi:Dl.Env->Option D}{ρ:Dl.Env}(m:Nat)(hm:m<=1000)(h:fi ρ=some (.int (m:Nat))):bh (aa fi ag) ρ=some ((List.range m).map λi=>PyData.int ((i:Nat):Int)):=by
 have e:aa fi ag ρ=some [.int ((m:Nat):Int)]:=by simp?[aa,ag,h,zA,zB]
 have e2:bh (aa fi ag) ρ=(aa fi ag ρ).bind mG:=rfl;rw[e2,e,zA,zx (yn hm),yG]
def Lw{W:List Wy}{m:Nat}{ρ:Dl.Env}(hw:W.length<=20)(hm:m<=1000)(h5:ae i5 ρ=some (.int (m:Nat)))(h7:(ρ[i7]?).getD none=some (.list (W.map ao))) :
  aq 1 [i7] (bh (aa (ae i5) ag)) (fG 0) (λ_=>some true) (bS (aq 1 [0] Ws (fG 0) (fB (f2 bC (f2 ay (ae 0) (fC (.int 0))) (ae 1))) (f2 ay (ae 0) (fC (.int 1))))) ρ=some ((ml W m).map cA):=by
 rw[cw (h:=λd=>cA (Br W (jl d))) (yu m hm h5) (by rw[zD,zR];lia) λd hd=>?_]
 ·rw[ml,zM,zM];rfl
 ·let⟨i,_,rfl⟩:=List.mem_map.mp hd;simp?[zI,yV,h7,bS,TX W _ hw,zB,cA,jl]
def LN{W:List Wy}{m:Nat}{ρ:Dl.Env}(hw:W.length<=20)(hm:m<=1000)(h5:ae i5 ρ=some (.int (m:Nat)))(h7:(ρ[i7]?).getD none=some (.list (W.map ao))) :
  aq 1 [i7] (bh (aa (ae i5) ag)) (fG 0) (λ_=>some true) (bS (aq 1 [0] Ws (fG 0) (fB (f2 bC (f2 ay (ae 0) (fC (.int 1))) (ae 1))) (f2 ay (ae 0) (fC (.int 0))))) ρ=some ((kg W m).map cA):=by
 rw[cw (h:=λd=>cA (ofT W (jl d))) (yu m hm h5) (by rw[zD,zR];lia) λd hd=>?_]
 ·rw[kg,zM,zM];rfl
 ·let⟨i,_,rfl⟩:=List.mem_map.mp hd;simp?[zI,yV,h7,bS,Ul W _ hw,zB,cA,jl]
def MY(c:Int):Dl.Env->Option D:=(aJ (aa (aj 3 av (aa (ae 2) (aa (f2 aL (f2 aL (ae 3) (fC (.int c))) (ae 0)) (aa (fC (.int 4)) ag)))) (aa (ae 1) ag)))
def P3{ns:List Int}{a:Int}(c:Int)(hl:ns.length<=63):∀ (UK:List (List Int)) (k:Nat),cD (gh 0 1) (λ_=>some true) (MY c) [none,none,some (cF ns),some (.int a)] (bH k (UK.map af))=some ((k6 (λk=>dr ns (a+c+((k:Nat):Int)) 4) k UK).map aW)
 | [],k=>rfl
 | r::UK,k=>by
  have hg:gh 0 1 [none,none,some (cF ns),some (.int a)] (.tuple [.int ((k:Nat):Int),af r])=some [some (.int ((k:Nat):Int)),some (af r),some (cF ns),some (.int a)]:=rfl;have he:MY c [some (.int ((k:Nat):Int)),some (af r),some (cF ns),some (.int a)]=some (aW (dr ns (a+c+((k:Nat):Int)) 4,r)):=by
   simp! [MY,AW (ns:=ns) (a+c+((k:Nat):Int)) 4 hl (by decide),CD,aW]
  have ih:=P3 (a:=a) c hl UK (k+1);rw[zI,bH,cD,hg];simp?[zA,xJ,he,ih,zB,k6,zI]
def lV:∀ (ds:List D) (k:Nat),(bH k ds).length=ds.length
 | [],k=>rfl
 | d::ds,k=>by rw[bH,zL,zL,lV ds]
def Ah{ns:List Int}{a c:Int}{i9:Nat}{ρ:Dl.Env}{UK:List (List Int)}(hl:ns.length<=63)(hm:UK.length<=1000)(h9:ae i9 ρ=some (.list (UK.map af)))(h0:(ρ[0]?).getD none=some (cF ns))(h1:(ρ[1]?).getD none=some (.int a)) :
  bD bp (aa (bS (aq 2 [0,1] (bf (aa (ae i9) ag)) (gh 0 1) (λ_=>some true) (MY c))) ag) ρ=some (.tuple ((k6 (λk=>dr ns (a+c+((k:Nat):Int)) 4) 0 UK).map aW)):=by
 have hi:bf (aa (ae i9) ag) ρ=some (bH 0 (UK.map af)):=by
  simp?[bf,aa,ag,h9,zA,zB,eO,oneOf,gf]
 have hc:aq 2 [0,1] (bf (aa (ae i9) ag)) (gh 0 1) (λ_=>some true) (MY c) ρ=some ((k6 (λk=>dr ns (a+c+((k:Nat):Int)) 4) 0 UK).map aW):=by
  simp?[aq,hi,zA,eL,zI,yV,h0,h1,List.replicate,xH,xQ,P3 c hl];exact bw (by rw[zD,iZ];lia)
 simp?[bD,aa,ag,bS,hc,zB,zA,bp,eO,oneOf,gf]
def ak{g1 g2:au->Option Out}{ρ ρ':au}(h:g1 ρ=some (.nx ρ')):aw g1 g2 ρ=g2 ρ':=by
 simp?[aw,h,zA]
def aE{g:au->Option Out}{n:Nat}{args:List D}{d:D}(h:g (args.map Slot.val++List.replicate (n - args.length) .Ux)=some (.rt d)):aV g n args=some d:=by
 simp?[aV,h,zB]
def i8{g:D->D->Option D}{fa fb:Dl.Env->Option D}{ρ:Dl.Env}{a b:D}(ha:fa ρ=some a)(hb:fb ρ=some b):f2 g fa fb ρ=g a b:=by
 simp?[f2,ha,hb,zA]
def Nm{ns:List Int}{a mo:Int}{m s:Nat}(m1:m<=3)(s1:s<=3):f2 eQ (ae 5) (ae 6) (bJ (st ns a mo m s .Ux (.own []) .Ux .Ux .Ux .Ux))=some (.int ((m * s:Nat):Int)):=by
 have h:Dl.eQ (.int (m:Int)) (.int (s:Int))=some (.int ((m:Int) * (s:Int))):=dk (mH (by lia));rw[i8 (a:=.int (m:Int)) (b:=.int (s:Int)) rfl rfl,h,Int.natCast_mul]
def Pp{ns:List Int}{a mo:Int}{m s:Nat}(m1:m<=3)(s1:s<=3)(hms:m * s<=9){W:List Wy}{t8:Slot}(e: bN (ik 8) lB ((List.range' 0 (m * s)).map λi=>PyData.int ((i:Nat):Int)) (st ns a mo m s .Ux (.own (([]:List Wy).map ao)) .Ux .Ux .Ux .Ux)=some (.nx (st ns a mo m s .Ux (.own (W.map ao)) t8 .Ux .Ux .Ux))):cX [5,6] (bh (aa (f2 eQ (ae 5) (ae 6)) ag)) (ik 8) lB (st ns a mo m s .Ux (.own []) .Ux .Ux .Ux .Ux)=some (.nx (st ns a mo m s .Ux (.own (W.map ao)) t8 .Ux .Ux .Ux)):=by
 have hh:hand [5,6] 0 (st ns a mo m s .Ux (.own []) .Ux .Ux .Ux .Ux)=st ns a mo m s .Ux (.own []) .Ux .Ux .Ux .Ux:=rfl;have hr:=yu (fi:=f2 eQ (ae 5) (ae 6)) (ρ:=bJ (st ns a mo m s .Ux (.own []) .Ux .Ux .Ux .Ux)) (m * s) (by lia) (Nm m1 s1);rw[yH] at hr;rw[yV] at e;simp?[cX,hh,hr,zA];exact e
structure Sl(mo:Int)(G T:List Pl)(W:List Wy):Prop where
 g3:G.length<=3
 t3:T.length<=3
 w2:∀w∈W,w.2.2<=2
 ga:∀p∈G,p.1<=3
 ta:∀p∈T,p.1<=3
 wm:(W.length:Int)<=mo
def y0{ns:List Int}{a mo:Int}(hl:ns.length<=63)(hmo:3 < mo)(c:dr ns (a+64) 4=0):∃G T W,cE [cF ns,.int a,.int mo]=some (az G T W)/\Wd G T W/\Sl mo G T W:=by
 have e64:=AW (ns:=ns) (a+64) 4 hl (by decide);have e65:=eV (ns:=ns) (a+65) 2 hl (by decide);refine⟨_,_,_,?_,E9 (c:=1+dr ns (a+65) 2) (by lia) (by lia),⟨by simp,by simp,by decide,λp hp=>?_,λp hp=>?_,by simp;lia⟩⟩;rotate_left
 ·simp?[zQ,yF,xW] at hp;rcases hp with rfl|rfl<;>(simp only;lia)
 ·simp?[zQ,yF,xW] at hp;rcases hp with rfl|rfl<;>(simp only;lia)
 have s1:Dl.aI 3 [0,1] (f2 aL (fC (.int 1)) (aj 3 av (aa (ae 0) (aa (f2 aL (ae 1) (fC (.int 65))) (aa (fC (.int 2)) ag))))) [.val (cF ns),.val (.int a),.val (.int mo),.Ux,.Ux,.Ux,.Ux,.Ux,.Ux,.Ux,.Ux,.Ux]=some (.nx [.val (cF ns),.val (.int a),.val (.int mo),.val (.int (1+dr ns (a+65) 2)),.Ux,.Ux,.Ux,.Ux,.Ux,.Ux,.Ux,.Ux]) :=
  bI (d:=.int (1+dr ns (a+65) 2)) (by simp! [e65.1]) rfl
 generalize 1+dr ns (a+65) 2=x at *;have s2:Dl.aI 4 [3] (aJ (aa (aJ (aa (ae 3) (aa (aJ (aa (fC (.int 1)) (aa (fC (.int 0)) ag))) ag))) (aa (aJ (aa (ae 3) (aa (aJ (aa (fC (.int 0)) (aa (fC (.int 1)) ag))) ag))) ag))) [.val (cF ns),.val (.int a),.val (.int mo),.val (.int x),.Ux,.Ux,.Ux,.Ux,.Ux,.Ux,.Ux,.Ux]=some (.nx [.val (cF ns),.val (.int a),.val (.int mo),.val (.int x),.val (.tuple [aW (x,[1,0]),aW (x,[0,1])]),.Ux,.Ux,.Ux,.Ux,.Ux,.Ux,.Ux]) :=
  cx (d:=.tuple [aW (x,[1,0]),aW (x,[0,1])]) (by simp! [CD];rfl) rfl rfl rfl
 simp! [cE,gu,dA,e64,c,bU,jS,ir,show decide ((3:Int) < mo)=true from yA hmo,s1,s2,CD,Cn,show ∀a b c d:D,small [a,b,c,d]=some [a,b,c,d] fromλ_ _ _ _=>rfl];rfl
def y9{ns:List Int}{a mo:Int}(hl:ns.length<=63)(hm0:0<=mo)(c:¬ (3 < mo/\dr ns (a+64) 4=0)):∃G T W,cE [cF ns,.int a,.int mo]=some (az G T W)/\Wd G T W/\Sl mo G T W:=by
 have e64:=AW (ns:=ns) (a+64) 4 hl (by decide);have em:=eV (ns:=ns) a 3 hl (by decide);have es:=eV (ns:=ns) (a+1) 3 hl (by decide);let⟨m,hm⟩:=vT (show 0<=1+dr ns a 3 by lia);let⟨s,hs⟩:=vT (show 0<=1+dr ns (a+1) 3 by lia);have m1:1<=m/\m<=3:=by lia
 have s1:1<=s/\s<=3:=by lia
 have VN:(s:Int)=1\/(s:Int)=2\/(s:Int)=3:=by lia
 have VP:(m:Int)=1\/(m:Int)=2\/(m:Int)=3:=by lia
 have t5:Dl.aI 5 [0,1] (f2 aL (fC (.int 1)) (aj 3 av (aa (ae 0) (aa (ae 1) (aa (fC (.int 3)) ag))))) [.val (cF ns),.val (.int a),.val (.int mo),.Ux,.Ux,.Ux,.Ux,.Ux,.Ux,.Ux,.Ux,.Ux]=some (.nx [.val (cF ns),.val (.int a),.val (.int mo),.Ux,.Ux,.val (.int (m:Nat)),.Ux,.Ux,.Ux,.Ux,.Ux,.Ux]) :=
  bI (d:=.int (m:Nat)) (by simp! [em.1,hm]) rfl
 have t6:Dl.aI 6 [0,1] (f2 aL (fC (.int 1)) (aj 3 av (aa (ae 0) (aa (f2 aL (ae 1) (fC (.int 1))) (aa (fC (.int 3)) ag))))) [.val (cF ns),.val (.int a),.val (.int mo),.Ux,.Ux,.val (.int (m:Nat)),.Ux,.Ux,.Ux,.Ux,.Ux,.Ux]=some (.nx (st ns a mo m s .Ux .Ux .Ux .Ux .Ux .Ux)) :=
  bI (d:=.int (s:Nat)) (by simp! [es.1,hs]) rfl
 have t7:aQ 7 [] (eX ag) (st ns a mo m s .Ux .Ux .Ux .Ux .Ux .Ux)=some (.nx (st ns a mo m s .Ux (.own []) .Ux .Ux .Ux .Ux)):=by
  simp?[aQ,n0,eX,ag,zA,ja,zB,yX,yW]
 have hms:m * s<=9:=wM m1.2 s1.2;have aix:1<=m * s:=wM m1.1 s1.1;let⟨W,t8,e,h8,I⟩:=GY (ns:=ns) (a:=a) (m:=m) (s:=s) hl VN (m * s) 0 (W:=[]) (x8:=.Ux) (by lia) (mo:=mo) ⟨λw hw=>(by cases hw),List.Pairwise.nil,by decide,hm0⟩;rw[jF] at I;obtain⟨d8,rfl⟩:∃d,t8=.val d:=h8.elim (λz=>by lia) id;have agt:W.length<=9:=by have:=I.len;lia
 have tf:=Pp m1.2 s1.2 hms e;unfold lB at tf;have YH:W.length<=20:=by lia
 have wr:∀w∈W,(0<=w.1/\w.1 < m)/\(0<=w.2.1/\w.2.1 < s)/\1<=w.2.2/\w.2.2<=9:=λw hw=>by
  let⟨j,j0,jk,ea,b,c1,c2⟩:=I.mem w hw;have:=PD VN VP j0 (by rw[<- Int.natCast_mul];exact jk);rw[ea,b];exact⟨this.1,this.2,c1,by lia⟩
 have afw:∀r∈ml W m,r.length<=1000:=λr hr=>by
  let⟨i,_,rfl⟩:=List.mem_map.mp hr;rw[Br,zD];exact yD (xR _ _) (by lia)
 have afx:∀r∈kg W s,r.length<=1000:=λr hr=>by
  let⟨i,_,rfl⟩:=List.mem_map.mp hr;rw[ofT,zD];exact yD (xR _ _) (by lia)
 let⟨UK,om,pm⟩:=AZ (ns:=ns) (a:=a+24) (rows:=ml W m) hl afw (by rw[ml,zD,zR];lia);let⟨UZ,oy,py⟩:=AZ (ns:=ns) (a:=a+40) (rows:=kg W s) hl afx (by rw[kg,zD,zR];lia);have lm:UK.length<=1000:=by rw[eW pm,ml,zD,zR];lia
 have ly:UZ.length<=1000:=by rw[eW py,kg,zD,zR];lia
 have t9:Dl.aI 9 [0,1,5,7] (aj 3 cf (aa (ae 0) (aa (f2 aL (ae 1) (fC (.int 24))) (aa (bS (aq 1 [7] (bh (aa (ae 5) ag)) (fG 0) (λ_=>some true) (bS (aq 1 [0] (aO (ae 1)) (fG 0) (fB (f2 bC (f2 ay (ae 0) (fC (.int 0))) (ae 1))) (f2 ay (ae 0) (fC (.int 1))))))) ag)))) (st ns a mo m s .Ux (.own (W.map ao)) (.val d8) .Ux .Ux .Ux)=some (.nx (st ns a mo m s .Ux (.val (.list (W.map ao))) (.val d8) (.val (.list (UK.map af))) .Ux .Ux)):=by
  refine (cx (ρ':=st ns a mo m s .Ux (.val (.list (W.map ao))) (.val d8) .Ux .Ux .Ux) (d:=.list (UK.map af)) ?_ rfl rfl ?_).trans rfl
  ·have q:=Lw (ρ:=aG (st ns a mo m s .Ux (.own (W.map ao)) (.val d8) .Ux .Ux .Ux)) (i5:=5) (i7:=7) YH (show m<=1000 by lia) rfl rfl;simp?[aj,aa,ag,bS,q,zB,zA];simp! [om]
  ·simp?[st,bJ,aG,zI,yV];rfl
 have t10:Dl.aI 10 [0,1,6,7] (aj 3 cf (aa (ae 0) (aa (f2 aL (ae 1) (fC (.int 40))) (aa (bS (aq 1 [7] (bh (aa (ae 6) ag)) (fG 0) (λ_=>some true) (bS (aq 1 [0] (aO (ae 1)) (fG 0) (fB (f2 bC (f2 ay (ae 0) (fC (.int 1))) (ae 1))) (f2 ay (ae 0) (fC (.int 0))))))) ag)))) (st ns a mo m s .Ux (.val (.list (W.map ao))) (.val d8) (.val (.list (UK.map af))) .Ux .Ux)=some (.nx (st ns a mo m s .Ux (.val (.list (W.map ao))) (.val d8) (.val (.list (UK.map af))) (.val (.list (UZ.map af))) .Ux)):=by
  refine (cx (ρ':=st ns a mo m s .Ux (.val (.list (W.map ao))) (.val d8) (.val (.list (UK.map af))) .Ux .Ux) (d:=.list (UZ.map af)) ?_ rfl ?_ ?_).trans rfl
  ·have q:=LN (ρ:=aG (st ns a mo m s .Ux (.val (.list (W.map ao))) (.val d8) (.val (.list (UK.map af))) .Ux .Ux)) (i5:=6) (i7:=7) YH (show s<=1000 by lia) rfl rfl;simp?[aj,aa,ag,bS,q,zB,zA];simp! [oy]
  ·rfl
  ·simp?[st,bJ,aG,zI,yV];rfl
 have t11:Dl.aI 11 [0,1,8,9] (bD bp (aa (bS (aq 2 [0,1] (bf (aa (ae 9) ag)) (gh 0 1) (λ_=>some true) (MY 56))) ag)) (st ns a mo m s .Ux (.val (.list (W.map ao))) (.val d8) (.val (.list (UK.map af))) (.val (.list (UZ.map af))) .Ux)=some (.nx (st ns a mo m s .Ux (.val (.list (W.map ao))) (.val d8) (.val (.list (UK.map af))) (.val (.list (UZ.map af))) (.val (.tuple ((k6 (λk=>dr ns (a+56+((k:Nat):Int)) 4) 0 UK).map aW))))):=by
  refine (cx (ρ':=st ns a mo m s .Ux (.val (.list (W.map ao))) (.val d8) (.val (.list (UK.map af))) (.val (.list (UZ.map af))) .Ux) (Ah hl lm rfl rfl rfl) rfl rfl ?_).trans rfl;simp?[st,bJ,aG,zI,yV];rfl
 have t4:∀G:D,Dl.aI 4 [0,1,8,10] (bD bp (aa (bS (aq 2 [0,1] (bf (aa (ae 10) ag)) (gh 0 1) (λ_=>some true) (MY 60))) ag)) (st ns a mo m s .Ux (.val (.list (W.map ao))) (.val d8) (.val (.list (UK.map af))) (.val (.list (UZ.map af))) (.val G))=some (.nx (st ns a mo m s (.val (.tuple ((k6 (λk=>dr ns (a+60+((k:Nat):Int)) 4) 0 UZ).map aW))) (.val (.list (W.map ao))) (.val d8) (.val (.list (UK.map af))) (.val (.list (UZ.map af))) (.val G))):=λG=>by
  refine (cx (ρ':=st ns a mo m s .Ux (.val (.list (W.map ao))) (.val d8) (.val (.list (UK.map af))) (.val (.list (UZ.map af))) (.val G)) (Ah hl ly rfl rfl rfl) rfl rfl ?_).trans rfl;simp?[st,bJ,aG,zI,yV];rfl
 refine⟨_,_,W,?_,KW (f:=λk=>dr ns (a+56+((k:Nat):Int)) 4) (g:=λk=>dr ns (a+60+((k:Nat):Int)) 4) m1.1 (by lia) s1.1 (by lia) (λk=>?_) (λk=>?_) pm py wr I.ris (by lia),⟨by rw[iZ,eW pm,ml,zD,zR];lia,by rw[iZ,eW py,kg,zD,zR];lia,λw hw=>(by let⟨j,_,_,_,_,_,z⟩:=I.mem w hw;exact z),λp hp=>?_,λp hp=>?_,I.lem⟩⟩
 ·unfold MY at t11 t4;have tA:∀g,fX (eE (fB (f2 Bu (ae 2) (fC (.int 3)))) (fB (f2 bC (aj 3 av (aa (ae 0) (aa (f2 aL (ae 1) (fC (.int 64))) (aa (fC (.int 4)) ag)))) (fC (.int 0))))) g fv [.val (cF ns),.val (.int a),.val (.int mo),.Ux,.Ux,.Ux,.Ux,.Ux,.Ux,.Ux,.Ux,.Ux]=some (.nx [.val (cF ns),.val (.int a),.val (.int mo),.Ux,.Ux,.Ux,.Ux,.Ux,.Ux,.Ux,.Ux,.Ux]):=λg=>by
   by_cases c1:3 < mo
   ·have c2:¬ dr ns (a+64) 4=0:=λz=>c ⟨c1,z⟩;simp! [dA,e64,c1,c2,bU,Zk,jS,ir,yP]
   ·simp! [dA,c1,Zk,ir,yP]
  refine aE ?_;show gu [.val (cF ns),.val (.int a),.val (.int mo),.Ux,.Ux,.Ux,.Ux,.Ux,.Ux,.Ux,.Ux,.Ux]=_;unfold gu;rw[ak (tA _),ak t5,ak t6,ak t7,ak tf,ak t9,ak t10,ak t11,ak (t4 _)];simp! [Cn,az]
 ·have q:=eV (ns:=ns) (a+56+((k:Nat):Int)) 4 hl (by decide);exact⟨q.2.1,by lia⟩
 ·have q:=eV (ns:=ns) (a+60+((k:Nat):Int)) 4 hl (by decide);exact⟨q.2.1,by lia⟩
 ·let⟨i,hi⟩:=List.getElem?_of_mem hp;let⟨r,_,rfl⟩:=iO _ hi;have q:=eV (ns:=ns) (a+56+((0+i:Nat):Int)) 4 hl (by decide);simp only;lia
 ·let⟨i,hi⟩:=List.getElem?_of_mem hp;let⟨r,_,rfl⟩:=iO _ hi;have q:=eV (ns:=ns) (a+60+((0+i:Nat):Int)) 4 hl (by decide);simp only;lia
def pS{ns:List Int}{a mo:Int}(hl:ns.length<=63)(hm0:0<=mo):∃G T W,cE [cF ns,.int a,.int mo]=some (az G T W)/\Wd G T W/\Sl mo G T W:=by
 by_cases c:3 < mo/\dr ns (a+64) 4=0
 ·exact y0 hl c.1 c.2
 ·exact y9 hl hm0 c
def MX(h:uy W):(W.map λw=>[w.1,w.2.1]).Pairwise λa b=>Dl.lexLt a b=true:=List.pairwise_map.mpr (h.imp λVz=>Tb Vz)
def Ja(h:uy W):(W.map λw=>[w.1,w.2.1]).Nodup:=(MX h).imp λ{a b} Vz e=>by
 rw[e,dO] at Vz;cases Vz
def Jb(h:uy W)(hn:m.Nodup)(hm:∀r,r∈W.map (λw=>[w.1,w.2.1])↔r∈m):W.map (λw=>[w.1,w.2.1])=tT m :=
 IA ((List.perm_ext_iff_of_nodup (Ja h) hn).mpr hm) ((MX h).imp λVz=>QO Vz)
def Wd.wok(h:Wd G T W):RJ (az G T W)=true:=by
 have hP:(W.map ao).map gc=W.map λw=>[w.1,w.2.1]:=by rw[zM];rfl
 have hpg:∀i j:Int,[i,j]∈W.map (λw=>[w.1,w.2.1])↔[i,j]∈nr 0 (G.map aW):=λi j=>by
  rw[rC];constructor
  ·intro hm;let⟨w,hw,e⟩:=List.mem_map.mp hm;simp?[vE,and_true] at e;have hr:=(h.wr w hw).1;obtain⟨p,hp⟩:∃p,G[i.toNat]?=some p:=⟨G[i.toNat]'(by lia),zK (by lia)⟩
   refine⟨i.toNat,aW p,by rw[zO,hp];rfl,by lia,?_⟩;rw[gG,(h.gl _ p hp).mem_iff,xx,show ((i.toNat:Nat):Int)=i by lia];exact hm
  ·rintro⟨m,p,hp,rfl,hj⟩;rw[zO] at hp;let⟨p',hp',rfl⟩:=Option.map_eq_some_iff.mp hp;rw[gG,(h.gl m p' hp').mem_iff,xx] at hj
   rwa [jF]
 have hpt:∀i j:Int,[i,j]∈W.map (λw=>[w.1,w.2.1])↔[j,i]∈nr 0 (T.map aW):=λi j=>by
  rw[rC];constructor
  ·intro hm;let⟨w,hw,e⟩:=List.mem_map.mp hm;simp?[vE,and_true] at e;have hr:=(h.wr w hw).2.1;obtain⟨p,hp⟩:∃p,T[j.toNat]?=some p:=⟨T[j.toNat]'(by lia),zK (by lia)⟩
   refine⟨j.toNat,aW p,by rw[zO,hp];rfl,by lia,?_⟩;rw[gG,(h.tl _ p hp).mem_iff,yh,show ((j.toNat:Nat):Int)=j by lia];exact hm
  ·rintro⟨m,p,hp,rfl,hj⟩;rw[zO] at hp;let⟨p',hp',rfl⟩:=Option.map_eq_some_iff.mp hp;rw[gG,(h.tl m p' hp').mem_iff,yh] at hj
   rwa [jF]
 have two:∀ {r:List Int},r∈W.map (λw=>[w.1,w.2.1])->∃i j,r=[i,j]:=λhr=>by
  let⟨w,_,rfl⟩:=List.mem_map.mp hr;exact⟨_,_,rfl⟩
 have ng:∀ (L:List Pl),(∀p∈L,p.2.Nodup)->(nr 0 (L.map aW)).Nodup:=λL hL=>uG λp hp=>by
  let⟨p',hp',rfl⟩:=List.mem_map.mp hp;rw[gG];exact hL p' hp'
 have e1:W.map (λw=>[w.1,w.2.1])=tT (nr 0 (G.map aW)):=Jb h.wp (ng G λp hp=>by
   let⟨i,hi,e⟩:=qT hp;exact (h.gl i p (by rw[zK hi,e])).nodup_iff.mpr (oK h.wp i)) λr=>⟨λhr=>by
   let⟨i,j,rfl⟩:=two hr;exact (hpg i j).mp hr,λhr=>by
   let⟨i,j,rfl⟩:=l7 r hr;exact (hpg i j).mpr hr⟩
 have e2:W.map (λw=>[w.1,w.2.1])=tT ((nr 0 (T.map aW)).map List.reverse):=Jb h.wp (by
   exact List.pairwise_map.mpr (List.Pairwise.imp (λ{a b} UN e=>UN (List.reverse_inj.mp e)) (ng T λp hp=>by
    let⟨i,hi,e⟩:=qT hp;exact (h.tl i p (by rw[zK hi,e])).nodup_iff.mpr (pA h.wp i)))) λr=>⟨λhr=>by
   let⟨i,j,rfl⟩:=two hr;exact List.mem_map.mpr ⟨[j,i],(hpt i j).mp hr,rfl⟩,λhr=>by
   let⟨r',Vr,rfl⟩:=List.mem_map.mp hr;let⟨i,j,rfl⟩:=l7 r' Vr;exact (hpt j i).mpr Vr⟩
 have hw:(W.map ao).all (kf G.length T.length)=true:=by
  rw[xI];intro x hx;let⟨w,hw,rfl⟩:=List.mem_map.mp hx;exact Fe (h.wr w hw)
 have hs:∀ {L:List Pl},1<=L.length->L.length<=4->oR (.tuple (L.map aW))=true:=λ{L} a b=>by
  simp?[oR,long,zD,zF,zJ];lia
 have h3:long 3 3 (az G T W)=true:=rfl;have hg:=h.gok;have ht:=h.tok;unfold RJ BE;rw[h3,jN];simp?[az,cY,wX,wY,hP,<- e1,<- e2,jS,Bool.and_true,ka,hs h.g1 h.g4,hs h.t1 h.t4,zD,hg,ht,hw,M5]
def sI(b:Bool):Int:=if b then 1 else 0
def aP(b:Bool)(w:Wy):Int:=if b then w.2.1 else w.1
def bE(b:Bool)(w:Wy):Int:=aP (!b) w
def aR(b:Bool)(G T:List Pl):List Pl:=if b then T else G
def gp(b:Bool)(G T:List Pl)(W:List Wy):ay (az G T W) (.int (sI b))=some (.tuple ((aR b G T).map aW)):=by cases b<;>rfl
def jm(G T:List Pl)(W:List Wy):ay (az G T W) (.int 2)=some (.tuple (W.map ao)):=rfl
def nY(b:Bool)(w:Wy):ay (ao w) (.int (sI b))=some (.int (aP b w)):=by cases b<;>rfl
def Ms(b:Bool)(w:Wy):ay (ao w) (.int (1 - sI b))=some (.int (bE b w)):=by cases b<;>rfl
def rm(w:Wy):ay (ao w) (.int 2)=some (.int w.2.2):=rfl
def Kx(p:Pl):ay (aW p) (.int 0)=some (.int p.1):=rfl
def Ll(p:Pl):ay (aW p) (.int 1)=some (af p.2):=rfl
def sN(h:ds[i]?=some d):ay (.tuple ds) (.int ((i:Nat):Int))=some d:=by
 show qa ds (i:Nat)=_;exact yr h
def NX(h:ds[i]?=some d):ay (.list ds) (.int ((i:Nat):Int))=some d:=by
 show qa ds (i:Nat)=_;exact yr h
def mT{l:List α}(h:l[i]?=some x):ay (.tuple (l.map f)) (.int ((i:Nat):Int))=some (f x):=sN (by rw[zO,h];rfl)
def qk{l:List α}(h:l[i]?=some x):ay (.list (l.map f)) (.int ((i:Nat):Int))=some (f x):=NX (by rw[zO,h];rfl)
def PF(b:Bool)(W:List Wy)(p:Int):List Int:=(W.filter λw=>decide (aP b w=p)).map (bE b)
def Wd.lik{G T:List Pl}{W:List Wy}(h:Wd G T W){b:Bool}{i:Nat}{p:Pl}(e:(aR b G T)[i]?=some p):p.2.Perm (PF b W i):=by
 cases b
 ·exact h.gl i p e
 ·exact h.tl i p e
def Wd.nod(h:Wd G T W)(b:Bool)(i:Int):(PF b W i).Nodup:=by
 cases b
 ·exact oK h.wp i
 ·exact pA h.wp i
def sT{tt:Dl.Env->Option Bool}{te:Dl.Env->Option D}{r:List (Option D)}{p:Nat->D->Bool}{h:Nat->D->D}:∀ {ds:List D}{k:Nat},
  (∀i d,ds[i]?=some d->tt (some (.int ((k+i:Nat):Int))::some d::r)=some (p (k+i) d)/\(p (k+i) d=true->te (some (.int ((k+i:Nat):Int))::some d::r)=some (h (k+i) d))) ->
  cD (gh 0 1) tt te (none::none::r) (bH k ds)=some (((ds.zipIdx k).filter λq=>p q.2 q.1).map λq=>h q.2 q.1)
 | [],k,_=>rfl
 | d::ds,k,hh=>by
  let⟨h1,h2⟩:=hh 0 d rfl;have ih:=sT (ds:=ds) (k:=k+1) λi x hx=>by
   have:=hh (i+1) x (by simpa using hx);rw[show k+1+i=k+(i+1) by lia];exact this
  have hg:gh 0 1 (none::none::r) (.tuple [.int ((k:Nat):Int),d])=some (some (.int ((k:Nat):Int))::some d::r):=by
   simp?[gh,isFree,xS,yZ,qJ,Ze,jR,xJ,yW,yX]
  rw[bH,cD,hg,List.zipIdx_cons];simp?[Nat.add_zero] at h1 h2;simp?[zA,h1];cases hp:p k d with
  | true=>simp[h2 hp,ih,hp]
  | false=>simp[ih,hp]
def FX{cs:List Nat}{fi:Dl.Env->Option (List D)}{tt:Dl.Env->Option Bool}{te:Dl.Env->Option D}{ρ:Dl.Env}{ds:List D}{p:Nat->D->Bool}{h:Nat->D->D}(Vx:fi ρ=some (bH 0 ds))(hl:ds.length<=1000)
  (hh:∀i d,ds[i]?=some d->tt (some (.int ((i:Nat):Int))::some d::cs.map λj=>(ρ[j]?).getD none)=some (p i d)/\(p i d=true->te (some (.int ((i:Nat):Int))::some d::cs.map λj=>(ρ[j]?).getD none)=some (h i d))) :
  aq 2 cs fi (gh 0 1) tt te ρ=some ((ds.zipIdx.filter λq=>p q.2 q.1).map λq=>h q.2 q.1):=by
 have:=sT (tt:=tt) (te:=te) (r:=cs.map λj=>(ρ[j]?).getD none) (p:=p) (h:=h) (ds:=ds) (k:=0) (by simpa using hh);simp?[aq,Vx,zA,eL,List.replicate,xH,xQ,this];refine bw ?_;rw[zD];refine yD (xR _ _) ?_;rw[List.length_zipIdx];lia
def iF(f:α->Int):∀ {l m:List α},l.Perm m->(l.Pairwise λa b=>f a<=f b)->(m.Pairwise λa b=>f a < f b)->l=m
 | l,[],hp,_,_=>hp.eq_nil
 | [],x::m,hp,_,_=>absurd hp.symm.eq_nil (by simp)
 | y::l,x::m,hp,h1,h2=>by
  rw[List.pairwise_cons] at h1 h2;have e:y=x:=by
   have hx:x∈y::l:=hp.mem_iff.mpr zE;rcases List.mem_cons.mp hx with z|hx
   ·exact z.symm
   ·have hy:y∈x::m:=hp.mem_iff.mp zE;rcases List.mem_cons.mp hy with z|hy
    ·exact z
    ·have:=h1.1 x hx;have:=h2.1 y hy;lia
  subst e;rw[iF f ((List.perm_cons y).mp hp) h1.2 h2.2]
def sU(z:Nat->Int)(l:List α)(d:α)(f:α->Int)(h:∀i,i < l.length->z i=f (l.getD i d)):(rq z l d).Pairwise λa b=>f a<=f b:=by
 unfold rq;split
 ·rename_i hl
  match l,hl with
  | [],_=>exact List.Pairwise.nil
  | [a],_=>exact vS _ _
 ·rename_i hl;let⟨hp,hs⟩:=SP.ie (z:=z) (n:=l.length) (by lia);rw[jG] at hs ⊢;refine hs.imp_of_mem λ{i j} hi hj UU=>?_;have U5:i < l.length:=by have:=hp.mem_iff.mp hi;simpa using this
  have Wt:j < l.length:=by have:=hp.mem_iff.mp hj;simpa using this
  rw[<- h i U5,<- h j Wt];exact UU
def aC(W:List Wy)(i:Nat):Wy:=W.getD i (0,0,0)
def j1(hk:k < W.length):W[k]=aC W k:=by simp[aC,hk]
def n5(hk:k < W.length):W[k]?=some (aC W k):=by rw[zK hk,j1 hk]
def own(b:Bool)(W:List Wy)(p:Int):List Nat:=(List.range W.length).filter λi=>decide (aP b (aC W i)=p)
def oh(b:Bool)(W:List Wy)(p o:Int):Nat:=W.findIdx λw=>decide (aP b w=p)&&decide (bE b w=o)
def eI(b:Bool)(W:List Wy)(p:Int)(L:List Int):List Nat:=L.map (oh b W p)
def bY:i∈own b W p↔i < W.length/\aP b (aC W i)=p:=by simp[own]
def map_range(d:α)(f:α->β)(l:List α):(List.range l.length).map (λi=>f (l.getD i d))=l.map f:=by
 apply jJ
 ·simp
 ·intro i h1 h2;have:i < l.length:=by simpa using h2
  simp[this]
def yt(d:α)(q:α->Bool):∀ (l:List α),((List.range l.length).filter λi=>q (l.getD i d)).map (λi=>l.getD i d)=l.filter q:=by
 intro l;have e:l=(List.range l.length).map λi=>l.getD i d:=by
  have:=map_range d (λx=>x) l;simp at this;simpa using this.symm
 conv=>rhs;rw[e]
 rw[kL];rfl
def lT(b:Bool)(W:List Wy)(p:Int):(own b W p).map (λi=>bE b (aC W i))=PF b W p:=by
 unfold own PF aC;rw[<- yt (0,0,0) (λw=>decide (aP b w=p)) W,zM];rfl
def v5(h:uy W)(hi:i < W.length)(hj:j < W.length)(h1:(aC W i).1=(aC W j).1)(h2:(aC W i).2.1=(aC W j).2.1):i=j:=by
 have e:∀k,k < W.length->W[k]?=some (aC W k):=λk hk=>by simp[aC,hk]
 rcases Nat.lt_trichotomy i j with z|z|z
 ·have:=List.pairwise_iff_getElem.mp h i j hi hj z;have a:=e i hi;have b:=e j hj;rw[zK hi] at a;rw[zK hj] at b;rw[xE a,xE b] at this;rcases this with z|z<;>lia
 ·exact z
 ·have:=List.pairwise_iff_getElem.mp h j i hj hi z;have a:=e i hi;have b:=e j hj;rw[zK hi] at a;rw[zK hj] at b;rw[xE a,xE b] at this;rcases this with z|z<;>lia
def Be(h:uy W)(hi:i < W.length)(hj:j < W.length)(h1:aP b (aC W i)=aP b (aC W j))(h2:bE b (aC W i)=bE b (aC W j)):i=j:=by
 cases b
 ·exact v5 h hi hj h1 h2
 ·exact v5 h hi hj h2 h1
def vv(h:uy W)(hi:i∈own b W p):oh b W p (bE b (aC W i))=i:=by
 let⟨hl,he⟩:=bY.mp hi;have hw:W[i]=aC W i:=by simp[aC,hl]
 unfold oh;have UQ:W.findIdx (λw=>decide (aP b w=p)&&decide (bE b w=bE b (aC W i))) < W.length:=by
  apply kX;exact⟨W[i],qC _,by rw[hw];simp[he]⟩
 have hq:=wW (w:=UQ);rw[zF,zJ,zJ] at hq;rw[j1 UQ] at hq;exact Be h UQ hl (by rw[hq.1,he]) hq.2
def dh{G T:List Pl}{W:List Wy}(h:Wd G T W){b:Bool}{i:Nat}(e:(aR b G T)[i]?=some p):(eI b W i p.2).Perm (own b W i):=by
 have h1:=(h.lik e).map (oh b W i);rw[<- lT b W i,zM] at h1;have e2:(own b W i).map (oh b W i ∘ λj=>bE b (aC W j))=own b W i:=by
  conv=>rhs;rw[<- List.map_id (own b W i)]
  exact yI λj hj=>vv h.wp hj
 rw[e2] at h1;exact h1
def hZ{G T:List Pl}{W:List Wy}(h:Wd G T W){b:Bool}{i:Nat}{p:Pl}(e:(aR b G T)[i]?=some p){o:Int}(ho:o∈p.2):oh b W i o < W.length/\aP b (aC W (oh b W i o))=i/\bE b (aC W (oh b W i o))=o:=by
 have hm:=(h.lik e).mem_iff.mp ho;rw[<- lT b W i] at hm;let⟨j,hj,rfl⟩:=List.mem_map.mp hm;rw[vv h.wp hj];let⟨h1,h2⟩:=bY.mp hj;exact⟨h1,h2,rfl⟩
def kD(b:Bool)(W:List Wy)(L:List Int)(d:D):Int:=(L.findIdx λo=>decide (o=bE b (aC W (jl d).toNat)):Nat)
def l9:∀ {L:List Int}{x:Int},x∈L->Ag x L=some (L.findIdx λo=>decide (o=x))
 | [],x,h=>by cases h
 | o::L,x,h=>by
  unfold Ag;by_cases e:o=x
  ·simp[e,vL]
  ·rw[yO e];have hx:x∈L:=(List.mem_cons.mp h).resolve_left λz=>e z.symm;rw[l9 hx];simp[vL,e]
def J2{G T:List Pl}{W:List Wy}(h:Wd G T W){b:Bool}{i:Nat}{p:Pl}(e:(aR b G T)[i]?=some p)(z:Nat->Int)(hz:∀j,j < (own b W i).length->z j=kD b W p.2 (((own b W i).map λn=>PyData.int ((n:Nat):Int)).getD j .none)) :
  rq z ((own b W i).map λn=>PyData.int ((n:Nat):Int)) .none=(eI b W i p.2).map λn=>PyData.int ((n:Nat):Int):=by
 refine iF (kD b W p.2) ((gJ _ _ _).trans ((dh h e).symm.map _)) (sU z _ _ _ λj hj=>hz j (by simpa using hj)) ?_;have hn:p.2.Nodup:=(h.lik e).nodup_iff.mpr (h.nod b i);unfold eI;rw[zM,jG];have key:∀k (hk:k < p.2.length),kD b W p.2 (PyData.int ((oh b W i p.2[k]:Nat):Int))=(k:Nat):=λk hk=>by
  let⟨_,_,e3⟩:=hZ h e (qC hk);unfold kD;simp?[jl,yG,e3]
  congr 1
  rw[List.findIdx_eq (by exact hk)];refine⟨by simp,λj hj=>?_⟩;have:=List.pairwise_iff_getElem.mp hn j k (by lia) hk hj;simpa using this
 refine List.pairwise_iff_getElem.mpr λj k hj hk Xf=>?_;show kD b W p.2 (PyData.int ((oh b W i p.2[j]:Nat):Int)) < kD b W p.2 (PyData.int ((oh b W i p.2[k]:Nat):Int));rw[key j hj,key k hk];lia
abbrev nD(n:Nat):D:=.int ((n:Nat):Int)
def oU:∀ {ds:List D},(∀d∈ds,te (ρ.set 0 (some d))=some (h d))->ji te ρ ds=some (ds.map h)
 | [],_=>rfl
 | d::ds,hh=>by
  unfold ji;rw[hh d zE,zA,oU λx hx=>hh x (zC _ hx)];rfl
def w4(b:Bool)(W:List Wy)(p:Int):(own b W p).length<=W.length:=by
 unfold own;refine yD (xR _ _) ?_;rw[zR];exact yN _
def Cz(b:Bool)(W:List Wy)(p:Int):(((W.map ao).zipIdx.filter λq=>decide (aP b (aC W q.2)=p)).map λq=>nD q.2)=(own b W p).map nD:=by
 have e:(W.map ao).zipIdx=(List.range W.length).map λi=>(ao (aC W i),i):=by
  apply jJ
  ·simp
  ·intro i h1 h2;have:i < W.length:=by simpa using h2
   simp[j1 this]
 rw[e,kL,zM];rfl
def uT(h:Wd G T W)(e:(aR b G T)[i]?=some p):jf [az G T W,.int (sI b),nD i]=some (.list ((eI b W i p.2).map nD)):=by
 have hw:=h.wl;have ep:ay (.tuple ((aR b G T).map aW)) (nD i)=some (aW p):=mT e;have hl:=w4 b W i;have t3:Dl.aI 3 [0] (f2 ay (ae 0) (fC (.int 2))) [.val (az G T W),.val (.int (sI b)),.val (nD i),.Ux,.Ux,.Ux]=some (.nx [.val (az G T W),.val (.int (sI b)),.val (nD i),.val (.tuple (W.map ao)),.Ux,.Ux]) :=
  cx (d:=.tuple (W.map ao)) rfl rfl rfl rfl
 have t4:Dl.aI 4 [0,1,2] (f2 ay (f2 ay (f2 ay (ae 0) (ae 1)) (ae 2)) (fC (.int 1))) [.val (az G T W),.val (.int (sI b)),.val (nD i),.val (.tuple (W.map ao)),.Ux,.Ux]=some (.nx [.val (az G T W),.val (.int (sI b)),.val (nD i),.val (.tuple (W.map ao)),.val (af p.2),.Ux]):=by
  refine cx (d:=af p.2) ?_ rfl rfl rfl;rw[i8 (a:=aW p) (b:=.int 1) ?_ rfl,Ll];rw[i8 (a:=.tuple ((aR b G T).map aW)) (b:=nD i) ?_ rfl,ep];rw[i8 (a:=az G T W) (b:=.int (sI b)) rfl rfl,gp]
 have c5:aq 2 [1,2] (bf (aa (ae 3) ag)) (gh 0 1) (fB (f2 bC (f2 ay (ae 1) (ae 2)) (ae 3))) (ae 0) [some (az G T W),some (.int (sI b)),some (nD i),some (.tuple (W.map ao)),some (af p.2),none]=some ((own b W i).map nD):=by
  rw[FX (ds:=W.map ao) (p:=λj _=>decide (aP b (aC W j)=i)) (h:=λj _=>nD j) rfl (by rw[zD];lia) λj d hd=>?_,Cz];rw[zO] at hd;let⟨w,hw',rfl⟩:=Dl.ah hd;have hj:j < W.length:=(List.getElem?_eq_some_iff.mp hw').1;rw[n5 hj] at hw';cases hw';refine⟨?_,λ_=>rfl⟩;show fB (f2 bC (f2 ay (ae 1) (ae 2)) (ae 3)) [some (nD j),some (ao (aC W j)),some (.int (sI b)),some (nD i)]=_;simp?[fB];rw[i8 (a:=.int (aP b (aC W j))) (b:=nD i) (by rw[i8 (a:=ao (aC W j)) (b:=.int (sI b)) rfl rfl,nY]) rfl,bU];rfl
 have t5:aQ 5 [1,2,3] (aq 2 [1,2] (bf (aa (ae 3) ag)) (gh 0 1) (fB (f2 bC (f2 ay (ae 1) (ae 2)) (ae 3))) (ae 0)) [.val (az G T W),.val (.int (sI b)),.val (nD i),.val (.tuple (W.map ao)),.val (af p.2),.Ux]=some (.nx [.val (az G T W),.val (.int (sI b)),.val (nD i),.val (.tuple (W.map ao)),.val (af p.2),.own ((own b W i).map nD)]):=by
  have hh:hand [1,2,3] 0 [Slot.val (az G T W),.val (.int (sI b)),.val (nD i),.val (.tuple (W.map ao)),.val (af p.2),.Ux]=[Slot.val (az G T W),.val (.int (sI b)),.val (nD i),.val (.tuple (W.map ao)),.val (af p.2),.Ux]:=rfl;simp?[aQ,hh,bJ,zI,yV,Slot.Vh,c5,zB,yX,yW]
 have hk:ji (f2 mW (ae 3) (f2 ay (f2 ay (ae 2) (ae 0)) (f2 Dl.jd (fC (.int 1)) (ae 1)))) [none,some (.int (sI b)),some (.tuple (W.map ao)),some (af p.2)] ((own b W i).map nD)=some (((own b W i).map nD).map λd=>.int (kD b W p.2 d)):=by
  refine oU λd hd=>?_;let⟨j,hj,rfl⟩:=List.mem_map.mp hd;let⟨hjl,hje⟩:=bY.mp hj;show f2 mW (ae 3) (f2 ay (f2 ay (ae 2) (ae 0)) (f2 Dl.jd (fC (.int 1)) (ae 1))) [some (nD j),some (.int (sI b)),some (.tuple (W.map ao)),some (af p.2)]=_;have ew:ay (.tuple (W.map ao)) (nD j)=some (ao (aC W j)):=mT (n5 hjl);rw[i8 (a:=af p.2) (b:=.int (bE b (aC W j))) rfl ?_]
  ·have hm:bE b (aC W j)∈p.2:=(h.lik e).mem_iff.mpr (by rw[<- lT];exact List.mem_map.mpr ⟨j,hj,rfl⟩);simp?[mW,af,cn,zA,l9 hm,zB,kD,jl,yG]
   all_goals first|rfl|(congr 3;funext o;congr)
  ·rw[i8 (a:=ao (aC W j)) (b:=.int (1 - sI b)) ?_ ?_,Ms]
   ·rw[i8 (a:=.tuple (W.map ao)) (b:=nD j) rfl rfl,ew]
   ·rw[i8 (a:=.int 1) (b:=.int (sI b)) rfl rfl,rD]
 have hi:intsOf (((own b W i).map nD).map λd=>PyData.int (kD b W p.2 d))=some (((own b W i).map nD).map (kD b W p.2)):=by
  rw[show (((own b W i).map nD).map λd=>PyData.int (kD b W p.2 d))=(((own b W i).map nD).map (kD b W p.2)).map PyData.int by simp?[zM];rfl,cn]
 have t6:aM (bS (o7 [1,3,4] (ae 5) (f2 mW (ae 3) (f2 ay (f2 ay (ae 2) (ae 0)) (f2 Dl.jd (fC (.int 1)) (ae 1)))))) [.val (az G T W),.val (.int (sI b)),.val (nD i),.val (.tuple (W.map ao)),.val (af p.2),.own ((own b W i).map nD)]=some (.rt (.list ((eI b W i p.2).map nD))):=by
  have es:o7 [1,3,4] (ae 5) (f2 mW (ae 3) (f2 ay (f2 ay (ae 2) (ae 0)) (f2 Dl.jd (fC (.int 1)) (ae 1)))) [some (az G T W),some (.int (sI b)),some (nD i),some (.tuple (W.map ao)),some (af p.2),some (.list ((own b W i).map nD))]=some ((eI b W i p.2).map nD):=by
   unfold o7;show (ji _ [none,some (.int (sI b)),some (.tuple (W.map ao)),some (af p.2)] ((own b W i).map nD)).bind _=_;rw[hk,zA,hi,zA,yM (by rw[zD];lia),J2 h e _ λj hj=>?_];simp[hj]
  simp?[aM,aG,zI,yV,w8,zm,bS,es,zB]
 refine aE ?_;show oM [.val (az G T W),.val (.int (sI b)),.val (nD i),.Ux,.Ux,.Ux]=_;unfold oM;rw[ak t3,ak t4,ak t5,t6]
local macro_rules|`(tactic| dsimp! [$ts,*])=>`(tactic| simp only[ae,fC,f1,f2,aa,ag,aj,bD,um,aO,gf,bS,fB,gB,cC,eE,ua,bf,aG,bJ,w8,zm,Ew,C8,DK,EB,zI,yV,xS,yZ,zA,zB,qJ,zL,xN,Nat.reduceAdd,jF,reduceIte,yX,yW,$ts,*])
def nL(R:S->au->Prop)(f:α->D)(st:S->α->S):∀ {l:List α}{s:S}{ρ:au},
  (∀s ρ x,x∈l->R s ρ->∃ρ1 VO,tgt ρ (f x)=some ρ1/\gb ρ1=some (.nx VO)/\R (st s x) VO)->R s ρ->∃ρ',bN tgt gb (l.map f) ρ=some (.nx ρ')/\R (l.foldl st s) ρ'
 | [],s,ρ,_,h=>⟨ρ,rfl,h⟩
 | d::ds,s,ρ,hh,h=>by
  let⟨ρ1,VO,e1,e2,h2⟩:=hh s ρ d zE h;let⟨ρ',e3,h3⟩:=nL R f st (λs ρ x hx=>hh s ρ x (zC _ hx)) h2;refine⟨ρ',?_,h3⟩;rw[zI,bN,e1,zA,e2];exact e3
def eN(R:au->Prop)(f:α->D)(q:α->Bool)(out:α->D):∀ {l:List α}{ρ:au},
  (∀ρ x,x∈l->R ρ->∃ρ1,tgt ρ (f x)=some ρ1/\(q x=true->gb ρ1=some (.rt (out x)))/\(q x=false->∃VO,gb ρ1=some (.nx VO)/\R VO))->R ρ ->
  (∀x,l.find? q=some x->bN tgt gb (l.map f) ρ=some (.rt (out x)))/\(l.find? q=none->∃ρ',bN tgt gb (l.map f) ρ=some (.nx ρ')/\R ρ')
 | [],ρ,_,h=>⟨λx hx=>(by cases hx),λ_=>⟨ρ,rfl,h⟩⟩
 | x::l,ρ,hh,h=>by
  let⟨ρ1,e1,e2,e3⟩:=hh ρ x zE h;rw[zI,bN,e1,zA];cases hq:q x with
  | true =>
   rw[wA (by simpa using hq),e2 hq];exact⟨λy hy=>(by cases hy;rfl),λhn=>(by cases hn)⟩
  | false =>
   let⟨VO,e4,h2⟩:=e3 hq;rw[kU (by simp[hq]),e4];exact eN R f q out (λρ x hx=>hh ρ x (zC _ hx)) h2
def br(h:bN tgt gb ds ρ1=o)(hi:fi (bJ ρ1)=some ds)(hh:hand fz 0 ρ=ρ1):cX fz fi tgt gb ρ=o:=by
 simp?[cX,hh,hi,zA,h]
def qu(hh:hand fz 0 ρ=ρ')(hf:f (bJ ρ')=some ds):aQ i fz f ρ=some (.nx (ρ'.set i (.own ds))):=by
 simp?[aQ,hh,hf,zB]
def cP(hf:f (bJ ρ)=some ds)(hh:hand fz 0 ρ=ρ):aQ i fz f ρ=some (.nx (ρ.set i (.own ds))):=qu hh hf
def jz(hh:hand fz 0 ρ=ρ')(hA:f (aG ρ)=some d)(hF:f (bJ ρ')=some d)(hs:Dl.oa d=false)(hr:hJ d=false\/ρ'=ρ:=by first|exact .inr rfl|exact .inl rfl):Dl.aI i fz f ρ=some (.nx (ρ'.set i (.val d))):=by
 rcases hr with hr|hr
 ·simp?[Dl.aI,hA,zA,hs,yP,qS,hh,hF,zB,hr]
 ·subst hr;simp?[Dl.aI,hA,zA,hs,yP,qS,hh,hF,zB,ite_self]
def call_of(h:m ds=some d)(hf:fs ρ=some ds)(hn:ds.length=n):aj n m fs ρ=some d:=by
 unfold aj;rw[hf,zA,yM hn,h]
def cons_of(h:f ρ=some d)(hs:fs ρ=some ds):aa f fs ρ=some (d::ds):=by
 unfold aa;rw[h,hs];rfl
def aF(hf:f (aG ρ)=some d):aM f ρ=some (.rt d):=by
 simp?[aM,hf,zB]
def gU(hf:f (aG ρ)=some d):jn f ρ=some (.nx ρ):=by
 simp?[jn,hf,zB]
def bz(h:t (aG ρ)=some false):fX t g fv ρ=some (.nx ρ):=by
 simp[fX,h,fv]
def bV(h:t (aG ρ)=some true):fX t g g2 ρ=g ρ:=by
 simp[fX,h]
def eB(h:g1 ρ=some (.rt d)):aw g1 g2 ρ=some (.rt d):=by
 simp?[aw,h,zA]
def FB(hf:f (aG ρ)=some d)(hs:Dl.oa d=true)(hk:fk (aG ρ)=some (nD k))(ho:ρ[i]?=some (.own ds))(hl:k < ds.length):Cy i fz fk f ρ=some (.nx (ρ.set i (.own (ds.set k d)))):=by
 have hx:DZ ds.length ((k:Nat):Int)=some k:=by
  unfold DZ;rw[yM (Int.natCast_nonneg k),yM (by lia)];simp
 simp?[Cy,kh,hf,zA,hs,xJ,hk,oE,ho,hx,zB]
def lp(cont:S->Bool)(st:S->S):Nat->S->S
 | 0,s=>s
 | n+1,s=>if cont s=true then lp cont st n (st s) else s
def Af(R:S->au->Prop)(cont:S->Bool)(st:S->S)(μ:S->Nat)
  (ht:∀s ρ,R s ρ->t (aG ρ)=some (cont s)) (hb:∀s ρ,R s ρ->cont s=true->∃ρ',gb ρ=some (.nx ρ')/\R (st s) ρ'/\μ (st s) < μ s) :
  ∀ (n:Nat) (s:S) (ρ:au),μ s < n->R s ρ->∃ρ',Lj t gb n ρ=some (.nx ρ')/\R (lp cont st n s) ρ'/\cont (lp cont st n s)=false
 | 0,s,ρ,h,_=>absurd h (by lia)
 | n+1,s,ρ,h,r=>by
  rw[Lj,ht s ρ r,zA,lp];cases hc:cont s with
  | false=>exact⟨ρ,by simp,by simpa [hc] using r,by simpa [hc] using hc⟩
  | true =>
   let⟨ρ',e,r',hm⟩:=hb s ρ r hc;let⟨VO,e2,r2,c2⟩:=Af R cont st μ ht hb n (st s) ρ' (by lia) r';refine⟨VO,?_,by simpa [hc] using r2,by simpa [hc] using c2⟩;simp?[xJ,e,zA];exact e2
def fQ{off:List Int}(h:i < off.length):ay (af off) (nD i)=some (.int (off.getD i 0)):=mT (f:=PyData.int) (l:=off) (by simp[h])
def Ot{off:List Int}(h:i < off.length):ay (.list (off.map PyData.int)) (nD i)=some (.int (off.getD i 0)):=qk (f:=PyData.int) (l:=off) (by simp[h])
def oW(h:i < W.length):ay (.tuple (W.map ao)) (nD i)=some (ao (aC W i)):=mT (n5 h)
def RW(a b c:Int):AU [.int a,.int b,.int c]=some (.int (min (min a b) c)):=rfl
def Lr(l:List Int)(k:Nat)(v:Int):(l.map PyData.int).set k (.int v)=(l.set k v).map PyData.int:=by rw[List.map_set]
def Mp(l:List Int):bp [.list (l.map PyData.int)]=some (af l):=rfl
def Cb(l:List D):bp [.list l]=some (.tuple l):=rfl
def EJ(l:List D):bZ [.tuple l]=some (nD l.length):=rfl
def LO(l:List Int):bZ [af l]=some (nD l.length):=by
 show some (PyData.int ((l.map PyData.int).length:Nat))=_;rw[zD]
def Fz(h:n<=1000):mG [nD n]=some ((List.range n).map nD):=by
 rw[zx (yn h),yG]
def fV(h:fs ρ=some [nD n])(hn:n<=1000):bh fs ρ=some ((List.range n).map nD):=by
 unfold bh;rw[h,zA,Fz hn]
def sub_int(i j:Int):Dl.jd (.int i) (.int j)=some (.int (i - j)):=rD i j
def zeros(Vx:fi ρ=some ds)(hl:ds.length<=1000):aq 1 [] fi (fG 0) (λ_=>some true) (fC (.int 0)) ρ=some ((List.replicate ds.length (0:Int)).map PyData.int):=by
 rw[cw (h:=λ_=>.int 0) Vx (by lia) λd hd=>rfl];simp[List.map_const']
def IB(h1:Bx k=true)(h2:ds.length * k.toNat<=sizeLine):ED ds (.int k)=some (List.replicate k.toNat ds).flatten:=by
 simp?[ED];rw[yM (And.intro h1 h2)]
def vf:∀ (a b:List Int),cD (gh 0 1) (λ_=>some true) (f2 aL (ae 0) (ae 1)) (none::none::r) (iY (a.map PyData.int) (b.map PyData.int))=some ((List.zipWith (·+·) a b).map PyData.int)
 | [],b=>by cases b<;>rfl
 | x::a,[]=>rfl
 | x::a,y::b=>by
  have ih:=vf (r:=r) a b;have hg:gh 0 1 (none::none::r) (.tuple [.int x,.int y])=some (some (.int x)::some (.int y)::r):=by
   simp?[gh,isFree,xS,yZ,qJ,Ze,jR,xJ,yW,yX]
  rw[zI,zI,iY,cD,hg,zA];dsimp! [dF,ih,List.zipWith_cons_cons]
def GQ(Vx:fi ρ=some (iY (a.map PyData.int) (b.map PyData.int)))(hl:a.length<=1000) :
  aq 2 [] fi (gh 0 1) (λ_=>some true) (f2 aL (ae 0) (ae 1)) ρ=some ((List.zipWith (·+·) a b).map PyData.int):=by
 have:=vf (r:=[]) a b;simp?[aq,Vx,zA,eL,List.replicate,yV,qH,this];refine bw ?_;rw[zD,List.length_zipWith];lia
def cV(W:List Wy)(off:List Int)(left:Int)(i:Nat):Int:=min (min (off.getD i 0) (aC W i).2.2) left
def nj(W:List Wy)(off:List Int)(s:Int×List Int)(i:Nat):Int×List Int:=(s.1 - cV W off s.1 i,s.2.set i (cV W off s.1 i))
def tY(W:List Wy)(off:List Int)(amt:Int)(is:List Nat):List Int:=(is.foldl (nj W off) (amt,List.replicate W.length 0)).2
def Ek(W:List Wy)(off:List Int):∀ (is:List Nat) (s:Int×List Int),(is.foldl (nj W off) s).2.length=s.2.length
 | [],s=>rfl
 | i::is,s=>by rw[yJ,Ek W off is];simp[nj]
def yl(W:List Wy)(off:List Int)(amt:Int)(is:List Nat):(tY W off amt is).length=W.length:=by rw[tY,Ek];simp
def Qc{W:List Wy}(e:(aR b G T)[i]?=some p):ay (.tuple ((aR b G T).map aW)) (nD i)=some (aW p):=mT e
def O3{off:List Int}(hi:i < W.length)(ho:off.length=W.length)(hs:s.2.length=W.length) :
  (aw (Cy 4 [0,3,5,6] (ae 6) (bD AU (aa (f2 ay (ae 3) (ae 6)) (aa (f2 ay (f2 ay (f2 ay (ae 0) (fC (.int 2))) (ae 6)) (fC (.int 2))) (aa (ae 5) ag))))) (Dl.aI 5 [4,5,6] (f2 Dl.jd (ae 5) (f2 ay (ae 4) (ae 6))))) [.val (az G T W),.val d1,.val d2,.val (af off),.own (s.2.map PyData.int),.val (.int s.1),.val (nD i)]=some (.nx [.val (az G T W),.val d1,.val d2,.val (af off),.own ((nj W off s i).2.map PyData.int),.val (.int (nj W off s i).1),.val (nD i)]):=by
 have hv:(bD AU (aa (f2 ay (ae 3) (ae 6)) (aa (f2 ay (f2 ay (f2 ay (ae 0) (fC (.int 2))) (ae 6)) (fC (.int 2))) (aa (ae 5) ag)))) (aG [.val (az G T W),.val d1,.val d2,.val (af off),.own (s.2.map PyData.int),.val (.int s.1),.val (nD i)])=some (.int (cV W off s.1 i)):=by
  dsimp! [fQ (show i < off.length by lia),jm,oW hi,rm,RW,cV]
 have t1:=FB (i:=4) (fz:=[0,3,5,6]) (fk:=ae 6) (k:=i) (ds:=s.2.map PyData.int) hv rfl rfl rfl (by rw[zD];lia);rw[Lr] at t1;rw[ak t1];have hl:i < (s.2.set i (cV W off s.1 i)).length:=by rw[yC];lia
 have hg:(s.2.set i (cV W off s.1 i)).getD i 0=cV W off s.1 i:=by
  have:i < s.2.length:=by lia
  simp[this]
 have hv2:(f2 Dl.jd (ae 5) (f2 ay (ae 4) (ae 6))) (aG ([.val (az G T W),.val d1,.val d2,.val (af off),.own (s.2.map PyData.int),.val (.int s.1),.val (nD i)].set 4 (.own ((s.2.set i (cV W off s.1 i)).map PyData.int))))=some (.int (nj W off s i).1):=by
  dsimp! [Ot hl,sub_int,hg,nj]
 rw[bI hv2 rfl];rfl
def pF{off:List Int}(h:Wd G T W)(ho:off.length=W.length)(e:(aR b G T)[i]?=some p) :
  fK [az G T W,.int (sI b),nD i,af off]=some (af (tY W off p.1 (eI b W i p.2))):=by
 have hw:W.length<=16:=h.wl;have t4:aQ 4 [0] (aq 1 [] (aO (f2 ay (ae 0) (fC (.int 2)))) (fG 0) (λ_=>some true) (fC (.int 0))) [.val (az G T W),.val (.int (sI b)),.val (nD i),.val (af off),.Ux,.Ux,.Ux]=some (.nx [.val (az G T W),.val (.int (sI b)),.val (nD i),.val (af off),.own ((List.replicate W.length (0:Int)).map PyData.int),.Ux,.Ux]):=by
  have z:=zeros (fi:=aO (f2 ay (ae 0) (fC (.int 2)))) (ρ:=bJ [.val (az G T W),.val (.int (sI b)),.val (nD i),.val (af off),.Ux,.Ux,.Ux]) (ds:=W.map ao) rfl (by rw[zD];lia);rw[zD] at z;exact qu rfl z
 have t5:Dl.aI 5 [0,1,2] (f2 ay (f2 ay (f2 ay (ae 0) (ae 1)) (ae 2)) (fC (.int 0))) [.val (az G T W),.val (.int (sI b)),.val (nD i),.val (af off),.own ((List.replicate W.length (0:Int)).map PyData.int),.Ux,.Ux]=some (.nx [.val (az G T W),.val (.int (sI b)),.val (nD i),.val (af off),.own ((List.replicate W.length (0:Int)).map PyData.int),.val (.int p.1),.Ux]) :=
  bI (d:=.int p.1) (by dsimp! [gp,Qc (W:=W) e,Kx]) rfl
 let⟨ρ',e3,VN,x,rfl⟩:=nL (tgt:=ik 6) (gb:=(aw (Cy 4 [0,3,5,6] (ae 6) (bD AU (aa (f2 ay (ae 3) (ae 6)) (aa (f2 ay (f2 ay (f2 ay (ae 0) (fC (.int 2))) (ae 6)) (fC (.int 2))) (aa (ae 5) ag))))) (Dl.aI 5 [4,5,6] (f2 Dl.jd (ae 5) (f2 ay (ae 4) (ae 6)))))) (R:=λs ρ=>s.2.length=W.length/\∃x,ρ=[.val (az G T W),.val (.int (sI b)),.val (nD i),.val (af off),.own (s.2.map PyData.int),.val (.int s.1),x]) nD (nj W off)
  (l:=eI b W i p.2) (s:=(p.1,List.replicate W.length (0:Int))) (ρ:=[.val (az G T W),.val (.int (sI b)),.val (nD i),.val (af off),.own ((List.replicate W.length (0:Int)).map PyData.int),.val (.int p.1),.Ux])
  (λs ρ j hj ⟨hs,x,VW⟩=>by
   subst VW;let⟨hjl,_⟩:=bY.mp ((dh h e).mem_iff.mp hj);refine⟨_,_,rfl,O3 hjl ho hs,?_,.val (nD j),rfl⟩;simp[nj,hs]) ⟨by simp,_,rfl⟩
 refine aE ?_;show lO [.val (az G T W),.val (.int (sI b)),.val (nD i),.val (af off),.Ux,.Ux,.Ux]=_;unfold lO;rw[ak t4,ak t5,ak (br e3 (by dsimp! [uT h e]) rfl)];exact aF rfl
def bM(b:Bool)(G T:List Pl)(i:Nat):Pl:=(aR b G T).getD i (0,[])
def Au(b:Bool)(G T:List Pl)(W:List Wy)(off s:List Int)(i:Nat):List Int:=List.zipWith (·+·) s (tY W off (bM b G T i).1 (eI b W i (bM b G T i).2))
def bA(b:Bool)(G T:List Pl)(W:List Wy)(off:List Int):List Int:=(List.range (aR b G T).length).foldl (Au b G T W off) (List.replicate W.length 0)
def k7(h:i < (aR b G T).length):(aR b G T)[i]?=some (bM b G T i):=by simp[bM,h]
def qj{off:List Int}(h:s.length=W.length):(Au b G T W off s i).length=W.length:=by
 unfold Au;rw[List.length_zipWith,yl,h,Nat.min_self]
def md(R:S->Prop):∀ {l:List α}{s:S},(∀s x,x∈l->R s->R (f s x))->R s->R (l.foldl f s)
 | [],s,_,h=>h
 | x::l,s,hh,h=>by
  rw[yJ];exact md (l:=l) R (λs y hy=>hh s y (zC _ hy)) (hh s x zE h)
def gF(b:Bool)(G T:List Pl)(W:List Wy)(off:List Int):(bA b G T W off).length=W.length :=
 md (λs:List Int=>s.length=W.length) (λs i _ h=>qj h) (by simp)
def Wd.pl(h:Wd G T W)(b:Bool):(aR b G T).length<=4:=by
 cases b
 ·exact h.g4
 ·exact h.t4
def T8:au->Option Out:=(aw (Dl.aI 5 [0,1,2,4] (aj 4 fK (aa (ae 0) (aa (ae 1) (aa (ae 4) (aa (ae 2) ag)))))) (aQ 3 [3,5] (aq 2 [] (eK (aa (ae 3) (aa (ae 5) ag))) (gh 0 1) (λ_=>some true) (f2 aL (ae 0) (ae 1)))))
def fO{off:List Int}(h:Wd G T W)(ho:off.length=W.length)(b:Bool) :
  bK [az G T W,.int (sI b),af off]=some (af (bA b G T W off)):=by
 have hw:W.length<=16:=h.wl;have hp:=h.pl b;have t3:aQ 3 [0] (aq 1 [] (aO (f2 ay (ae 0) (fC (.int 2)))) (fG 0) (λ_=>some true) (fC (.int 0))) [.val (az G T W),.val (.int (sI b)),.val (af off),.Ux,.Ux,.Ux]=some (.nx [.val (az G T W),.val (.int (sI b)),.val (af off),.own ((List.replicate W.length (0:Int)).map PyData.int),.Ux,.Ux]):=by
  have z:=zeros (fi:=aO (f2 ay (ae 0) (fC (.int 2)))) (ρ:=bJ [.val (az G T W),.val (.int (sI b)),.val (af off),.Ux,.Ux,.Ux]) (ds:=W.map ao) rfl (by rw[zD];lia);rw[zD] at z;exact cP z rfl
 let⟨ρ',e3,VN,x,y,rfl⟩:=nL (tgt:=ik 4) (gb:=T8) (R:=λs ρ=>s.length=W.length/\∃x y,ρ=[.val (az G T W),.val (.int (sI b)),.val (af off),.own (s.map PyData.int),x,y]) nD (Au b G T W off)
  (l:=List.range (aR b G T).length) (s:=List.replicate W.length (0:Int)) (ρ:=[.val (az G T W),.val (.int (sI b)),.val (af off),.own ((List.replicate W.length (0:Int)).map PyData.int),.Ux,.Ux])
  (λs ρ i hi ⟨hs,x,y,VW⟩=>by
   subst VW;have ei:=k7 (List.mem_range.mp hi);have t1:Dl.aI 5 [0,1,2,4] (aj 4 fK (aa (ae 0) (aa (ae 1) (aa (ae 4) (aa (ae 2) ag))))) [.val (az G T W),.val (.int (sI b)),.val (af off),.own (s.map PyData.int),.val (nD i),y]=some (.nx [.val (az G T W),.val (.int (sI b)),.val (af off),.own (s.map PyData.int),.val (nD i),.val (af (tY W off (bM b G T i).1 (eI b W i (bM b G T i).2)))]):=by
    refine jz (ρ':=[.val (az G T W),.val (.int (sI b)),.val (af off),.own (s.map PyData.int),.val (nD i),y]) rfl (d:=af (tY W off (bM b G T i).1 (eI b W i (bM b G T i).2))) ?_ ?_ rfl
    ·dsimp! [pF h ho ei]
    ·dsimp! [pF h ho ei]
   have t2:aQ 3 [3,5] (aq 2 [] (eK (aa (ae 3) (aa (ae 5) ag))) (gh 0 1) (λ_=>some true) (f2 aL (ae 0) (ae 1))) [.val (az G T W),.val (.int (sI b)),.val (af off),.own (s.map PyData.int),.val (nD i),.val (af (tY W off (bM b G T i).1 (eI b W i (bM b G T i).2)))]=some (.nx [.val (az G T W),.val (.int (sI b)),.val (af off),.own ((Au b G T W off s i).map PyData.int),.val (nD i),.val (af (tY W off (bM b G T i).1 (eI b W i (bM b G T i).2)))]):=by
    refine qu (ρ':=[.val (az G T W),.val (.int (sI b)),.val (af off),.val (.list (s.map PyData.int)),.val (nD i),.val (af (tY W off (bM b G T i).1 (eI b W i (bM b G T i).2)))]) rfl (ds:=(Au b G T W off s i).map PyData.int) ?_;exact GQ (a:=s) (b:=tY W off (bM b G T i).1 (eI b W i (bM b G T i).2)) rfl (by lia)
   exact⟨_,_,rfl,(ak t1).trans t2,qj hs,_,_,rfl⟩) ⟨by simp,_,_,rfl⟩
 refine aE ?_;show fU [.val (az G T W),.val (.int (sI b)),.val (af off),.Ux,.Ux,.Ux]=_;unfold fU;rw[ak t3];refine (ak (br e3 (fV (by dsimp! [gp,EJ,zD]) (by lia)) rfl)).trans ?_;exact aF rfl
def qo(h:(xs++ys).length<=4000):Dl.aL (.tuple xs) (.tuple ys)=some (.tuple (xs++ys)):=by
 simp?[Dl.aL,zt,L9,bw h,zB,Option.none_or,Option.some_or]
def Me(h:f ρ=some d):aJ (aa f ag) ρ=some (.tuple [d]):=by
 simp?[aJ,aa,ag,h,zA,zB];rw[bw (by simp),zB]
def Su(h:f ρ=some d)(h2:g ρ=some e):aJ (aa f (aa g ag)) ρ=some (.tuple [d,e]):=by
 simp?[aJ,aa,ag,h,h2,zA,zB];rw[bw (by simp),zB]
def ar(h:g a b=some c)(ha:fa ρ=some a)(hb:fb ρ=some b):f2 g fa fb ρ=some c:=by rw[i8 ha hb,h]
def N6(h:f ρ=some (.tuple ds))(h2:g ρ=some (nD k)):gE cU f gX (ui g) ρ=some (.tuple (ds.take k)):=by
 simp?[gE,h,gX,ui,h2,zA,gI,zB,cU,Ge]
def OY(h:f ρ=some (.tuple ds))(h2:g ρ=some (nD k)):gE cU f (ui g) gX ρ=some (.tuple (ds.drop k)):=by
 simp?[gE,h,gX,ui,h2,zA,gI,zB,cU,A1]
def Te(d:D)(ds:List D):ay (.tuple (d::ds)) (.int 0)=some d:=sN (i:=0) rfl
def RN(c d:D)(ds:List D):ay (.tuple (c::d::ds)) (.int 1)=some d:=sN (i:=1) rfl
def C5(c:List Int)(i:Nat)(v:Int)(h:i < c.length):((c.map PyData.int).take i++[PyData.int v])++(c.map PyData.int).drop (i+1)=(c.set i v).map PyData.int:=by
 rw[List.set_eq_take_append_cons_drop,yM h];simp
def TV(i:Nat):Dl.aL (nD i) (.int 1)=some (nD (i+1)):=by
 rw[dF];rfl
def BS(h:i < c.length)(hl:c.length<=1000):m9 [af c,nD i,.int v]=some (af (c.set i v)):=by
 refine aE ?_;show sF [.val (af c),.val (nD i),.val (.int v)]=_;refine aF ?_;refine ar (a:=.tuple ((c.map PyData.int).take i++[PyData.int v])) (b:=.tuple ((c.map PyData.int).drop (i+1))) ?_ (ar (a:=.tuple ((c.map PyData.int).take i)) (b:=.tuple [.int v]) (qo ?_) (N6 rfl rfl) (Me rfl)) (OY rfl (ar (TV i) rfl rfl))
 ·rw[qo,C5 c i v h]
  ·rfl
  ·rw[C5 c i v h];simp;lia
 ·simp;lia
def uD(h:i < c.length)(hl:c.length<=1000):fg [af c,nD i,.int v]=some (af (c.set i v)):=by
 refine aE ?_;show uP [.val (af c),.val (nD i),.val (.int v)]=_;exact aF (call_of (BS h hl) rfl rfl)
def dZ(W:List Wy):List Int:=W.map λw=>w.2.2
def JJ(h:Wd G T W)(hf:f ρ=some (az G T W)):(bD bp (aa (bS (aq 1 [] (aO (f2 ay f (fC (.int 2)))) (fG 0) (λ_=>some true) X6)) ag)) ρ=some (af (dZ W)):=by
 have hw:=h.wl;have hs:(aO (f2 ay f (fC (.int 2)))) ρ=some (W.map ao):=by
  unfold aO;rw[ar (jm G T W) hf rfl];rfl
 have e:aq 1 [] (aO (f2 ay f (fC (.int 2)))) (fG 0) (λ_=>some true) X6 ρ=some ((dZ W).map PyData.int):=by
  rw[cw (h:=λd=>.int (jl ((cY d).getD 2 .none))) hs (by rw[zD];lia) λd hd=>?_]
  ·rw[dZ,zM,zM];rfl
  ·let⟨w,hw',rfl⟩:=List.mem_map.mp hd;rfl
 simp?[bD,aa,ag,bS,e,zB,zA,Mp]
def nI(h:Wd G T W):sr [az G T W]=some (af (dZ W)):=by
 refine aE ?_;show Ax [.val (az G T W)]=_;exact aF (JJ h rfl)
def oC(W:List Wy):(dZ W).length=W.length:=by simp[dZ]
def kl(G T:List Pl)(W:List Wy)(c:List Int):List Int:=bA true G T W (bA false G T W c)
def qR(G T:List Pl)(W:List Wy)(c:List Int)(k:Nat):Bool:=decide ((kl G T W c).getD k 0 < (bA false G T W c).getD k 0)
def tV(G T:List Pl)(W:List Wy)(c:List Int):Option (Nat×Int):=((List.range W.length).find? (qR G T W c)).map λk=>(k,(kl G T W c).getD k 0)
def CN:Option (Nat×Int)->D
 | none=>.none
 | some p=>.tuple [nD p.1,.int p.2]
def enum_zip:∀ (ds:List D) (k:Nat),bH k ds=(ds.zipIdx k).map λq=>.tuple [nD q.2,q.1]
 | [],k=>rfl
 | d::ds,k=>by rw[bH,enum_zip ds (k+1),List.zipIdx_cons];rfl
def Fw(l:List Int):bH 0 (l.map PyData.int)=(List.range l.length).map λk=>.tuple [nD k,.int (l.getD k 0)]:=by
 rw[enum_zip];apply jJ
 ·simp
 ·intro i h1 h2;have:i < l.length:=by simpa using h2
  simp[this]
def Nw(G T:List Pl)(W:List Wy)(c:List Int):(kl G T W c).length=W.length:=gF _ _ _ _ _
def RP:au->Option Out:=(fX (fB (f2 Bq (ae 5) (f2 ay (ae 2) (ae 4)))) (aM (aJ (aa (ae 4) (aa (ae 5) ag)))) fv)
def lS(h:Wd G T W)(ho:c.length=W.length):iW [az G T W,af c]=some (CN (tV G T W c)):=by
 have hw:W.length<=16:=h.wl;have t2:Dl.aI 2 [0,1] (aj 3 bK (aa (ae 0) (aa (fC (.int 0)) (aa (ae 1) ag)))) [.val (az G T W),.val (af c),.Ux,.Ux,.Ux,.Ux]=some (.nx [.val (az G T W),.val (af c),.val (af (bA false G T W c)),.Ux,.Ux,.Ux]) :=
  cx (call_of (fO h ho false) rfl rfl) rfl rfl rfl
 have t3:Dl.aI 3 [0,2] (aj 3 bK (aa (ae 0) (aa (fC (.int 1)) (aa (ae 2) ag)))) [.val (az G T W),.val (af c),.val (af (bA false G T W c)),.Ux,.Ux,.Ux]=some (.nx [.val (az G T W),.val (af c),.val (af (bA false G T W c)),.val (af (kl G T W c)),.Ux,.Ux]) :=
  cx (call_of (fO h (gF _ _ _ _ _) true) rfl rfl) rfl rfl rfl
 have hl:=eN (tgt:=gz 4 5) (gb:=RP) (R:=λρ=>∃x y,ρ=[.val (az G T W),.val (af c),.val (af (bA false G T W c)),.val (af (kl G T W c)),x,y]) (λk=>.tuple [nD k,.int ((kl G T W c).getD k 0)]) (qR G T W c) (λk=>.tuple [nD k,.int ((kl G T W c).getD k 0)])
  (l:=List.range W.length) (ρ:=[.val (az G T W),.val (af c),.val (af (bA false G T W c)),.val (af (kl G T W c)),.Ux,.Ux])
  (λρ k hk ⟨x,y,VW⟩=>by
   subst VW;have U0:k < (bA false G T W c).length:=by rw[gF];exact List.mem_range.mp hk
   have hc:(fB (f2 Bq (ae 5) (f2 ay (ae 2) (ae 4)))) (aG [.val (az G T W),.val (af c),.val (af (bA false G T W c)),.val (af (kl G T W c)),.val (nD k),.val (.int ((kl G T W c).getD k 0))])=some (qR G T W c k):=by
    dsimp! [fQ U0,ig,qR]
   refine⟨[.val (az G T W),.val (af c),.val (af (bA false G T W c)),.val (af (kl G T W c)),.val (nD k),.val (.int ((kl G T W c).getD k 0))],rfl,λhq=>?_,λhq=>?_⟩
   ·rw[hq] at hc;unfold RP;rw[bV hc];exact aF (Su rfl rfl)
   ·rw[hq] at hc;unfold RP;rw[bz hc];exact⟨_,rfl,_,_,rfl⟩) ⟨_,_,rfl⟩
 have hi:(bf (aa (ae 3) ag)) (bJ [.val (az G T W),.val (af c),.val (af (bA false G T W c)),.val (af (kl G T W c)),.Ux,.Ux])=some ((List.range W.length).map λk=>.tuple [nD k,.int ((kl G T W c).getD k 0)]):=by
  have:=Fw (kl G T W c);rw[Nw] at this;rw[<- this];rfl
 refine aE ?_;show oS [.val (az G T W),.val (af c),.Ux,.Ux,.Ux,.Ux]=_;unfold oS;rw[ak t2,ak t3];unfold tV;cases hq:(List.range W.length).find? (qR G T W c) with
 | some k =>
  exact eB (br (hl.1 k hq) hi rfl)
 | none =>
  let⟨ρ',e,x,y,rfl⟩:=hl.2 hq;exact (ak (br e hi rfl)).trans (aF rfl)
def cK(l:List Int)(k:Nat)(v:Int)(i:Nat):(l.set k v).getD i 0=if k=i/\i < l.length then v else l.getD i 0:=by
 simp?[zG,xK];by_cases h:k=i
 ·subst h;by_cases h2:k < l.length
  ·simp[h2]
  ·simp[h2]
 ·simp[h]
def Aq{a b:List Int}{i:Nat}(ha:i < a.length)(hb:i < b.length):(List.zipWith (·+·) a b).getD i 0=a.getD i 0+b.getD i 0:=by
 rw[zG,zG,zG,List.getElem?_zipWith,zK ha,zK hb];rfl
def Off(off:List Int):Prop:=∀i,0<=off.getD i 0
def R9(W:List Wy):Prop:=∀i,0<=(aC W i).2.2
def Wd.lim{G T:List Pl}{W:List Wy}(h:Wd G T W):R9 W:=λi=>by
 by_cases hi:i < W.length
 ·have:=h.wr (aC W i) (by rw[<- j1 hi];exact qC hi);lia
 ·simp?[aC,zG];rw[jO (by lia)];simp
def Wd.amt{G T:List Pl}{W:List Wy}(h:Wd G T W)(b:Bool)(i:Nat):0<=(bM b G T i).1:=by
 unfold bM;rw[zG];cases e:(aR b G T)[i]? with
 | none=>simp
 | some p =>
  have hm:=qD e;cases b
  ·exact (h.ga p hm).1
  ·exact (h.ta p hm).1
def Pe{W:List Wy}{off:List Int}(ho:Off off)(hl:R9 W){amt:Int}(ha:0<=amt)(is:List Nat)(i:Nat):0<=(tY W off amt is).getD i 0/\(tY W off amt is).getD i 0<=off.getD i 0:=by
 have:=md (l:=is) (f:=nj W off) (s:=(amt,List.replicate W.length 0)) (λs=>0<=s.1/\∀i,0<=s.2.getD i 0/\s.2.getD i 0<=off.getD i 0) (λs k _ ⟨h1,h2⟩=>by
  have ok:=ho k;have lk:=hl k;have v0:0<=cV W off s.1 k:=by unfold cV;lia
  have v1:cV W off s.1 k<=off.getD k 0:=by unfold cV;lia
  have v2:cV W off s.1 k<=s.1:=by unfold cV;lia
  refine⟨by simp?[nj];lia,λi=>?_⟩;simp?[nj,cK];split
  ·rename_i z;rw[<- z.1];exact⟨v0,v1⟩
  ·exact h2 i) ⟨ha,λi=>by
   have:=ho i;have z:(List.replicate W.length (0:Int)).getD i 0=0:=by
    simp?[zG,yY];split<;>rfl
   simp?[z];lia⟩
 exact this.2 i
def Em{W:List Wy}{off:List Int}{amt:Int}{is:List Nat}{i:Nat}(hi:i∉is):(tY W off amt is).getD i 0=0:=by
 refine md (l:=is) (f:=nj W off) (s:=(amt,List.replicate W.length 0)) (λs=>s.2.getD i 0=0) (λs k hk h=>?_) ?_
 ·simp?[nj,cK];have hki:¬ (k=i/\i < s.2.length):=λz=>hi (z.1 ▸ hk);rw[yO hki,h]
 ·simp?[zG,yY];split<;>rfl
def we{G T:List Pl}{W:List Wy}(h:Wd G T W){off:List Int}(ho:Off off)(b:Bool):∀ (n:Nat),n<=(aR b G T).length ->
  ((List.range n).foldl (Au b G T W off) (List.replicate W.length 0)).length=W.length/\∀i,i < W.length->(0<=((List.range n).foldl (Au b G T W off) (List.replicate W.length 0)).getD i 0/\((List.range n).foldl (Au b G T W off) (List.replicate W.length 0)).getD i 0<=off.getD i 0)/\((n:Nat)<=aP b (aC W i)->((List.range n).foldl (Au b G T W off) (List.replicate W.length 0)).getD i 0=0)
 | 0,_=>by
  refine⟨by simp,λi hi=>?_⟩;have:=ho i;have z:((List.range 0).foldl (Au b G T W off) (List.replicate W.length 0)).getD i 0=0:=by simp[zG,hi]
  rw[z];exact⟨by lia,λ_=>rfl⟩
 | n+1,hn=>by
  let⟨h1,h2⟩:=we h ho b n (by lia);rw[wF,vK,yJ,List.foldl_nil];generalize (List.range n).foldl (Au b G T W off) (List.replicate W.length 0)=s at h1 h2;refine⟨qj h1,λi hi=>?_⟩;let⟨h3,h4⟩:=h2 i hi;have e:=k7 (b:=b) (G:=G) (T:=T) (i:=n) (by lia);have hc:=Pe ho h.lim (h.amt b n) (eI b W n (bM b G T n).2) i;have hz:(Au b G T W off s n).getD i 0=s.getD i 0+(tY W off (bM b G T n).1 (eI b W n (bM b G T n).2)).getD i 0:=Aq (by lia) (by rw[yl];exact hi);rw[hz];by_cases he:aP b (aC W i)=n
  ·rw[h4 (by lia)];exact⟨by lia,λz=>by lia⟩
  ·have YZ:i∉eI b W n (bM b G T n).2:=λz=>he (bY.mp ((dh h e).mem_iff.mp z)).2;rw[Em YZ];exact⟨by lia,λz=>by rw[h4 (by lia)];rfl⟩
def fM{l:List Int}{i:Nat}(h:l.length<=i):l.getD i 0=0:=by simp[zG,h]
def jq{G T:List Pl}{W:List Wy}(h:Wd G T W){off:List Int}(ho:Off off)(b:Bool):Off (bA b G T W off):=λi=>by
 by_cases hi:i < W.length
 ·exact ((we h ho b _ (yN _)).2 i hi).1.1
 ·rw[fM (by rw[gF];lia)];exact qB 0
def BG{G T:List Pl}{W:List Wy}(h:Wd G T W){off:List Int}(ho:Off off)(b:Bool){i:Nat}(hi:i < W.length):(bA b G T W off).getD i 0<=off.getD i 0 :=
 ((we h ho b _ (yN _)).2 i hi).1.2
def C4{G T:List Pl}{W:List Wy}(h:Wd G T W){c:List Int}(ho:Off c){p:Nat×Int}(e:tV G T W c=some p):p.1 < W.length/\0<=p.2/\p.2 < c.getD p.1 0:=by
 unfold tV at e;let⟨k,hk,rfl⟩:=Dl.ah e;have hm:=kA hk;have hq:=wH hk;have hi:=List.mem_range.mp hm;rw[qR,zJ] at hq;have a:=BG h ho false hi;have b:=jq h (jq h ho false) true k;exact⟨hi,b,by simp only;lia⟩
def VQ(c:List Int):Nat:=(c.map Int.toNat).sum
def D6:∀ {c:List Int}{k:Nat}{v:Int},0<=v->v < c.getD k 0->VQ (c.set k v) < VQ c
 | [],k,v,h0,h1=>by simp at h1;lia
 | x::c,0,v,h0,h1=>by
  simp at h1;simp?[VQ,yW,zI,kH];lia
 | x::c,k+1,v,h0,h1=>by
  have:=D6 (c:=c) (k:=k) h0 (by simpa using h1);simp?[VQ,yX,zI,kH] at this ⊢;lia
def CZ:∀ {W:List Wy},(∀w∈W,w.2.2<=9)->VQ (dZ W)<=9 * W.length
 | [],_=>by simp[VQ,dZ]
 | w::W,h=>by
  have:=CZ (W:=W) λx hx=>h x (zC _ hx);have:=h w zE;simp?[VQ,dZ,zI,kH,zL] at *;lia
def Mb{G T:List Pl}{W:List Wy}(h:Wd G T W):Off (dZ W):=λi=>by
 have:=h.lim i;by_cases hi:i < W.length
 ·simpa [dZ,aC,zG,hi] using this
 ·rw[fM (by rw[oC];lia)];exact qB 0
def Dz{c:List Int}(h:Off c){k:Nat}{v:Int}(hv:0<=v):Off (c.set k v):=λi=>by
 rw[cK];split
 ·exact hv
 ·exact h i
def B9(a:List Int):SeqAt.shaped (af a)=true :=
 (iz.tup (b:=a.length) (k:=0) (by simp) λx hx=>by let⟨i,_,rfl⟩:=List.mem_map.mp hx;exact lW _).shaped (by decide)
def AR(a b:List Int):PyData.eqv (af a) (af b)=decide (a=b):=by
 rw[af,af,PyData.eqv,tK]
def ba(h:f ρ=some (.bool b)):fB f ρ=some b:=by
 simp?[fB,h,zA,gB]
def dq(h:t ρ=some b):cC t ρ=some (!b):=by
 simp?[cC,h,zB]
def O0(h:t ρ=some false)(h2:u ρ=some false):ua t u ρ=some false:=by
 simp?[ua,h,zA,h2]
def Jj(a b:List Int):bC (af a) (af b)=some (.bool (decide (a=b))):=by
 simp?[bC,Lf,B9,jR,xJ,AR,zB]
def pw(a b:List (List Int)):gN (.list (a.map af)) (.list (b.map af))=some (.bool (!decide (a=b))):=by
 simp?[gN,Kt,pI,jR,xJ,PyData.eqv,tR,zB]
def L7(x:Option (Nat×Int)):rF (CN x) .none=some (.bool x.isSome):=by cases x<;>rfl
def bB(hA:f (aG ρ)=some d)(hF:f (bJ ρ)=some d)(hh:hand fz 0 ρ=ρ):Dl.aI i fz f ρ=some (.nx (ρ.set i (.val d))):=by
 cases hs:Dl.oa d with
 | true=>exact bI hA hs
 | false=>exact jz hh hA hF hs (.inr rfl)
def Oa(hA:f (aG ρ)=some d)(hF:f (bJ ρ)=some d)(hh:hand fz 0 ρ=ρ)(ho:ρ[i]?=some (.own ds))(hl:ds.length < 4000):iR i fz f ρ=some (.nx (ρ.set i (.own (ds++[d])))):=by
 have hz:ds.length < sizeLine:=zP hl (by decide);have hi:kh fz f ρ=some (d,ρ):=by
  unfold kh;rw[hA,zA,hh,hF];cases Dl.oa d<;>rfl
 simp?[iR,hi,zA,oE,ho,hz,xJ,zB]
def cR(h:Wd G T W):aZ [az G T W]=some .none:=by
 have hw:bT [az G T W]=some (.bool true):=by rw[mP h.fit (by decide),h.wok]
 have hc:zq3 (aG [.val (az G T W)])=some false:=dq (ba (call_of hw rfl rfl));have:fu [.val (az G T W)]=some (.nx [.val (az G T W)]):=by
  unfold fu;rw[bz hc]
 show (fu [.val (az G T W)]).map _=_;rw[this];rfl
def ue(h1:a<=i)(h2:i<=b):dG [.int i,.int a,.int b]=some .none:=by
 have hw:bL [.int i,.int a,.int b]=some (.bool true):=by rw[dR rfl];simp[whole,h1,h2]
 have hc:WY (aG [.val (.int i),.val (.int a),.val (.int b)])=some false:=dq (ba (call_of hw rfl rfl));have:cO [.val (.int i),.val (.int a),.val (.int b)]=some (.nx [.val (.int i),.val (.int a),.val (.int b)]):=by
  unfold cO;rw[bz hc]
 show (cO [.val (.int i),.val (.int a),.val (.int b)]).map _=_;rw[this];rfl
def sf(h1:0<=i)(h2:i<=n - 1):dg [.int i,.int n]=some .none:=by
 have:cy [.val (.int i),.val (.int n)]=some (.nx [.val (.int i),.val (.int n)]):=by
  unfold cy;exact gU (call_of (ue h1 h2) (cons_of rfl (cons_of rfl (cons_of (ar (sub_int n 1) rfl rfl) rfl))) rfl)
 show (cy [.val (.int i),.val (.int n)]).map _=_;rw[this];rfl
def nW(b:Bool):dy [.int (sI b)]=some .none:=by
 have:gn [.val (.int (sI b))]=some (.nx [.val (.int (sI b))]):=by
  unfold gn;exact gU (call_of (sf (n:=2) (i:=sI b) (by cases b<;>decide) (by cases b<;>decide)) rfl rfl)
 show (gn [.val (.int (sI b))]).map _=_;rw[this];rfl
abbrev Sp:=List (Nat×Int)×List Int
def M0(G T:List Pl)(W:List Wy)(s:Sp):Bool:=(tV G T W s.2).isSome
def spS(G T:List Pl)(W:List Wy)(s:Sp):Sp:=match tV G T W s.2 with|some p=>(s.1++[p],s.2.set p.1 p.2)|none=>s
def low(c:List Int)(p:Nat×Int):List Int:=c.set p.1 p.2
structure Bs(W:List Wy)(s:Sp):Prop where
 len:s.2.length=W.length
 off:Off s.2
 eq:s.2=s.1.foldl low (dZ W)
 bd:s.1.length+VQ s.2<=VQ (dZ W)
 mem:∀p∈s.1,p.1 < W.length
def Bs.start(h:Wd G T W):Bs W ([],dZ W):=⟨oC W,Mb h,rfl,by simp,λp hp=>by cases hp⟩
def tE(e:tV G T W s.2=some p):spS G T W s=(s.1++[p],s.2.set p.1 p.2):=by
 unfold spS;rw[e]
def Bs.step(h:Wd G T W)(i:Bs W s)(e:tV G T W s.2=some p):Bs W (spS G T W s)/\VQ (spS G T W s).2 < VQ s.2:=by
 let⟨h1,h2,h3⟩:=C4 h i.off e;have hm:=D6 h2 h3;rw[tE e];refine⟨⟨by simp[i.len],Dz i.off h2,?_,?_,λq hq=>?_⟩,hm⟩
 ·rw[vK,<- i.eq];rfl
 ·have:=i.bd;simp?[zN,xD];lia
 ·rcases List.mem_append.mp hq with z|z
  ·exact i.mem q z
  ·rw[yK] at z;rw[z];exact h1
def Wd.VQ(h:Wd G T W):VQ (dZ W)<=144:=by
 have:=CZ (W:=W) λw hw=>(h.wr w hw).2.2.2;have:=h.wl;lia
def tU(r:List (Nat×Int)):List D:=(r.map λp=>[((p.1:Nat):Int),p.2]).map af
def LM(r:List (Nat×Int))(p:Nat×Int):tU (r++[p])=tU r++[CN (some p)]:=by simp[tU];rfl
def Ly(r:List (Nat×Int)):(tU r).length=r.length:=by simp[tU]
def fin(G T:List Pl)(W:List Wy):Sp:=lp (M0 G T W) (spS G T W) Rf.turns ([],dZ W)
def RQ:au->Option Out:=(aw (iR 1 [3] (ae 3)) (aw (Dl.aI 2 [2,3] (aj 3 fg (aa (ae 2) (aa (f2 ay (ae 3) (fC (.int 0))) (aa (f2 ay (ae 3) (fC (.int 1))) ag))))) (Dl.aI 3 [0,2] (aj 2 iW (aa (ae 0) (aa (ae 2) ag))))))
def MV(G T:List Pl)(W:List Wy)(s:Sp):au:=[.val (az G T W),.own (tU s.1),.val (af s.2),.val (CN (tV G T W s.2))]
def K6(h:Wd G T W)(i:Bs W s)(e:tV G T W s.2=some p):RQ (MV G T W s)=some (.nx (MV G T W (spS G T W s))):=by
 let⟨h1,h2,h3⟩:=C4 h i.off e;let⟨i2,hm⟩:=i.step h e;have hb:=h.VQ;have hbd:=i.bd;have hw:=h.wl;have t1:iR 1 [3] (ae 3) (MV G T W s)=some (.nx [.val (az G T W),.own (tU s.1++[CN (some p)]),.val (af s.2),.val (CN (some p))]):=by
  unfold MV;rw[e];exact Oa rfl rfl rfl rfl (by rw[Ly];lia)
 have adi:∀ρ:Dl.Env,ae 2 ρ=some (af s.2)->ae 3 ρ=some (CN (some p))->(aj 3 fg (aa (ae 2) (aa (f2 ay (ae 3) (fC (.int 0))) (aa (f2 ay (ae 3) (fC (.int 1))) ag)))) ρ=some (af (s.2.set p.1 p.2)):=λρ a b =>
  call_of (uD (c:=s.2) (i:=p.1) (v:=p.2) (by rw[i.len];exact h1) (by rw[i.len];lia)) (cons_of a (cons_of (ar (Te _ _) b rfl) (cons_of (ar (RN _ _ _) b rfl) rfl))) rfl
 have t2:Dl.aI 2 [2,3] (aj 3 fg (aa (ae 2) (aa (f2 ay (ae 3) (fC (.int 0))) (aa (f2 ay (ae 3) (fC (.int 1))) ag)))) [.val (az G T W),.own (tU s.1++[CN (some p)]),.val (af s.2),.val (CN (some p))]=some (.nx [.val (az G T W),.own (tU s.1++[CN (some p)]),.val (af (s.2.set p.1 p.2)),.val (CN (some p))]) :=
  bB (adi _ rfl rfl) (adi _ rfl rfl) rfl
 have hl2:(s.2.set p.1 p.2).length=W.length:=by rw[yC,i.len]
 have t3:Dl.aI 3 [0,2] (aj 2 iW (aa (ae 0) (aa (ae 2) ag))) [.val (az G T W),.own (tU s.1++[CN (some p)]),.val (af (s.2.set p.1 p.2)),.val (CN (some p))]=some (.nx [.val (az G T W),.own (tU s.1++[CN (some p)]),.val (af (s.2.set p.1 p.2)),.val (CN (tV G T W (s.2.set p.1 p.2)))]) :=
  bB (call_of (lS h hl2) rfl rfl) (call_of (lS h hl2) rfl rfl) rfl
 unfold RQ;rw[ak t1,ak t2,t3,tE e];unfold MV;rw[LM]
def oz(h:M0 G T W s=true):∃p,tV G T W s.2=some p:=Option.isSome_iff_exists.mp h
def KE(h:Wd G T W):wb [az G T W]=some (.list (tU (fin G T W).1))/\Bs W (fin G T W):=by
 have hb:=h.VQ;have t1:aQ 1 [] Yv [.val (az G T W),.Ux,.Ux,.Ux]=some (.nx [.val (az G T W),.own [],.Ux,.Ux]):=cP (f:=eX ag) (ds:=[]) (show small []=some [] from bw (by simp)) rfl;have t2:Dl.aI 2 [0] Yw [.val (az G T W),.own [],.Ux,.Ux]=some (.nx [.val (az G T W),.own [],.val (af (dZ W)),.Ux]) :=
  bB (call_of (nI h) rfl rfl) (call_of (nI h) rfl rfl) rfl
 have t3:Dl.aI 3 [0,2] abX [.val (az G T W),.own [],.val (af (dZ W)),.Ux]=some (.nx (MV G T W ([],dZ W))) :=
  bB (call_of (lS h (oC W)) rfl rfl) (call_of (lS h (oC W)) rfl rfl) rfl
 let⟨ρ',ew,⟨rfl,iv⟩,_⟩:=Af (t:=abZ) (gb:=RQ) (R:=λs ρ=>ρ=MV G T W s/\Bs W s) (M0 G T W) (spS G T W) (λs=>VQ s.2)
  (λs ρ ⟨VW,i⟩=>by
   subst VW;exact ba (ar (L7 _) rfl rfl))
  (λs ρ ⟨VW,i⟩ hc=>by
   subst VW;let⟨p,e⟩:=oz hc;exact⟨_,K6 h i e,⟨rfl,(i.step h e).1⟩,(i.step h e).2⟩)
  Rf.turns ([],dZ W) (MV G T W ([],dZ W)) (jB hb (by decide)) ⟨rfl,Bs.start h⟩
 refine⟨?_,iv⟩;refine aE ?_;show yf [.val (az G T W),.Ux,.Ux,.Ux]=_;unfold yf;rw[ak t1,ak t2,ak t3];refine (ak ew).trans ?_;exact aF rfl
def Lz(c:List Int)(p:Nat×Int):(low c p).length=c.length:=by simp[low]
def G9(h:Wd G T W)(hr:∀p∈r,p.1 < W.length):rH [az G T W,.list (tU r)]=some (af (r.foldl low (dZ W))):=by
 have hw:=h.wl;have t2:Dl.aI 2 [0] Yw [.val (az G T W),.val (.list (tU r)),.Ux,.Ux,.Ux]=some (.nx [.val (az G T W),.val (.list (tU r)),.val (af (dZ W)),.Ux,.Ux]) :=
  bB (call_of (nI h) rfl rfl) (call_of (nI h) rfl rfl) rfl
 let⟨ρ',e3,VN,x,y,rfl⟩:=nL (tgt:=gz 3 4) (gb:=Dl.aI 2 [2,3,4] aau) (R:=λ(c:List Int) ρ=>c.length=W.length/\∃x y,ρ=[.val (az G T W),.val (.list (tU r)),.val (af c),x,y]) (λp:Nat×Int=>af [((p.1:Nat):Int),p.2]) low
  (l:=r) (s:=dZ W) (ρ:=[.val (az G T W),.val (.list (tU r)),.val (af (dZ W)),.Ux,.Ux])
  (λc ρ p hp ⟨hc,x,y,VW⟩=>by
   subst VW;have el:=uD (c:=c) (i:=p.1) (v:=p.2) (by rw[hc];exact hr p hp) (by lia);have t:Dl.aI 2 [2,3,4] aau [.val (az G T W),.val (.list (tU r)),.val (af c),.val (nD p.1),.val (.int p.2)]=some (.nx [.val (az G T W),.val (.list (tU r)),.val (af (low c p)),.val (nD p.1),.val (.int p.2)]) :=
    bB (call_of el rfl rfl) (call_of el rfl rfl) rfl
   exact⟨_,_,rfl,t,by rw[Lz,hc],_,_,rfl⟩) ⟨oC W,_,_,rfl⟩
 refine aE ?_;show sS [.val (az G T W),.val (.list (tU r)),.Ux,.Ux,.Ux]=_;unfold sS;rw[ak t2];refine (ak (br e3 ?_ rfl)).trans (aF rfl);show some (tU r)=_;rw[tU,zM];rfl
def uc(h:Wd G T W):aY [az G T W]=some (af (bA false G T W (fin G T W).2)):=by
 let⟨e1,i⟩:=KE h;have e2:=G9 h i.mem;rw[<- i.eq] at e2;refine aE ?_;show iy [.val (az G T W)]=_;unfold iy;refine (ak (gU (call_of (cR h) rfl rfl))).trans ?_;exact aF (call_of (fO h i.len false) (cons_of rfl (cons_of rfl (cons_of (call_of e2 (cons_of rfl (cons_of (call_of e1 rfl rfl) rfl)) rfl) rfl))) rfl)
def Ov(w:Wy):Wy:=(w.2.1,w.1,w.2.2)
structure Ord(W:List Wy)(π:List Nat):Prop where
 perm:π.Perm (List.range W.length)
 up:π.Pairwise λi j=>(aC W i).2.1 < (aC W j).2.1\/((aC W i).2.1=(aC W j).2.1/\(aC W i).1 < (aC W j).1)
def eF(W:List Wy)(π:List Nat):List Wy:=π.map λi=>Ov (aC W i)
def mr(P:List Int)(π:List Nat):List Int:=π.map λi=>P.getD i 0
def Ord.len(o:Ord W π):π.length=W.length:=by rw[o.perm.length_eq,zR]
def Ord.lt(o:Ord W π)(hk:k < W.length):π.getD k 0 < W.length:=by
 have h:k < π.length:=by rw[o.len];exact hk
 have:=o.perm.mem_iff.mp (qC h);rw[zG,zK h];simpa using this
def Ord.ex(o:Ord W π)(hi:i < W.length):∃k,k < W.length/\π.getD k 0=i:=by
 have:i∈π:=o.perm.mem_iff.mpr (by simpa using hi);let⟨k,hk,e⟩:=qT this;exact⟨k,by rw[<- o.len];exact hk,by rw[zG,zK hk];exact e⟩
def cI(o:Ord W π):(eF W π).length=W.length:=by simp[eF,o.len]
def L5(o:Ord W π):(mr P π).length=W.length:=by simp[mr,o.len]
def fT(o:Ord W π)(hk:k < W.length):aC (eF W π) k=Ov (aC W (π.getD k 0)):=by
 have h:k < π.length:=by rw[o.len];exact hk
 simp[aC,eF,h,zG]
def m7(o:Ord W π)(hk:k < W.length):(mr P π).getD k 0=P.getD (π.getD k 0) 0:=by
 have h:k < π.length:=by rw[o.len];exact hk
 simp[mr,h,zG]
def qv(b:Bool)(w:Wy):aP (!b) (Ov w)=aP b w:=by cases b<;>rfl
def wz(b:Bool)(w:Wy):bE (!b) (Ov w)=bE b w:=by cases b<;>rfl
def Ord.ris(o:Ord W π):uy (eF W π):=by
 unfold uy eF;rw[jG];exact o.up
def M9(h:uy W)(hi:i < W.length)(hj:j < W.length)(e:(aC W i).1 < (aC W j).1\/((aC W i).1=(aC W j).1/\(aC W i).2.1 < (aC W j).2.1)):i < j:=by
 rcases Nat.lt_or_ge i j with q|q
 ·exact q
 ·exfalso;rcases Nat.eq_or_lt_of_le q with q|q
  ·subst q;lia
  ·have:=List.pairwise_iff_getElem.mp h j i hj hi q;rw[j1 hi,j1 hj] at this;lia
def Cu(p:l.Perm (List.range n))(h:l.Pairwise (· < ·)):l=List.range n:=by
 refine iF (λi=>((i:Nat):Int)) p (h.imp λ{a b} q=>by lia) (List.pairwise_lt_range.imp λ{a b} q=>by lia)
def map_getD(l:List Nat):(List.range l.length).map (λk=>l.getD k 0)=l:=by
 apply jJ
 ·simp
 ·intro i h1 h2;simp[h2]
def Ord.back(h:uy W)(o:Ord W π)(o':Ord (eF W π) YC):YC.map (λk=>π.getD k 0)=List.range W.length:=by
 have hl:(eF W π).length=W.length:=cI o;refine Cu ?_ ?_
 ·have:=(o'.perm.map λk=>π.getD k 0)
  rw[hl,<- o.len,map_getD] at this;exact this.trans o.perm
 ·rw[jG];refine o'.up.imp_of_mem λ{i j} hi hj q=>?_;have U5:i < W.length:=by have:=o'.perm.mem_iff.mp hi;rw[hl] at this;simpa using this
  have Wt:j < W.length:=by have:=o'.perm.mem_iff.mp hj;rw[hl] at this;simpa using this
  rw[fT o U5,fT o Wt] at q;exact M9 h (o.lt U5) (o.lt Wt) q
def yk(h:uy W)(o:Ord W π)(o':Ord (eF W π) YC):eF (eF W π) YC=W:=by
 have hl:(eF W π).length=W.length:=cI o;have e:eF (eF W π) YC=(YC.map λk=>π.getD k 0).map λi=>aC W i:=by
  unfold eF;rw[zM];refine yI λk hk=>?_;have U0:k < W.length:=by have:=o'.perm.mem_iff.mp hk;rw[hl] at this;simpa using this
  have:=fT o U0;unfold eF at this;rw[this];rfl
 rw[e,o.back h o'];have:=map_range (0,0,0) (λw:Wy=>w) W;simpa [aC] using this
def Kj(h:uy W)(o:Ord W π)(o':Ord (eF W π) YC)(hp:P.length=W.length):mr (mr P π) YC=P:=by
 have hl:(eF W π).length=W.length:=cI o;have e:mr (mr P π) YC=(YC.map λk=>π.getD k 0).map λi=>P.getD i 0:=by
  rw[zM];unfold mr;refine yI λk hk=>?_;have U0:k < W.length:=by have:=o'.perm.mem_iff.mp hk;rw[hl] at this;simpa using this
  have:=m7 (P:=P) o U0;unfold mr at this;rw[this];rfl
 rw[e,o.back h o',<- hp];have:=map_range 0 (λx:Int=>x) P;simpa using this
def HN(o:Ord W π)(b:Bool)(p:Int):((own (!b) (eF W π) p).map λk=>π.getD k 0).Perm (own b W p):=by
 have hl:(eF W π).length=W.length:=cI o;have e:((own (!b) (eF W π) p).map λk=>π.getD k 0)=π.filter λi=>decide (aP b (aC W i)=p):=by
  conv=>rhs;rw[<- map_getD π,kL,o.len]
  unfold own;rw[hl]
  congr 1
  refine List.filter_congr λk hk=>?_;have U0:k < W.length:=by simpa using hk
  rw[fT o U0,qv];rfl
 rw[e];exact o.perm.filter _
def II(o:Ord W π)(b:Bool)(p:Int):(PF (!b) (eF W π) p).Perm (PF b W p):=by
 have hl:(eF W π).length=W.length:=cI o;rw[<- lT,<- lT];have:=(HN o b p).map λi=>bE b (aC W i);rw[zM] at this;refine List.Perm.trans (List.Perm.of_eq ?_) this;refine yI λk hk=>?_;have U0:k < W.length:=by have:=(bY.mp hk).1;rwa [hl] at this
 show bE (!b) (aC (eF W π) k)=bE b (aC W (π.getD k 0));rw[fT o U0,wz]
def Ord.wd(h:Wd G T W)(o:Ord W π):Wd T G (eF W π) where
 g1:=h.t1
 g4:=h.t4
 t1:=h.g1
 t4:=h.g4
 ga:=h.ta
 ta:=h.ga
 gl:=λi p e=>(h.tl i p e).trans (II o true i).symm
 tl:=λi p e=>(h.gl i p e).trans (II o false i).symm
 wr:=λw hw=>by
  let⟨i,hi,rfl⟩:=List.mem_map.mp hw;have U5:i < W.length:=by have:=o.perm.mem_iff.mp hi;simpa using this
  have:=h.wr (aC W i) (by rw[<- j1 U5];exact qC _);exact⟨this.2.1,this.1,this.2.2⟩
 wp:=o.ris
 wl:=by rw[cI o];exact h.wl
def rz(b:Bool)(G T:List Pl):aR (!b) T G=aR b G T:=by cases b<;>rfl
def yw(b:Bool)(G T:List Pl)(i:Nat):bM (!b) T G i=bM b G T i:=by unfold bM;rw[rz]
def ix(b:Bool)(W:List Wy)(P:List Int)(p:Int):Int:=((own b W p).map λi=>P.getD i 0).sum
def AY{l m:List Int}(p:l.Perm m):l.sum=m.sum:=by
 induction p with
 | nil=>rfl
 | cons x _ ih=>simp[ih]
 | swap x y l=>simp?[kH];lia
 | trans _ _ h1 h2=>exact h1.trans h2
def Il(o:Ord W π)(b:Bool)(p:Int):ix (!b) (eF W π) (mr P π) p=ix b W P p:=by
 have hl:(eF W π).length=W.length:=cI o;have:=AY ((HN o b p).map λi=>P.getD i 0);unfold ix;rw[<- this,zM]
 congr 1
 refine yI λk hk=>?_;have U0:k < W.length:=by have:=(bY.mp hk).1;rwa [hl] at this
 exact m7 o U0
def IX(h:Wd G T W)(o:Ord W π){b:Bool}{i:Nat}{p:Pl}(e:(aR b G T)[i]?=some p){x:Int}(hx:x∈p.2):oh (!b) (eF W π) i x < W.length/\π.getD (oh (!b) (eF W π) i x) 0=oh b W i x:=by
 have e':(aR (!b) T G)[i]?=some p:=by rw[rz];exact e
 let⟨h1,h2,h3⟩:=hZ (o.wd h) e' hx;let⟨g1,g2,g3⟩:=hZ h e hx;rw[cI o] at h1;rw[fT o h1,qv] at h2;rw[fT o h1,wz] at h3;exact⟨h1,Be h.wp (o.lt h1) g1 (by rw[h2,g2]) (by rw[h3,g3])⟩
def mi(L:List Int)(x:Int):Nat:=L.findIdx λo=>decide (o=x)
def pX(b:Bool)(G T:List Pl)(W:List Wy)(P:List Int)(k:Nat):Bool :=
 decide (ix b W P (aP b (aC W k)) < (bM b G T (aP b (aC W k)).toNat).1) ||
 ((bM b G T (aP b (aC W k)).toNat).2.drop (mi (bM b G T (aP b (aC W k)).toNat).2 (bE b (aC W k))+1)).any λo=>decide (0 < P.getD (oh b W (aP b (aC W k)) o) 0)
def k4(G T:List Pl)(W:List Wy)(P:List Int)(k:Nat):Nat :=
 if P.getD k 0=(aC W k).2.2 then 0 else if pX false G T W P k=false then 1 else if pX true G T W P k=false then 2 else 3
def zp(G T:List Pl)(W:List Wy)(P:List Int):List Nat:=(List.range W.length).filter λk=>decide (k4 G T W P k=3)
def Wd.UX(h:Wd G T W)(b:Bool)(hk:k < W.length):0<=aP b (aC W k)/\(aP b (aC W k)).toNat < (aR b G T).length/\((aP b (aC W k)).toNat:Int)=aP b (aC W k):=by
 have:=h.wr (aC W k) (by rw[<- j1 hk];exact qC _);cases b
 ·simp?[aP,aR,yP,qS];lia
 ·simp?[aP,aR,xJ];lia
def uQ:∀ {l:List α},(∀x∈l,p x=q x)->l.any p=l.any q
 | [],_=>rfl
 | a::l,h=>by rw[vN,vN,h a zE,uQ λx hx=>h x (zC _ hx)]
def Jc(h:Wd G T W)(o:Ord W π)(b:Bool)(hk:k < W.length):pX (!b) T G (eF W π) (mr P π) k=pX b G T W P (π.getD k 0):=by
 let⟨h1,h2,h3⟩:=h.UX b (o.lt hk);unfold pX;rw[fT o hk,qv,wz,yw,Il o]
 congr 1
 rw[<- h3];simp?[yG];refine uQ λx hx=>?_;let⟨e1,e2⟩:=IX h o (k7 h2) (wV hx);rw[m7 o e1,e2]
def Np(h:Wd G T W)(o:Ord W π)(hk:k < W.length):(k4 T G (eF W π) (mr P π) k=3)↔(k4 G T W P (π.getD k 0)=3):=by
 have e1:=Jc (P:=P) h o false hk;have e2:=Jc (P:=P) h o true hk;simp?[Bool.not_false,qA] at e1 e2;unfold k4;rw[m7 o hk,fT o hk,e1,e2];have:(Ov (aC W (π.getD k 0))).2.2=(aC W (π.getD k 0)).2.2:=rfl;rw[this];cases pX false G T W P (π.getD k 0)<;>cases pX true G T W P (π.getD k 0)<;>simp<;>split<;>simp
def Qq(h:Wd G T W)(o:Ord W π):((zp T G (eF W π) (mr P π)).map λk=>π.getD k 0).Perm (zp G T W P):=by
 have hl:(eF W π).length=W.length:=cI o;have e:((zp T G (eF W π) (mr P π)).map λk=>π.getD k 0)=π.filter λi=>decide (k4 G T W P i=3):=by
  conv=>rhs;rw[<- map_getD π,kL,o.len]
  unfold zp;rw[hl]
  congr 1
  refine List.filter_congr λk hk=>?_;have U0:k < W.length:=by simpa using hk
  exact decide_eq_decide.mpr (Np h o U0)
 rw[e];exact o.perm.filter _
def N4(h:Wd G T W)(o:Ord W π):(zp T G (eF W π) (mr P π)=[])↔(zp G T W P=[]):=by
 have:=(Qq (P:=P) h o).length_eq;rw[zD] at this;rw[<- List.length_eq_zero_iff,<- List.length_eq_zero_iff,this]
structure Pn(G T:List Pl)(W:List Wy)(P:List Int):Prop where
 len:P.length=W.length
 bd:∀k,k < W.length->0<=P.getD k 0/\P.getD k 0<=(aC W k).2.2
 am:∀ (b:Bool) (i:Nat),i < (aR b G T).length->ix b W P i<=(bM b G T i).1
def Pn.tu(h:Wd G T W)(o:Ord W π)(p:Pn G T W P):Pn T G (eF W π) (mr P π) where
 len:=by rw[L5 o,cI o]
 bd:=λk hk=>by
  rw[cI o] at hk;rw[m7 o hk,fT o hk];exact p.bd _ (o.lt hk)
 am:=λb i hi=>by
  have:=p.am (!b) i (by rw[<- rz b T G] at hi;exact hi);rw[<- Il o (!b),<- yw (!b),Bool.not_not] at this;exact this
section
variable {off:List Int}
def DY(h:Wd G T W)(b:Bool):∀ (n:Nat),n<=(aR b G T).length ->
  ((List.range n).foldl (Au b G T W off) (List.replicate W.length 0)).length=W.length/\∀k,k < W.length ->
   ((List.range n).foldl (Au b G T W off) (List.replicate W.length 0)).getD k 0=if aP b (aC W k) < n then (tY W off (bM b G T (aP b (aC W k)).toNat).1 (eI b W (aP b (aC W k)).toNat (bM b G T (aP b (aC W k)).toNat).2)).getD k 0 else 0
 | 0,_=>by
  refine⟨by simp,λk hk=>?_⟩;let⟨h1,_,_⟩:=h.UX b hk;rw[yO (by lia)];simp[zG,hk]
 | n+1,hn=>by
  let⟨h1,h2⟩:=DY h b n (by lia);rw[wF,vK,yJ,List.foldl_nil];generalize (List.range n).foldl (Au b G T W off) (List.replicate W.length 0)=s at h1 h2;refine⟨qj h1,λk hk=>?_⟩;have hz:(Au b G T W off s n).getD k 0=s.getD k 0+(tY W off (bM b G T n).1 (eI b W n (bM b G T n).2)).getD k 0:=Aq (by lia) (by rw[yl];exact hk);rw[hz,h2 k hk];let⟨g1,_,_⟩:=h.UX b hk;have e:=k7 (b:=b) (G:=G) (T:=T) (i:=n) (by lia);by_cases he:aP b (aC W k)=n
  ·have hn':(aP b (aC W k)).toNat=n:=by lia
   rw[yO (by lia),yM (by lia),hn'];lia
  ·have YZ:k∉eI b W n (bM b G T n).2:=λz=>he (bY.mp ((dh h e).mem_iff.mp z)).2;rw[Em YZ];by_cases UQ:aP b (aC W k) < n
   ·rw[yM UQ,yM (by lia)];lia
   ·rw[yO UQ,yO (by lia)];rfl
def GK(h:Wd G T W)(b:Bool)(hk:k < W.length):(bA b G T W off).getD k 0=(tY W off (bM b G T (aP b (aC W k)).toNat).1 (eI b W (aP b (aC W k)).toNat (bM b G T (aP b (aC W k)).toNat).2)).getD k 0:=by
 have:=(DY (off:=off) h b _ (yN _)).2 k hk;let⟨_,h2,h3⟩:=h.UX b hk;rw[yM (by lia)] at this;exact this
def DJ{amt:Int}:∀ (is:List Nat) (s:Int×List Int),is.Nodup->(∀i∈is,i < s.2.length/\s.2.getD i 0=0) ->
  ((is.foldl (nj W off) s).2.length=s.2.length)/\(is.map λi=>(is.foldl (nj W off) s).2.getD i 0).sum=s.1 - (is.foldl (nj W off) s).1/\∀j,j∉is->(is.foldl (nj W off) s).2.getD j 0=s.2.getD j 0
 | [],s,_,_=>⟨rfl,by simp,λ_ _=>rfl⟩
 | i::is,s,hn,hz=>by
  rw[vD] at hn;let⟨hi,h0⟩:=hz i zE;have hs:∀j∈is,j < (nj W off s i).2.length/\(nj W off s i).2.getD j 0=0:=λj hj=>by
   let⟨a,b⟩:=hz j (zC _ hj);refine⟨by simpa [nj] using a,?_⟩;simp?[nj,cK];have UN:¬ (i=j/\j < s.2.length):=λz=>hn.1 (z.1 ▸ hj);rw[yO UN,b]
  let⟨r1,r2,r3⟩:=DJ (amt:=amt) is (nj W off s i) hn.2 hs;rw[yJ];refine⟨by rw[r1];simp[nj],?_,λj hj=>?_⟩
  ·rw[zI,kH,r2,r3 i hn.1];simp?[nj,cK];rw[yM ⟨trivial,hi⟩];lia
  ·rw[r3 j λz=>hj (zC _ z)];simp?[nj,cK];have UN:¬ (i=j/\j < s.2.length):=λz=>hj (z.1 ▸ zE);rw[yO UN]
def AS(ho:Off off)(hl:R9 W):∀ (is:List Nat) (s:Int×List Int),0<=s.1->0<=(is.foldl (nj W off) s).1
 | [],s,h=>h
 | i::is,s,h=>by
  rw[yJ];refine AS ho hl is _ ?_;simp?[nj,cV];have:=ho i;have:=hl i;lia
def Ml(h:Wd G T W)(ho:Off off)(hi:i < (aR b G T).length) :
  ((own b W i).map λk=>(tY W off (bM b G T i).1 (eI b W i (bM b G T i).2)).getD k 0).sum<=(bM b G T i).1:=by
 have e:=k7 hi;have pm:=dh h e;rw[<- AY (pm.map λk=>(tY W off (bM b G T i).1 (eI b W i (bM b G T i).2)).getD k 0)];have hn:(eI b W i (bM b G T i).2).Nodup:=pm.nodup_iff.mpr (List.nodup_range.filter _);let⟨_,r2,_⟩:=DJ (W:=W) (off:=off) (amt:=0) (eI b W i (bM b G T i).2) ((bM b G T i).1,List.replicate W.length 0) hn λk hk=>by
  have U0:=(bY.mp (pm.mem_iff.mp hk)).1;refine⟨by simpa using U0,by simp[zG,U0]⟩
 have:=AS ho h.lim (eI b W i (bM b G T i).2) ((bM b G T i).1,List.replicate W.length 0) (h.amt b i);unfold tY;rw[r2];show (bM b G T i).1 - _<=(bM b G T i).1;lia
def Ey(h:Wd G T W)(ho:Off off)(hi:i < (aR b G T).length):ix b W (bA b G T W off) i<=(bM b G T i).1:=by
 refine jW (Int.le_of_eq ?_) (Ml h ho hi);unfold ix
 congr 1
 refine yI λk hk=>?_;let⟨U0,he⟩:=bY.mp hk;have:=GK (off:=off) h b U0;rw[he,yG] at this;exact this
def E6(h:∀k,k < W.length->P.getD k 0=Q.getD k 0):ix b W P p=ix b W Q p:=by
 unfold ix
 congr 1
 exact yI λk hk=>h k (bY.mp hk).1
def Li(h:Wd G T W)(ho:Off c)(hc:∀k,k < W.length->c.getD k 0<=(aC W k).2.2)(e:tV G T W c=none):Pn G T W (bA false G T W c) where
 len:=gF _ _ _ _ _
 bd:=λk hk=>⟨jq h ho false k,jW (BG h ho false hk) (hc k hk)⟩
 am:=λb i hi=>by
  cases b
  ·exact Ey h ho hi
  ·have hke:∀k,k < W.length->(kl G T W c).getD k 0=(bA false G T W c).getD k 0:=λk hk=>by
    have h1:=BG h (jq h ho false) true hk;have h2:qR G T W c k=false:=by
     unfold tV at e;rw[Option.map_eq_none_iff] at e;have:=List.find?_eq_none.mp e k (by simpa using hk);simpa using this
    unfold qR at h2;have h3:=Zd h2;unfold kl at h3 ⊢;lia
   rw[<- E6 hke];exact Ey h (jq h ho false) hi
end
def NZ(G T:List Pl)(W:List Wy)(P:List Int):Bool :=
 ((List.range G.length).all λi=>decide (ix false W P i<=(bM false G T i).1))&&((List.range T.length).all λi=>decide (ix true W P i<=(bM true G T i).1))
def zs(n:Nat):List Int:=List.replicate n 0
section
variable {W:List Wy}{G T:List Pl}{d:Nat->Int}
end
def uH{tt:Dl.Env->Option Bool}{te:Dl.Env->Option D}{r:List (Option D)}{x y h:Nat->D}{p:Nat->Bool}:∀ (is:List Nat),
  (∀i∈is,tt (some (x i)::some (y i)::r)=some (p i)/\(p i=true->te (some (x i)::some (y i)::r)=some (h i))) ->
  cD (gh 0 1) tt te (none::none::r) (is.map λi=>.tuple [x i,y i])=some ((is.filter p).map h)
 | [],_=>rfl
 | i::is,hh=>by
  let⟨h1,h2⟩:=hh i zE;have ih:=uH is λj hj=>hh j (zC _ hj);have hg:gh 0 1 (none::none::r) (.tuple [x i,y i])=some (some (x i)::some (y i)::r):=by
   simp?[gh,isFree,xS,yZ,qJ,Ze,jR,xJ,yW,yX]
  rw[zI,cD,hg];simp?[zA,h1];cases hp:p i with
  | true=>simp[h2 hp,ih,hp]
  | false=>simp[ih,hp]
def gS{cs:List Nat}{fi:Dl.Env->Option (List D)}{tt:Dl.Env->Option Bool}{te:Dl.Env->Option D}{ρ:Dl.Env}{n:Nat}{x y h:Nat->D}{p:Nat->Bool}(Vx:fi ρ=some ((List.range n).map λi=>.tuple [x i,y i]))(hl:n<=1000)
  (hh:∀i,i < n->tt (some (x i)::some (y i)::cs.map λj=>(ρ[j]?).getD none)=some (p i)/\(p i=true->te (some (x i)::some (y i)::cs.map λj=>(ρ[j]?).getD none)=some (h i))) :
  aq 2 cs fi (gh 0 1) tt te ρ=some (((List.range n).filter p).map h):=by
 have:=uH (tt:=tt) (te:=te) (r:=cs.map λj=>(ρ[j]?).getD none) (p:=p) (h:=h) (List.range n) λi hi=>hh i (by simpa using hi);simp?[aq,Vx,zA,eL,List.replicate,xH,xQ,this];refine bw ?_;rw[zD];refine yD (xR _ _) ?_;rw[zR];lia
def u6{W:List Wy}{P:List Int}(h:P.length=W.length):iY (W.map ao) (P.map PyData.int)=(List.range W.length).map λi=>.tuple [ao (aC W i),.int (P.getD i 0)]:=by
 apply List.ext_getElem?;intro i;by_cases hi:i < W.length
 ·have hz:i < (iY (W.map ao) (P.map PyData.int)).length:=by rw[oA];simp[h];exact hi
  rw[zK hz];let⟨x,y,e1,e2,e3⟩:=r9 (zK hz);rw[zO,n5 hi] at e1;rw[zO,zK (by lia)] at e2;cases e1;have e2:PyData.int P[i]=y:=by simpa using e2
  rw[e3,<- e2];have:i < P.length:=by lia
  simp[hi,this,zG]
 ·rw[jO (by rw[oA];simp;lia),jO (by simp;lia)]
def Sm(P:List Int):Prop:=∀k,-1000000<=P.getD k 0/\P.getD k 0<=1000000
def Eb(hs:Sm P)(hw:W.length<=16)(b:Bool)(p:Int):ML ((own b W p).map λi=>P.getD i 0)=true:=by
 unfold ML;rw[zF,zJ,xI];refine⟨?_,λx hx=>?_⟩
 ·have:=w4 b W p;rw[zD];lia
 ·let⟨i,_,rfl⟩:=List.mem_map.mp hx;rw[zF,zJ,zJ];exact hs i
def pj(h:Wd G T W)(hp:P.length=W.length)(hs:Sm P)(b:Bool)(p:Int):dU [az G T W,af P,.int (sI b),.int p]=some (.int (ix b W P p)):=by
 have hw:=h.wl;refine aE ?_;show vd [.val (az G T W),.val (af P),.val (.int (sI b)),.val (.int p)]=_;have hz:eK (aa (f2 ay (ae 0) (fC (.int 2))) (aa (ae 1) ag)) [some (az G T W),some (af P),some (.int (sI b)),some (.int p)]=some ((List.range W.length).map λi=>.tuple [ao (aC W i),.int (P.getD i 0)]):=by
  rw[<- u6 hp];rfl
 have c:aq 2 [2,3] (eK (aa (f2 ay (ae 0) (fC (.int 2))) (aa (ae 1) ag))) (gh 0 1) (fB (f2 bC (f2 ay (ae 0) (ae 2)) (ae 3))) (ae 1) [some (az G T W),some (af P),some (.int (sI b)),some (.int p)]=some ((own b W p).map λi=>.int (P.getD i 0)):=by
  rw[gS (p:=λi=>decide (aP b (aC W i)=p)) (h:=λi=>.int (P.getD i 0)) hz (by lia) λi hi=>⟨?_,λ_=>rfl⟩]
  ·rfl
  ·show fB (f2 bC (f2 ay (ae 0) (ae 2)) (ae 3)) [some (ao (aC W i)),some (.int (P.getD i 0)),some (.int (sI b)),some (.int p)]=_;exact ba (by rw[i8 (a:=.int (aP b (aC W i))) (b:=.int p) (ar (nY b _) rfl rfl) rfl,bU])
 refine aF ?_;have e:((own b W p).map λi=>PyData.int (P.getD i 0))=((own b W p).map λi=>P.getD i 0).map PyData.int:=by rw[zM];rfl
 show bD uf (aa (bS (aq 2 [2,3] (eK (aa (f2 ay (ae 0) (fC (.int 2))) (aa (ae 1) ag))) (gh 0 1) (fB (f2 bC (f2 ay (ae 0) (ae 2)) (ae 3))) (ae 1))) ag) [some (az G T W),some (af P),some (.int (sI b)),some (.int p)]=_;rw[e] at c;simp?[bD,aa,ag,bS,c,zB,zA];show uf [.list (((own b W p).map λi=>P.getD i 0).map PyData.int)]=_;simp?[uf,eO,oneOf,gf,zA,cn,Eb hs hw b p,xJ];rfl
def j4(L:List Pl):bH 0 (L.map aW)=(List.range L.length).map λi=>.tuple [nD i,aW (L.getD i (0,[]))]:=by
 rw[enum_zip];apply jJ
 ·simp
 ·intro i h1 h2;have:i < L.length:=by simpa using h2
  simp[this,zG]
def uW(is:List Nat):lu [.list (is.map λi=>.bool (p i))]=some (.bool (is.all p)):=by
 have:∀is:List Nat,boolsOf (is.map λi=>PyData.bool (p i))=some (is.map p):=λis=>by
  induction is with
  | nil=>rfl
  | cons i is ih=>simp[boolsOf,ih]
 simp?[lu,oneOf,zA,this,zB,List.all_map];rfl
def Eh(h:Wd G T W)(hp:P.length=W.length)(hs:Sm P)(b:Bool):dM [az G T W,af P,.int (sI b)]=some (.bool ((List.range (aR b G T).length).all λi=>decide (ix b W P i<=(bM b G T i).1))):=by
 have hl:=h.pl b;refine aE ?_;show kr [.val (az G T W),.val (af P),.val (.int (sI b))]=_;have he:bf (aa (f2 ay (ae 0) (ae 2)) ag) [some (az G T W),some (af P),some (.int (sI b))]=some ((List.range (aR b G T).length).map λi=>.tuple [nD i,aW (bM b G T i)]):=by
  have:=j4 (aR b G T);unfold bM;rw[<- this];cases b<;>rfl
 have c:=gS (cs:=[0,1,2]) (tt:=λ_=>some true) (te:=f2 EK (aj 4 dU (aa (ae 2) (aa (ae 3) (aa (ae 4) (aa (ae 0) ag))))) (f2 ay (ae 1) (fC (.int 0)))) (p:=λ_=>true) (h:=λi=>.bool (decide (ix b W P i<=(bM b G T i).1))) he (by lia) λi hi=>⟨rfl,λ_=>ar (a:=.int (ix b W P i)) (b:=.int (bM b G T i).1) rfl (call_of (pj h hp hs b i) rfl rfl) rfl⟩
 refine aF ?_;show bD lu (aa (bS (aq 2 [0,1,2] (bf (aa (f2 ay (ae 0) (ae 2)) ag)) (gh 0 1) (λ_=>some true) (f2 EK (aj 4 dU (aa (ae 2) (aa (ae 3) (aa (ae 4) (aa (ae 0) ag))))) (f2 ay (ae 1) (fC (.int 0)))))) ag) [some (az G T W),some (af P),some (.int (sI b))]=_;simp?[bD,aa,ag,bS,c,zB,zA];rw[show (List.range (aR b G T).length).filter (λ_=>true)=List.range (aR b G T).length by simp,uW]
def JM(ha:fa ρ=some (.bool true))(hb:fb ρ=some d):mf fa fb ρ=some d:=by
 simp?[mf,ha,zA,hb]
def LB(ha:fa ρ=some (.bool false)):mf fa fb ρ=some (.bool false):=by
 simp?[mf,ha,zA]
def K0(ha:fa ρ=some (.bool a))(hb:fb ρ=some (.bool b)):mf fa fb ρ=some (.bool (a&&b)):=by
 cases a
 ·exact LB ha
 ·exact JM ha hb
def lI(h:f ρ=some d):bD g (aa f ag) ρ=g [d]:=by
 simp?[bD,aa,ag,h,zB,zA]
def rT{l:List α}(h:f ρ=some (.tuple (l.map k))):bD bZ (aa f ag) ρ=some (nD l.length):=by
 rw[lI h,EJ,zD]
def QF(W:List Wy)(P:List Int):Bool:=(List.range W.length).all λk=>decide (0<=P.getD k 0)&&decide (P.getD k 0<=(aC W k).2.2)
def Df(b:Bool)(G T:List Pl)(W:List Wy)(P:List Int):Bool:=(List.range (aR b G T).length).all λi=>decide (ix b W P i<=(bM b G T i).1)
def J5(G T:List Pl)(W:List Wy)(P:List Int):Bool:=QF W P&&(Df false G T W P&&Df true G T W P)
def wt(hp:P.length=W.length):J5 G T W P=true↔Pn G T W P:=by
 simp?[J5,QF,Df,zF,xI,zS,zJ];constructor
 ·rintro⟨h1,h2,h3⟩;exact⟨hp,h1,λb=>by cases b<;>assumption⟩
 ·intro p;exact⟨p.bd,p.am false,p.am true⟩
def Ou(P:List Int):ij (af P)=true:=rfl
def vq(h:Wd G T W)(hp:P.length=W.length)(hs:Sm P):iS [az G T W,af P]=some (.bool (J5 G T W P)):=by
 have hw:=h.wl;have hlen:(P.map PyData.int).length=W.length:=by rw[zD,hp]
 refine aE ?_;show pC [.val (az G T W),.val (af P),.Ux]=_;unfold pC;have t1:Dl.aI 2 [0] (f2 ay (ae 0) (fC (.int 2))) [.val (az G T W),.val (af P),.Ux]=some (.nx [.val (az G T W),.val (af P),.val (.tuple (W.map ao))]):=cx (d:=.tuple (W.map ao)) rfl rfl rfl rfl;rw[ak t1];have el:bX [af P,nD W.length,nD W.length]=some (.bool true):=by
  rw[show nD W.length=.int ((W.length:Nat):Int) from rfl,eP (Ou P)];simp[long,af,hp]
 have hl:∀ρ:Dl.Env,ae 2 ρ=some (.tuple (W.map ao))->bD bZ (aa (ae 2) ag) ρ=some (nD W.length):=λρ hr=>rT hr;have c1:(cC (fB (aj 3 bX (aa (ae 1) (aa (bD bZ (aa (ae 2) ag)) (aa (bD bZ (aa (ae 2) ag)) ag)))))) (aG [.val (az G T W),.val (af P),.val (.tuple (W.map ao))])=some false :=
  dq (ba (call_of el (cons_of rfl (cons_of (hl _ rfl) (cons_of (hl _ rfl) rfl))) rfl))
 rw[ak (bz c1)];have hz:eK (aa (ae 2) (aa (ae 1) ag)) [some (az G T W),some (af P),some (.tuple (W.map ao))]=some ((List.range W.length).map λi=>.tuple [ao (aC W i),.int (P.getD i 0)]):=by
  rw[<- u6 hp];rfl
 have c2:=gS (cs:=[]) (tt:=λ_=>some true) (te:=aj 3 bL (aa (ae 1) (aa (fC (.int 0)) (aa (f2 ay (ae 0) (fC (.int 2))) ag)))) (p:=λ_=>true) (h:=λk=>.bool (decide (0<=P.getD k 0)&&decide (P.getD k 0<=(aC W k).2.2))) hz (by lia)
  λi hi=>⟨rfl,λ_=>call_of (dR (d:=.int (P.getD i 0)) rfl 0 (aC W i).2.2) rfl rfl⟩
 have U8:(fB (bD lu (aa (bS (aq 2 [] (eK (aa (ae 2) (aa (ae 1) ag))) (gh 0 1) (λ_=>some true) (aj 3 bL (aa (ae 1) (aa (fC (.int 0)) (aa (f2 ay (ae 0) (fC (.int 2))) ag)))))) ag))) [some (az G T W),some (af P),some (.tuple (W.map ao))]=some (QF W P):=by
  refine ba ?_;simp?[bD,aa,ag,bS,c2,zB,zA];rw[show (List.range W.length).filter (λ_=>true)=List.range W.length by simp,uW];rfl
 have k0:=Eh h hp hs false;have k1:=Eh h hp hs true;cases hb:QF W P with
 | false =>
  rw[hb] at U8;refine eB ((bV (dq U8)).trans ?_);rw[J5,hb];exact aF rfl
 | true =>
  rw[hb] at U8;rw[ak (bz (dq U8)),J5,hb,jN];exact aF (K0 (call_of k0 rfl rfl) (call_of k1 rfl rfl))
def CT(hk:k < W.length):aC W k∈W:=j1 hk ▸ qC hk
def Pn.smP(h:Wd G T W)(p:Pn G T W P):Sm P:=λk=>by
 by_cases hk:k < W.length
 ·have:=p.bd k hk;have:=(h.wr _ (CT hk)).2.2.2;lia
 ·rw[zG,jO (by rw[p.len];lia)];simp
def uj(h:Wd G T W)(p:Pn G T W P):iS [az G T W,af P]=some (.bool true):=by
 rw[vq h p.len (p.smP h),(wt p.len).mpr p]
def vx(h:Wd G T W)(p:Pn G T W P):jy [az G T W,af P]=some .none:=by
 have:gx [.val (az G T W),.val (af P)]=some (.nx [.val (az G T W),.val (af P)]):=by
  unfold gx;refine (ak (gU (call_of (cR h) rfl rfl))).trans ?_;exact bz (dq (ba (call_of (uj h p) rfl rfl)))
 show (gx [.val (az G T W),.val (af P)]).map _=_;rw[this];rfl
def oo(W:List Wy)(i:Nat):List Int:=[(aC W i).2.1,(aC W i).1]
def g8(W:List Wy):List (List Int):=(List.range W.length).map (oo W)
def bW(W:List Wy):List Nat:=rq (λi=>rk (g8 W) ((g8 W).getD i [])) (List.range W.length) 0
def HY(z:Nat->Int)(n:Nat):rq z ((List.range n).map nD) .none=(rq z (List.range n) 0).map nD:=by
 unfold rq;rw[zD];split
 ·rfl
 ·rename_i h;rw[zM];let⟨hp,_⟩:=SP.ie (z:=z) (n:=(List.range n).length) (by lia);refine yI λi hi=>?_;have U5:i < (List.range n).length:=by have:=hp.mem_iff.mp hi;simpa using this
  rw[zR] at U5;simp[U5]
def GX(hi:i < W.length):(g8 W).getD i []=oo W i:=by
 simp[g8,hi]
def dI(h:uy W):Ord W (bW W) where
 perm:=gJ _ _ _
 up:=by
  have hp:(bW W).Perm (List.range W.length):=gJ _ _ _;have hs:(bW W).Pairwise λi j=>rk (g8 W) (oo W i)<=rk (g8 W) (oo W j):=by
   refine sU _ _ _ (λi=>rk (g8 W) (oo W i)) λi hi=>?_;rw[zR] at hi;have e:(List.range W.length).getD i 0=i:=by simp[hi]
   show rk (g8 W) ((g8 W).getD i [])=rk (g8 W) (oo W ((List.range W.length).getD i 0));rw[e,GX hi]
  have hn:(bW W).Nodup:=hp.nodup_iff.mpr List.nodup_range;refine (hs.and hn).imp_of_mem λ{i j} hi hj UU=>?_;have U5:i < W.length:=by have:=hp.mem_iff.mp hi;simpa using this
  have Wt:j < W.length:=by have:=hp.mem_iff.mp hj;simpa using this
  let⟨hle,UN⟩:=UU;have mj:oo W j∈g8 W:=List.mem_map.mpr ⟨j,by simpa using Wt,rfl⟩;have n1:Dl.lexLt (oo W j) (oo W i)=false:=by
   rw[D3 mj,xC];lia
  simp?[oo,HT.lexLt] at n1;by_cases e1:(aC W j).2.1=(aC W i).2.1
  ·rw[yM e1] at n1;by_cases e2:(aC W j).1=(aC W i).1
   ·exact absurd (v5 h Wt U5 e2 e1).symm UN
   ·rw[yO e2,xC] at n1;exact .inr ⟨e1.symm,by lia⟩
  ·rw[yO e1,xC] at n1;exact .inl (by lia)
def tup_is(h:fs ρ=some ds)(hl:ds.length<=1000):aJ fs ρ=some (.tuple ds):=by
 simp?[aJ,h,zA,bw (show ds.length<=4000 by lia),zB]
def S9(w:Wy):ay (ao w) (.int 0)=some (.int w.1):=rfl
def SB(w:Wy):ay (ao w) (.int 1)=some (.int w.2.1):=rfl
def lx(h:Wd G T W):bF [az G T W]=some (.list ((bW W).map nD)):=by
 have hw:=h.wl;have t1:Dl.aI 1 [0] (f2 ay (ae 0) (fC (.int 2))) [.val (az G T W),.Ux]=some (.nx [.val (az G T W),.val (.tuple (W.map ao))]):=cx (d:=.tuple (W.map ao)) rfl rfl rfl rfl;have hl:(bD bZ (aa (ae 1) ag)) [some (az G T W),some (.tuple (W.map ao))]=some (nD W.length):=rT (l:=W) (k:=ao) rfl;have hk:ji (aJ (aa (f2 ay (f2 ay (ae 1) (ae 0)) (fC (.int 1))) (aa (f2 ay (f2 ay (ae 1) (ae 0)) (fC (.int 0))) ag))) [none,some (.tuple (W.map ao))] ((List.range W.length).map nD)=some (((List.range W.length).map nD).map λd=>af (oo W (jl d).toNat)):=by
  refine oU λd hd=>?_;let⟨j,hj,rfl⟩:=List.mem_map.mp hd;have Wt:j < W.length:=by simpa using hj
  have a:∀ρ:Dl.Env,ae 1 ρ=some (.tuple (W.map ao))->ae 0 ρ=some (nD j)->(f2 ay (ae 1) (ae 0)) ρ=some (ao (aC W j)):=λρ e1 e2=>ar (oW Wt) e1 e2;show aJ (aa (f2 ay (f2 ay (ae 1) (ae 0)) (fC (.int 1))) (aa (f2 ay (f2 ay (ae 1) (ae 0)) (fC (.int 0))) ag)) [some (nD j),some (.tuple (W.map ao))]=_;have c2:(aa (f2 ay (f2 ay (ae 1) (ae 0)) (fC (.int 1))) (aa (f2 ay (f2 ay (ae 1) (ae 0)) (fC (.int 0))) ag)) [some (nD j),some (.tuple (W.map ao))]=some [.int (aC W j).2.1,.int (aC W j).1] :=
   cons_of (ar (SB (aC W j)) (a _ rfl rfl) rfl) (cons_of (ar (S9 (aC W j)) (a _ rfl rfl) rfl) rfl)
  rw[tup_is c2 (by simp)];simp[jl,oo,af]
 have hr:rowsOf (((List.range W.length).map nD).map λd=>af (oo W (jl d).toNat))=some (g8 W):=by
  have e:(((List.range W.length).map nD).map λd=>af (oo W (jl d).toNat))=(g8 W).map af:=by
   simp?[zM,g8];refine yI λj hj=>?_;simp[jl]
  rw[e,mC];intro ns V1;let⟨j,_,rfl⟩:=List.mem_map.mp V1;exact List.cons_ne_nil _ _
 refine aE ?_;show gP [.val (az G T W),.Ux]=_;unfold gP;rw[ak t1];refine aF ?_;have es:tj [1] (aa (bD bZ (aa (ae 1) ag)) ag) (aJ (aa (f2 ay (f2 ay (ae 1) (ae 0)) (fC (.int 1))) (aa (f2 ay (f2 ay (ae 1) (ae 0)) (fC (.int 0))) ag))) [some (az G T W),some (.tuple (W.map ao))]=some ((bW W).map nD):=by
  unfold tj;rw[cons_of hl rfl,zA];show (if (0:Int)<=((W.length:Nat):Int)/\((W.length:Nat):Int) < 64 then _ else none)=_;rw[yM ⟨by lia,by lia⟩,yG];show (ji _ [none,some (.tuple (W.map ao))] ((List.range W.length).map nD)).bind _=_;rw[hk,zA,hr,zB];exact jE some (HY _ _)
 show bS _ [some (az G T W),some (.tuple (W.map ao))]=_;simp?[bS,es,zB]
def dX{cs:List Nat}{fi:Dl.Env->Option (List D)}{te:Dl.Env->Option D}{ρ:Dl.Env}{is:List Nat}{f:Nat->D}(Vx:fi ρ=some (is.map nD))(hl:is.length<=1000)(hh:∀i∈is,te (some (nD i)::cs.map λj=>(ρ[j]?).getD none)=some (f i)):aq 1 cs fi (fG 0) (λ_=>some true) te ρ=some (is.map f):=by
 rw[cw (h:=λd=>f (jl d).toNat) Vx (by rw[zD];lia) λd hd=>?_]
 ·rw[zM];refine jE some (yI λi _=>?_);simp[jl]
 ·let⟨i,hi,rfl⟩:=List.mem_map.mp hd;rw[hh i hi];simp[jl]
def nZ(h:m ds=some (.list es))(hf:fs ρ=some ds)(hn:ds.length=n):aO (aj n m fs) ρ=some es:=by
 simp?[aO,call_of h hf hn,zA,gf]
def Dw(h:uy W)(hi:i∈bW W):i < W.length:=by
 have:=(dI h).perm.mem_iff.mp hi;simpa using this
def Ac(h:uy W):(bW W).length=W.length:=(dI h).len
abbrev ZO:=(aa (ae 1) abW)
def pH:∀ (l:List Wy),cD (J7 0 1 2) (λ_=>some true) (aJ ZO) (none::none::none::r) (l.map ao)=some ((l.map Ov).map ao)
 | []=>rfl
 | w::l=>by
  have ih:=pH (r:=r) l;have hg:J7 0 1 2 (none::none::none::r) (ao w)=some (some (.int w.1)::some (.int w.2.1)::some (.int w.2.2)::r):=rfl;rw[zI,cD,hg,zA];have e:aJ ZO (some (.int w.1)::some (.int w.2.1)::some (.int w.2.2)::r)=some (ao (Ov w)):=rfl;simp?[zA,xJ,e,ih,zB,zI]
def Bh(h:Wd G T W):rV [az G T W]=some (az T G (eF W (bW W))):=by
 have hw:=h.wl;have hn:=Ac h.wp;refine aE ?_;show sy [.val (az G T W),.Ux]=_;unfold sy;refine (ak (gU (call_of (cR h) rfl rfl))).trans ?_;have c:aq 1 [0] (aO (aj 1 bF (aa (ae 0) ag))) (fG 0) (λ_=>some true) (f2 ay (f2 ay (ae 1) (fC (.int 2))) (ae 0)) [some (az G T W),none]=some ((bW W).map λi=>ao (aC W i)) :=
  dX (nZ (lx h) rfl rfl) (by lia) λi hi=>ar (oW (Dw h.wp hi)) rfl rfl
 have t2:aQ 1 [0] (aq 1 [0] (aO (aj 1 bF (aa (ae 0) ag))) (fG 0) (λ_=>some true) (f2 ay (f2 ay (ae 1) (fC (.int 2))) (ae 0))) [.val (az G T W),.Ux]=some (.nx [.val (az G T W),.own ((bW W).map λi=>ao (aC W i))]):=cP c rfl;rw[ak t2];refine aF ?_;have e3:aq 3 [] (aO (ae 1)) (J7 0 1 2) (λ_=>some true) (aJ (aa (ae 1) (aa (ae 0) (aa (ae 2) ag)))) [some (az G T W),some (.list ((bW W).map λi=>ao (aC W i)))]=some ((eF W (bW W)).map ao):=by
  have:=pH (r:=[]) ((bW W).map λi=>aC W i);rw[zM,zM] at this;have hf:aO (ae 1) [some (az G T W),some (.list ((bW W).map λi=>ao (aC W i)))]=some ((bW W).map λi=>ao (aC W i)):=rfl;unfold aq;rw[hf,zA];show (cD (J7 0 1 2) (λ_=>some true) (aJ (aa (ae 1) (aa (ae 0) (aa (ae 2) ag)))) [none,none,none] ((bW W).map λi=>ao (aC W i))).bind small=_;rw[show ((bW W).map λi=>ao (aC W i))=List.map (ao ∘ λi=>aC W i) (bW W) from rfl,this,zA];rw[bw (by simp;lia),eF];simp?[zM];rfl
 show aJ (aa (f2 ay (ae 0) (fC (.int 1))) (aa (f2 ay (ae 0) (fC (.int 0))) (aa (bD bp (aa (bS (aq 3 [] (aO (ae 1)) (J7 0 1 2) (λ_=>some true) (aJ (aa (ae 1) (aa (ae 0) (aa (ae 2) ag)))))) ag)) ag))) [some (az G T W),some (.list ((bW W).map λi=>ao (aC W i)))]=_;have e4:(bD bp (aa (bS (aq 3 [] (aO (ae 1)) (J7 0 1 2) (λ_=>some true) (aJ (aa (ae 1) (aa (ae 0) (aa (ae 2) ag)))))) ag)) [some (az G T W),some (.list ((bW W).map λi=>ao (aC W i)))]=some (.tuple ((eF W (bW W)).map ao)):=by
  simp?[bD,aa,ag,bS,e3,zB,zA,Cb]
 exact tup_is (ds:=[.tuple (T.map aW),.tuple (G.map aW),.tuple ((eF W (bW W)).map ao)]) (cons_of (ar (a:=az G T W) (b:=.int 1) (c:=.tuple (T.map aW)) rfl rfl rfl) (cons_of (ar (a:=az G T W) (b:=.int 0) (c:=.tuple (G.map aW)) rfl rfl rfl) (cons_of e4 rfl))) (by simp)
def uh(h:Wd G T W)(p:Pn G T W P):iK [az G T W,af P]=some (af (mr P (bW W))):=by
 have hw:=h.wl;have hn:=Ac h.wp;refine aE ?_;show iB [.val (az G T W),.val (af P)]=_;unfold iB;refine (ak (gU (call_of (vx h p) rfl rfl))).trans ?_;have c:aq 1 [1] (aO (aj 1 bF (aa (ae 0) ag))) (fG 0) (λ_=>some true) (f2 ay (ae 1) (ae 0)) [some (az G T W),some (af P)]=some ((bW W).map λi=>.int (P.getD i 0)) :=
  dX (nZ (lx h) rfl rfl) (by lia) λi hi=>ar (fQ (by rw[p.len];exact Dw h.wp hi)) rfl rfl
 refine aF ?_;show bD bp (aa (bS (aq 1 [1] (aO (aj 1 bF (aa (ae 0) ag))) (fG 0) (λ_=>some true) (f2 ay (ae 1) (ae 0)))) ag) [some (az G T W),some (af P)]=_;simp?[bD,aa,ag,bS,c,zB,zA,Cb];simp[af,mr]
def KQ(h:f ρ=some (.list ds))(h2:g ρ=some (nD k)):gE cU f (ui g) gX ρ=some (.list (ds.drop k)):=by
 have:=A1 ds k;simp?[gE,h,ui,h2,gX,gI,cU,zA,zB,this]
def FI(is:List Nat):Rf.JS [.list (is.map λi=>.bool (p i))]=some (.bool (is.any p)):=by
 have:∀is:List Nat,boolsOf (is.map λi=>PyData.bool (p i))=some (is.map p):=λis=>by
  induction is with
  | nil=>rfl
  | cons i is ih=>simp[boolsOf,ih]
 simp?[Rf.JS,oneOf,zA,this,zB,Zn];rfl
def ny(f:α->β)(p:β->Bool)(q:α->Bool):∀ (l:List α),(∀x∈l,p (f x)=q x)->(l.map f).findIdx p=l.findIdx q
 | [],_=>rfl
 | x::l,h=>by
  rw[zI,vL,vL,h x zE,ny f p q l λy hy=>h y (zC _ hy)]
def OX(h:Wd G T W){b:Bool}{i:Nat}(e:(aR b G T)[i]?=some p){k:Nat}(hk:k < W.length)(he:aP b (aC W k)=i):mW (.list ((eI b W i p.2).map nD)) (nD k)=some (nD (mi p.2 (bE b (aC W k)))):=by
 have ko:k∈own b W i:=bY.mpr ⟨hk,he⟩;have km:k∈eI b W i p.2:=(dh h e).mem_iff.mpr ko;have e1:(eI b W i p.2).map nD=((eI b W i p.2).map λj=>((j:Nat):Int)).map PyData.int:=by rw[zM];rfl
 have m1:((k:Nat):Int)∈(eI b W i p.2).map λj=>((j:Nat):Int):=List.mem_map.mpr ⟨k,km,rfl⟩;rw[e1];show (intsOf _).bind _=_;rw[cn,zA,l9 m1,zB];have e2:((eI b W i p.2).map λj=>((j:Nat):Int)).findIdx (λo=>decide (o=((k:Nat):Int)))=mi p.2 (bE b (aC W k)):=by
  unfold eI mi;rw[zM];refine ny _ _ _ _ λx hx=>?_;let⟨hl,h1,h2⟩:=hZ h e hx;show decide (((oh b W i x:Nat):Int)=(k:Int))=decide (x=bE b (aC W k));rw[decide_eq_decide];constructor
  ·intro z;have z:oh b W i x=k:=by lia
   rw[<- z,h2]
  ·intro z;rw[z,vv h.wp ko]
 rw[e2]
def oG(h:Wd G T W)(hp:P.length=W.length)(hs:Sm P)(b:Bool){k:Nat}(hk:k < W.length):gC [az G T W,af P,.int (sI b),nD k]=some (.bool (pX b G T W P k)):=by
 have hw:=h.wl;let⟨z1,z2,z3⟩:=h.UX b hk;have hx:(aR b G T)[(aP b (aC W k)).toNat]?=some (bM b G T (aP b (aC W k)).toNat):=by
  rw[zK z2];simp[bM,z2]
 have hL:∀x∈(bM b G T (aP b (aC W k)).toNat).2,_:=λx W8=>hZ h hx W8;have hb:(bM b G T (aP b (aC W k)).toNat).2.length<=16:=by
  have:=(dh h hx).length_eq;have h2:=w4 b W ((aP b (aC W k)).toNat:Int);unfold eI at this;rw[zD] at this;lia
 have ei:=OX h hx hk z3.symm;have ew:=uT h hx;generalize U7:bM b G T (aP b (aC W k)).toNat=pl at *;generalize hj:(aP b (aC W k)).toNat=j at *;have ez:PyData.int (aP b (aC W k))=nD j:=by rw[<- z3]
 refine aE ?_;show jr [.val (az G T W),.val (af P),.val (.int (sI b)),.val (nD k),.Ux,.Ux,.Ux]=_;unfold jr;have t4:Dl.aI 4 [0,2,3] (f2 ay (f2 ay (f2 ay (ae 0) (fC (.int 2))) (ae 3)) (ae 2)) [.val (az G T W),.val (af P),.val (.int (sI b)),.val (nD k),.Ux,.Ux,.Ux]=some (.nx [.val (az G T W),.val (af P),.val (.int (sI b)),.val (nD k),.val (nD j),.Ux,.Ux]):=by
  rw[<- ez];exact bI (d:=.int (aP b (aC W k))) (ar (nY b _) (ar (oW hk) rfl rfl) rfl) rfl
 rw[ak t4];have ep:ay (.tuple ((aR b G T).map aW)) (nD j)=some (aW pl):=mT hx;have ct:(fB (f2 Bq (aj 4 dU (aa (ae 0) (aa (ae 1) (aa (ae 2) (aa (ae 4) ag))))) (f2 ay (f2 ay (f2 ay (ae 0) (ae 2)) (ae 4)) (fC (.int 0))))) (aG [.val (az G T W),.val (af P),.val (.int (sI b)),.val (nD k),.val (nD j),.Ux,.Ux])=some (decide (ix b W P j < pl.1)):=by
  refine ba (ar (ig _ _) (call_of (pj h hp hs b j) rfl rfl) ?_);refine ar (a:=aW pl) (b:=.int 0) rfl (ar ep (ar (gp b G T W) rfl rfl) rfl) rfl
 have hm:pX b G T W P k=(decide (ix b W P j < pl.1)||(pl.2.drop (mi pl.2 (bE b (aC W k))+1)).any λo=>decide (0 < P.getD (oh b W j o) 0)):=by
  unfold pX;rw[hj,U7,z3]
 rw[hm];cases hc:decide (ix b W P j < pl.1) with
 | true =>
  rw[hc] at ct;exact eB ((bV ct).trans (aF rfl))
 | false =>
  rw[hc] at ct;rw[ak (bz ct),Bool.false_or];have t5:Dl.aI 5 [0,2,4] (aj 3 jf (aa (ae 0) (aa (ae 2) (aa (ae 4) ag)))) [.val (az G T W),.val (af P),.val (.int (sI b)),.val (nD k),.val (nD j),.Ux,.Ux]=some (.nx [.val (az G T W),.val (af P),.val (.int (sI b)),.val (nD k),.val (nD j),.val (.list ((eI b W j pl.2).map nD)),.Ux]) :=
   bB (call_of ew rfl rfl) (call_of ew rfl rfl) rfl
  rw[ak t5];have cu:∀ρ:Dl.Env,ae 5 ρ=some (.list ((eI b W j pl.2).map nD))->ae 3 ρ=some (nD k)->(gE cU (ae 5) (ui (f2 aL (f2 mW (ae 5) (ae 3)) (fC (.int 1)))) gX) ρ=some (.list (((eI b W j pl.2).map nD).drop (mi pl.2 (bE b (aC W k))+1))):=λρ a c =>
   KQ a (ar (dF _ _) (ar ei a c) rfl)
  have t6:Dl.aI 6 [3,5] (gE cU (ae 5) (ui (f2 aL (f2 mW (ae 5) (ae 3)) (fC (.int 1)))) gX) [.val (az G T W),.val (af P),.val (.int (sI b)),.val (nD k),.val (nD j),.val (.list ((eI b W j pl.2).map nD)),.Ux]=some (.nx [.val (az G T W),.val (af P),.val (.int (sI b)),.val (nD k),.val (nD j),.val (.list ((eI b W j pl.2).map nD)),.val (.list (((eI b W j pl.2).drop (mi pl.2 (bE b (aC W k))+1)).map nD))]):=by
   rw[List.map_drop];exact bB (cu _ rfl rfl) (cu _ rfl rfl) rfl
  rw[ak t6];have c:aq 1 [1] (aO (ae 6)) (fG 0) (λ_=>some true) (f2 Bu (f2 ay (ae 1) (ae 0)) (fC (.int 0))) [some (az G T W),some (af P),some (.int (sI b)),some (nD k),some (nD j),some (.list ((eI b W j pl.2).map nD)),some (.list (((eI b W j pl.2).drop (mi pl.2 (bE b (aC W k))+1)).map nD))]=some (((eI b W j pl.2).drop (mi pl.2 (bE b (aC W k))+1)).map λi=>.bool (decide (0 < P.getD i 0))):=by
   refine dX rfl ?_ λi hi=>?_
   ·rw[qK,eI,zD];lia
   ·have U5:=wV hi;unfold eI at U5;let⟨x,W8,rfl⟩:=List.mem_map.mp U5;exact ar (dA _ _) (ar (fQ (by rw[hp];exact (hL x W8).1)) rfl rfl) rfl
  refine aF ?_;show bD Rf.JS (aa (bS (aq 1 [1] (aO (ae 6)) (fG 0) (λ_=>some true) (f2 Bu (f2 ay (ae 1) (ae 0)) (fC (.int 0))))) ag) [some (az G T W),some (af P),some (.int (sI b)),some (nD k),some (nD j),some (.list ((eI b W j pl.2).map nD)),some (.list (((eI b W j pl.2).drop (mi pl.2 (bE b (aC W k))+1)).map nD))]=_;simp?[bD,aa,ag,bS,c,zB,zA,FI];unfold eI;rw[<- List.map_drop,Zn];rfl
def Nl:Nat->D|0=>.str "full" | 1=>.str "giver" | 2=>.str "taker" | _=>.none
def BB(h:Wd G T W)(hp:P.length=W.length)(hs:Sm P)(hk:k < W.length):mL [az G T W,af P,nD k]=some (Nl (k4 G T W P k)):=by
 refine aE ?_;show m6 [.val (az G T W),.val (af P),.val (nD k)]=_;unfold m6 k4;have c1:ab3 (aG [.val (az G T W),.val (af P),.val (nD k)])=some (decide (P.getD k 0=(aC W k).2.2)) :=
  ba (ar (bU _ _) (ar (fQ (by rw[hp];exact hk)) rfl rfl) (ar (a:=ao (aC W k)) (b:=.int 2) rfl (ar (oW hk) rfl rfl) rfl))
 have w0:=oG h hp hs false hk;have w1:=oG h hp hs true hk;have c2:ab4 (aG [.val (az G T W),.val (af P),.val (nD k)])=some (!(pX false G T W P k)):=dq (ba (call_of w0 rfl rfl));have c3:ab5 (aG [.val (az G T W),.val (af P),.val (nD k)])=some (!(pX true G T W P k)):=dq (ba (call_of w1 rfl rfl));by_cases e1:P.getD k 0=(aC W k).2.2
 ·rw[yA e1] at c1;rw[yM e1];exact eB ((bV c1).trans (aF rfl))
 ·rw[zZ e1] at c1;rw[yO e1,ak (bz c1)];cases e2:pX false G T W P k with
  | false =>
   rw[e2] at c2;rw[yM rfl];exact eB ((bV c2).trans (aF rfl))
  | true =>
   rw[e2] at c2;rw[yO (by simp),ak (bz c2)];cases e3:pX true G T W P k with
   | false =>
    rw[e3] at c3;rw[yM rfl];exact eB ((bV c3).trans (aF rfl))
   | true =>
    rw[e3] at c3;rw[yO (by simp),ak (bz c3)];exact aF rfl
def Jp(G T:List Pl)(W:List Wy)(P:List Int)(k:Nat):k4 G T W P k<=3:=by
 unfold k4;split
 ·lia
 ·split
  ·lia
  ·split<;>lia
def C3(n:Nat)(h:n<=3):yg (Nl n) .none=some (.bool (decide (n=3))):=by
 match n,h with
 | 0,_=>rfl
 | 1,_=>rfl
 | 2,_=>rfl
 | 3,_=>rfl
def AD{W:List Wy}{P:List Int}(hp:P.length=W.length)(hf:f ρ=some (af P)):(aa (bD bZ (aa f ag)) ag) ρ=some [nD W.length]:=by
 have:=LO P;rw[hp] at this;refine cons_of ?_ rfl;rw[lI hf,this]
def qc(h:Wd G T W)(hp:P.length=W.length)(hs:Sm P):fS [az G T W,af P]=some (match (List.range W.length).find? λk=>decide (k4 G T W P k=3) with|some k=>nD k|none=>.none):=by
 have hw:=h.wl;refine aE ?_;show f7 [.val (az G T W),.val (af P),.Ux]=_;unfold f7;let⟨f1,WA⟩:=eN (tgt:=ik 2) (gb:=fX aax (aM (ae 2)) fv) (λρ=>∃x,ρ=[.val (az G T W),.val (af P),x]) nD (λk=>decide (k4 G T W P k=3)) nD
  (l:=List.range W.length) (ρ:=[.val (az G T W),.val (af P),.Ux])
  (λρ k hk VW=>by
   let⟨x,rfl⟩:=VW;have U0:k < W.length:=by simpa using hk
   have c:aax (aG [.val (az G T W),.val (af P),.val (nD k)])=some (decide (k4 G T W P k=3)) :=
    ba (ar (C3 _ (Jp G T W P k)) (call_of (BB h hp hs U0) rfl rfl) rfl)
   refine⟨_,rfl,λhq=>?_,λhq=>?_⟩
   ·show fX _ _ _ [.val (az G T W),.val (af P),.val (nD k)]=_;rw[hq] at c;exact (bV c).trans (aF rfl)
   ·rw[hq] at c;exact⟨_,bz c,_,rfl⟩) ⟨_,rfl⟩
 have hr:bh ab6 [some (az G T W),some (af P),none]=some ((List.range W.length).map nD):=fV (AD hp rfl) (by lia);cases e:(List.range W.length).find? λk=>decide (k4 G T W P k=3) with
 | some k=>exact eB (br (f1 k e) hr rfl)
 | none =>
  let⟨ρ',e',x,rfl⟩:=WA e;exact (ak (br e' hr rfl)).trans (aF rfl)
def BM(h:Wd G T W)(hp:P.length=W.length)(hs:Sm P):mZ [az G T W,af P]=some (.bool (decide (zp G T W P=[]))):=by
 refine aE ?_;show m8 [.val (az G T W),.val (af P)]=_;unfold m8;refine aF (ar ?_ (call_of (qc h hp hs) rfl rfl) rfl);cases e:(List.range W.length).find? λk=>decide (k4 G T W P k=3) with
 | some k =>
  have:zp G T W P≠[]:=λz=>by
   have hm:=kA e;have hq:=wH e;have:k∈zp G T W P:=List.mem_filter.mpr ⟨hm,hq⟩;rw[z] at this;cases this
  rw[zZ this];rfl
 | none =>
  have:zp G T W P=[]:=by
   rw[Zf] at e;exact List.filter_eq_nil_iff.mpr e
  rw[yA this];rfl
def p7:∀ (is:List Nat),(∀i∈is,tt (some (nD i)::r)=some (q i)/\(q i=true->te (some (nD i)::r)=some (f i)))->cD (fG 0) tt te (none::r) (is.map nD)=some ((is.filter q).map f)
 | [],_=>rfl
 | i::is,h=>by
  have ih:=p7 (tt:=tt) (te:=te) (r:=r) (f:=f) (q:=q) is λj hj=>h j (zC _ hj);let⟨h1,h2⟩:=h i zE;have hg:fG 0 (none::r) (nD i)=some (some (nD i)::r):=rfl;rw[zI,cD,hg,zA,h1,zA,jZ];cases e:q i with
  | true =>
   rw[yM rfl,yM rfl,h2 e,zA,ih];rfl
  | false =>
   rw[yO (by simp),yO (by simp),ih]
def Cf{cs:List Nat}{fi:Dl.Env->Option (List D)}{tt:Dl.Env->Option Bool}{te:Dl.Env->Option D}{ρ:Dl.Env}{is:List Nat}{f:Nat->D}{q:Nat->Bool}(Vx:fi ρ=some (is.map nD))(hl:is.length<=1000)(hh:∀i∈is,tt (some (nD i)::cs.map λj=>(ρ[j]?).getD none)=some (q i)/\(q i=true->te (some (nD i)::cs.map λj=>(ρ[j]?).getD none)=some (f i))):aq 1 cs fi (fG 0) tt te ρ=some ((is.filter q).map f):=by
 have:=p7 is hh;simp?[aq,Vx,zA,eL,List.replicate,xH,xQ,this];refine bw ?_;rw[zD];refine yD (xR _ _) ?_;lia
def uo(h:Wd G T W)(hb:aY [az T G (eF W (bW W))]=some (af c))(p:Pn T G (eF W (bW W)) c):fj [az G T W]=some (af (mr c (bW (eF W (bW W))))):=by
 have o:=dI h.wp;have h':=o.wd h;refine aE ?_;show iG [.val (az G T W),.Ux]=_;unfold iG;have t1:Dl.aI 1 [0] ab7 [.val (az G T W),.Ux]=some (.nx [.val (az G T W),.val (az T G (eF W (bW W)))]):=bB (call_of (Bh h) rfl rfl) (call_of (Bh h) rfl rfl) rfl;rw[ak t1];exact aF (call_of (uh h' p) (cons_of rfl (cons_of (call_of hb rfl rfl) rfl)) rfl)
def Dc(f:Nat->D)(R:Nat->au->Prop):∀ (n k:Nat) (ρ:au),
  (∀j ρ,k<=j->j < k+n->R j ρ->∃ρ1 VO,tgt ρ (f j)=some ρ1/\gb ρ1=some (.nx VO)/\R (j+1) VO)->R k ρ->∃ρ',bN tgt gb ((List.range' k n).map f) ρ=some (.nx ρ')/\R (k+n) ρ'
 | 0,k,ρ,_,h=>⟨ρ,rfl,h⟩
 | n+1,k,ρ,hh,h=>by
  let⟨ρ1,VO,e1,e2,h2⟩:=hh k ρ (yN _) (by lia) h;let⟨ρ',e3,h3⟩:=Dc f R n (k+1) VO (λj ρ a b=>hh j ρ (by lia) (by lia)) h2;refine⟨ρ',?_,by rw[show k+(n+1)=k+1+n by lia];exact h3⟩;rw[vQ,zI,bN,e1,zA,e2];exact e3
def rN{W:List Wy}{P:List Int}(h:P.length=W.length):iY (P.map PyData.int) (W.map ao)=(List.range W.length).map λi=>.tuple [.int (P.getD i 0),ao (aC W i)]:=by
 have:∀ (a:List Int) (l:List Wy),a.length=l.length->iY (a.map PyData.int) (l.map ao)=(List.range l.length).map λi=>.tuple [.int (a.getD i 0),ao (aC l i)]:=by
  intro a
  induction a with
  | nil=>intro l e;cases l with|nil=>rfl|cons _ _=>simp at e
  | cons x a ih =>
   intro l e;cases l with
   | nil=>simp at e
   | cons w l =>
    rw[zI,zI,iY,ih l (by simpa using e),zL,vY,zI,zM];rfl
 exact this P W h
def mE(h:Wd G T W)(hp:P.length=W.length)(hs:Sm P)(b:Bool)(p:Int):fI [az G T W,af P,.int (sI b),.int p]=some (.int (ix b W P p)):=by
 have hw:=h.wl;refine aE ?_;show pY [.val (az G T W),.val (af P),.val (.int (sI b)),.val (.int p)]=_;have hz:eK (aa (ae 1) (aa (f2 ay (ae 0) (fC (.int 2))) ag)) [some (az G T W),some (af P),some (.int (sI b)),some (.int p)]=some ((List.range W.length).map λi=>.tuple [.int (P.getD i 0),ao (aC W i)]):=by
  rw[<- rN hp];rfl
 have c:aq 2 [2,3] (eK (aa (ae 1) (aa (f2 ay (ae 0) (fC (.int 2))) ag))) (gh 0 1) (fB (f2 bC (f2 ay (ae 1) (ae 2)) (ae 3))) (ae 0) [some (az G T W),some (af P),some (.int (sI b)),some (.int p)]=some ((own b W p).map λi=>.int (P.getD i 0)):=by
  rw[gS (p:=λi=>decide (aP b (aC W i)=p)) (h:=λi=>.int (P.getD i 0)) hz (by lia) λi hi=>⟨?_,λ_=>rfl⟩]
  ·rfl
  ·show fB (f2 bC (f2 ay (ae 1) (ae 2)) (ae 3)) [some (.int (P.getD i 0)),some (ao (aC W i)),some (.int (sI b)),some (.int p)]=_;exact ba (by rw[i8 (a:=.int (aP b (aC W i))) (b:=.int p) (ar (nY b _) rfl rfl) rfl,bU])
 refine aF ?_;have e:((own b W p).map λi=>PyData.int (P.getD i 0))=((own b W p).map λi=>P.getD i 0).map PyData.int:=by rw[zM];rfl
 show bD uf (aa (bS (aq 2 [2,3] (eK (aa (ae 1) (aa (f2 ay (ae 0) (fC (.int 2))) ag))) (gh 0 1) (fB (f2 bC (f2 ay (ae 1) (ae 2)) (ae 3))) (ae 0))) ag) [some (az G T W),some (af P),some (.int (sI b)),some (.int p)]=_;rw[e] at c;simp?[bD,aa,ag,bS,c,zB,zA];show uf [.list (((own b W p).map λi=>P.getD i 0).map PyData.int)]=_;simp?[uf,eO,oneOf,gf,zA,cn,Eb hs hw b p,xJ];rfl
def SX:au->Option Out:=acb
def LP(h:Wd G T W)(hp:P.length=W.length)(hs:Sm P)(b:Bool)(x y:Slot):(Df b G T W P=false->SX [.val (az G T W),.val (af P),.val (.int (sI b)),x,y]=some (.rt (.bool false)))/\(Df b G T W P=true->∃x' y',SX [.val (az G T W),.val (af P),.val (.int (sI b)),x,y]=some (.nx [.val (az G T W),.val (af P),.val (.int (sI b)),x',y'])):=by
 have hl:=h.pl b;let⟨f1,WA⟩:=eN (tgt:=gz 3 4) (gb:=fX aaB VV fv)
  (λρ=>∃x y,ρ=[.val (az G T W),.val (af P),.val (.int (sI b)),x,y]) (λi:Nat=>.tuple [nD i,aW (bM b G T i)]) (λi=>decide ((bM b G T i).1 < ix b W P i)) (λ_=>.bool false)
  (l:=List.range (aR b G T).length) (ρ:=[.val (az G T W),.val (af P),.val (.int (sI b)),x,y])
  (λρ i hi VW=>by
   let⟨x,y,rfl⟩:=VW;have c:aaB (aG [.val (az G T W),.val (af P),.val (.int (sI b)),.val (nD i),.val (aW (bM b G T i))])=some (decide ((bM b G T i).1 < ix b W P i)) :=
    ba (ar (dA _ _) (call_of (mE h hp hs b i) rfl rfl) (ar (a:=aW (bM b G T i)) (b:=.int 0) rfl rfl rfl))
   refine⟨_,rfl,λhq=>?_,λhq=>?_⟩
   ·rw[hq] at c;exact (bV c).trans (aF rfl)
   ·rw[hq] at c;exact⟨_,bz c,_,_,rfl⟩) ⟨_,_,rfl⟩
 have he:bf aaz (bJ [.val (az G T W),.val (af P),.val (.int (sI b)),x,y])=some ((List.range (aR b G T).length).map λi=>.tuple [nD i,aW (bM b G T i)]):=by
  have:=j4 (aR b G T);unfold bM;rw[<- this];cases b<;>rfl
 have hh:hand [0,2] 0 [Slot.val (az G T W),.val (af P),.val (.int (sI b)),x,y]=[Slot.val (az G T W),.val (af P),.val (.int (sI b)),x,y]:=rfl;unfold Df;constructor
 ·intro hk;cases e:(List.range (aR b G T).length).find? λi=>decide ((bM b G T i).1 < ix b W P i) with
  | some i=>exact br (f1 i e) he hh
  | none =>
   rw[Zf] at e;rw[List.all_eq_false] at hk;let⟨i,hi,hn⟩:=hk;have:=e i hi;simp?[zJ] at this hn;lia
 ·intro hk;have e:(List.range (aR b G T).length).find? (λi=>decide ((bM b G T i).1 < ix b W P i))=none:=by
   rw[Zf];intro i hi;have:=List.all_eq_true.mp hk i hi;simp?[zJ] at this ⊢;lia
  let⟨ρ',e',x',y',rfl⟩:=WA e;exact⟨x',y',br e' he hh⟩
def IL:NZ G T W P=(Df false G T W P&&Df true G T W P):=rfl
def BI(h:Wd G T W)(hp:P.length=W.length)(hs:Sm P):iq [az G T W,af P]=some (.bool (NZ G T W P)):=by
 let⟨f1,WA⟩:=eN (tgt:=ik 2) (gb:=SX)
  (λρ=>∃x y z,ρ=[.val (az G T W),.val (af P),x,y,z]) (λb:Bool=>.int (sI b)) (λb=>!(Df b G T W P)) (λ_=>.bool false)
  (l:=[false,true]) (ρ:=[.val (az G T W),.val (af P),.Ux,.Ux,.Ux])
  (λρ b _ VW=>by
   let⟨x,y,z,rfl⟩:=VW;let⟨r1,r2⟩:=LP h hp hs b y z;refine⟨_,rfl,λhq=>?_,λhq=>?_⟩
   ·exact r1 (by simpa using hq)
   ·let⟨x',y',e⟩:=r2 (by simpa using hq);exact⟨_,e,_,_,_,rfl⟩) ⟨_,_,_,rfl⟩
 have hr:bh Y0 (bJ [.val (az G T W),.val (af P),.Ux,.Ux,.Ux])=some ([false,true].map λb=>.int (sI b)):=fV (n:=2) rfl (by lia);refine aE ?_;show lQ [.val (az G T W),.val (af P),.Ux,.Ux,.Ux]=_;unfold lQ;rw[IL];cases e0:Df false G T W P with
 | false =>
  have e:[false,true].find? (λb=>!(Df b G T W P))=some false:=by rw[wA (by simp[e0])]
  exact eB (br (f1 _ e) hr rfl)
 | true =>
  cases e1:Df true G T W P with
  | false =>
   have e:[false,true].find? (λb=>!(Df b G T W P))=some true:=by rw[kU (by simp[e0]),wA (by simp[e1])]
   exact eB (br (f1 _ e) hr rfl)
  | true =>
   have e:[false,true].find? (λb=>!(Df b G T W P))=none:=by rw[kU (by simp[e0]),kU (by simp[e1])];rfl
   let⟨ρ',e',x,y,z,rfl⟩:=WA e;exact (ak (br e' hr rfl)).trans (aF rfl)
def xw(h:a.length+b.length<=1000):Dl.aL (af a) (af b)=some (af (a++b)):=by
 unfold af;rw[qo (by simp;lia),jC]
def Lp(h:tc ρ=some true)(ha:fa ρ=some d):My tc fa fb ρ=some d:=by
 simp?[My,h,zA,ha]
def Po(h:tc ρ=some false)(ha:fb ρ=some d):My tc fa fb ρ=some d:=by
 simp?[My,h,zA,ha]
def rf(cont:S->Bool)(st:S->S)(μ:S->Nat)(I:S->Prop)(hb:∀s,I s->cont s=true->I (st s)/\μ (st s) < μ s):∀ (n:Nat) (s:S),μ s < n->I s->cont (lp cont st n s)=false/\I (lp cont st n s)
 | 0,s,h,_=>absurd h (by lia)
 | n+1,s,h,i=>by
  rw[lp];cases hc:cont s with
  | false=>exact⟨by simpa [hc] using hc,by simpa using i⟩
  | true =>
   let⟨i2,hm⟩:=hb s i hc;have:=rf cont st μ I hb n (st s) (by lia) i2;simpa using this
def B1(hk:k < W.length):(dZ W).getD k 0=(aC W k).2.2:=by
 unfold dZ;rw[zG,zO,n5 hk];rfl
def nE(h:Wd G T W):tV G T W (fin G T W).2=none/\Bs W (fin G T W)/\∀k,k < W.length->(fin G T W).2.getD k 0<=(aC W k).2.2:=by
 have hb:=h.VQ;let⟨h1,i,h2⟩:=rf (M0 G T W) (spS G T W) (λs=>VQ s.2) (λs=>Bs W s/\∀k,k < W.length->s.2.getD k 0<=(aC W k).2.2)
  (λs ⟨i,l⟩ hc=>by
   let⟨p,e⟩:=oz hc;let⟨a,b,c⟩:=C4 h i.off e;let⟨i2,hm⟩:=i.step h e;refine⟨⟨i2,λk hk=>?_⟩,hm⟩;rw[tE e];show (s.2.set p.1 p.2).getD k 0<=_;by_cases z:k=p.1
   ·subst z;have:=l p.1 a;have hl:p.1 < s.2.length:=by rw[i.len];exact a
    rw[show (s.2.set p.1 p.2).getD p.1 0=p.2 by simp[hl]];lia
   ·rw[show (s.2.set p.1 p.2).getD k 0=s.2.getD k 0 by simp[vC (jP z)]];exact l k hk) Rf.turns ([],dZ W) (jB hb (by decide)) ⟨Bs.start h,λk hk=>by rw[B1 hk];lia⟩
 refine⟨?_,i,h2⟩;have:M0 G T W (fin G T W)=false:=h1;unfold M0 at this;exact Option.isNone_iff_eq_none.mp (by simpa using this)
def cW(G T:List Pl)(W:List Wy):List Int:=bA false G T W (fin G T W).2
def eU(h:Wd G T W):Pn G T W (cW G T W):=by
 let⟨h1,i,h2⟩:=nE h;exact Li h i.off h2 h1
def v9(h:Wd G T W):aY [az G T W]=some (af (cW G T W)):=uc h
def ib:∀ {l:List D},(∀d∈l,PyData.eqv d d=true)->PyData.eqvAll l l=true
 | [],_=>by simp[PyData.eqvAll]
 | d::l,h=>by
  rw[PyData.eqvAll,h d zE,ib λx hx=>h x (zC _ hx)];rfl
def Dy(h:∀d∈l,PyData.eqv d d=true):PyData.eqv (.tuple l) (.tuple l)=true:=by
 rw[PyData.eqv,ib h]
def CJ(a:List Int):PyData.eqv (af a) (af a)=true:=by rw[AR];simp
def GL(a:Int):PyData.eqv (.int a) (.int a)=true:=by
 have:=CJ [a];rw[af,PyData.eqv,zI,yV,PyData.eqvAll] at this;simp?[zF] at this;exact this.1
def Ff(a:Bool):gN (.bool a) (.bool a)=some (.bool false):=by cases a<;>simp[gN,Kt,SeqAt.shaped,PyData.canLay0,PyData.depth,PyData.eqv]
def tw(h:Wd G T W):bT [az G T W]=some (.bool true):=by rw[mP h.fit (by decide),h.wok]
section
variable {P off:List Int}
def JN:∀ (xs:List Nat),(∀i∈xs,0<=off.getD i 0)->0<=(xs.map λi=>off.getD i 0).sum
 | [],_=>by simp
 | i::xs,h=>by
  have:=JN xs λj hj=>h j (zC _ hj);have:=h i zE;rw[zI,kH];lia
def DV:∀ (xs:List Nat),(∀i∈xs,0<=P.getD i 0)->(0 < (xs.map λi=>P.getD i 0).sum↔(xs.any λi=>decide (0 < P.getD i 0))=true)
 | [],_=>by simp
 | i::xs,h=>by
  have ih:=DV xs λj hj=>h j (zC _ hj);have h0:=JN (off:=P) xs λj hj=>h j (zC _ hj);have hi:=h i zE;rw[zI,kH,vN,jD,zJ,<- ih];lia
def K8(h:Wd G T W){b:Bool}(hk:k < W.length) :
  let i:=(aP b (aC W k)).toNat;let L:=(bM b G T i).2
  eI b W i L=(L.take (mi L (bE b (aC W k)))).map (oh b W i)++k::(L.drop (mi L (bE b (aC W k))+1)).map (oh b W i):=by
 intro i L;let⟨h1,h2,h3⟩:=h.UX b hk;have e:=k7 h2;have hm:bE b (aC W k)∈L:=by
  rw[(h.lik e).mem_iff,<- lT];exact List.mem_map.mpr ⟨k,bY.mpr ⟨hk,h3.symm⟩,rfl⟩
 have UQ:mi L (bE b (aC W k)) < L.length:=by
  unfold mi;exact kX ⟨_,hm,by simp⟩
 have hg:L[mi L (bE b (aC W k))]=bE b (aC W k):=by
  have:=wW (w:=UQ);exact yR this
 have hx:oh b W i (bE b (aC W k))=k:=vv h.wp (bY.mpr ⟨hk,h3.symm⟩);unfold eI
 conv=>lhs;rw[<- List.take_append_drop (mi L (bE b (aC W k))) L,vJ UQ,hg,jC,zI,hx]
end
def sm(l:List Nat)(f:Nat->Int):Int:=(l.map f).sum
def bc(q:Nat)(l:List Nat)(f:Nat->Int):sm (q::l) f=f q+sm l f:=by simp[sm]
def zc(l r:List Nat)(f:Nat->Int):sm (l++r) f=sm l f+sm r f:=by simp[sm]
def qt(q:Nat)(f:Nat->Int):sm [q] f=f q:=by simp[sm]
def dE:∀ {l:List Nat}{f g:Nat->Int},(∀q∈l,f q=g q)->sm l f=sm l g
 | [],_,_,_=>rfl
 | q::l,f,g,h=>by rw[bc,bc,h q zE,dE λx hx=>h x (zC _ hx)]
def pN:∀ {l:List Nat}{f g:Nat->Int},(∀q∈l,f q<=g q)->sm l f<=sm l g
 | [],_,_,_=>qB _
 | q::l,f,g,h=>by
  have h1:=h q zE;have h2:=pN (l:=l) λx hx=>h x (zC _ hx);rw[bc,bc];lia
def rP(h:∀q∈l,0<=f q):0<=sm l f:=by
 have:sm l (λ_=>0)=0:=by induction l with
  | nil=>rfl
  | cons q l ih=>rw[bc,ih λx hx=>h x (zC _ hx)];rfl
 rw[<- this];exact pN h
def Dp:∀ {l:List Nat}{f g:Nat->Int}{p:Nat},(∀q∈l,f q<=g q)->p∈l->f p < g p->sm l f < sm l g
 | q::l,f,g,p,h,hp,e=>by
  have h1:=h q zE;have h2:=pN (l:=l) λx hx=>h x (zC _ hx);rw[bc,bc];rcases List.mem_cons.mp hp with z|z
  ·subst z;lia
  ·have:=Dp (l:=l) (λx hx=>h x (zC _ hx)) z e;lia
def Q0(h:sm l f<=sm l g)(hp:p∈l)(e:g p < f p):∃q∈l,f q < g q:=by
 refine Classical.byContradiction λhn=>?_;have:∀q∈l,g q<=f q:=λq hq=>by
  refine Classical.byContradiction λz=>hn ⟨q,hq,by lia⟩
 have:=Dp this hp e;lia
def OO(h:∀q∈l,0<=f q)(hp:p∈l):f p<=sm l f:=by
 let⟨xs,ys,rfl⟩:=List.append_of_mem hp;rw[zc,bc];have h1:=rP (l:=xs) λq hq=>h q (qL _ hq);have h2:=rP (l:=ys) λq hq=>h q (yE _ (zC _ hq));lia
def EN(p:l.Perm r)(f:Nat->Int):sm l f=sm r f:=by
 induction p with
 | nil=>rfl
 | cons x _ ih=>rw[bc,bc,ih]
 | swap x y l=>rw[bc,bc,bc,bc];lia
 | trans _ _ h1 h2=>rw[h1,h2]
def ch(m:Nat->Int):Int->List Nat->Nat->Int
 | _,[],_=>0
 | a,q::r,k=>if k=q then min (m q) a else ch m (a - min (m q) a) r k
def bu(m:Nat->Int)(a:Int)(q:Nat)(r:List Nat):ch m a (q::r) q=min (m q) a:=by simp[ch]
def bo(h:k≠q):ch m a (q::r) k=ch m (a - min (m q) a) r k:=by simp[ch,h]
def JG:∀ {a:Int}{l:List Nat},(∀q∈l,0<=m q)->0<=a->∀k,0<=ch m a l k/\ch m a l k<=a/\(k∈l->ch m a l k<=m k)
 | a,[],_,ha,k=>⟨qB _,ha,λh=>by cases h⟩
 | a,q::r,hm,ha,k=>by
  have h0:=hm q zE;by_cases e:k=q
  ·subst e;rw[bu];exact⟨by lia,by lia,λ_=>by lia⟩
  ·rw[bo e];let⟨h1,h2,h3⟩:=JG (m:=m) (a:=a - min (m q) a) (l:=r) (λx hx=>hm x (zC _ hx)) (by lia) k;refine⟨h1,by lia,λhk=>?_⟩;rcases List.mem_cons.mp hk with z|z
   ·exact absurd z e
   ·exact h3 z
def IY:∀ {a:Int}{l:List Nat},l.Nodup->(∀q∈l,0<=m q)->0<=a->sm l (ch m a l)=min a (sm l m)
 | a,[],_,_,ha=>by simp[sm];lia
 | a,q::r,hn,hm,ha=>by
  rw[vD] at hn;have h0:=hm q zE;have hr:∀x∈r,0<=m x:=λx hx=>hm x (zC _ hx);have hs:=rP hr;have ih:=IY (m:=m) (a:=a - min (m q) a) hn.2 hr (by lia);rw[bc,bc,bu,dE (g:=ch m (a - min (m q) a) r) λx hx=>bo λe=>hn.1 (e ▸ hx),ih];lia
def EI:∀ {a a':Int}{l:List Nat}{k:Nat},a<=a'->ch m a l k<=ch m a' l k
 | _,_,[],_,_=>qB _
 | a,a',q::r,k,h=>by
  by_cases e:k=q
  ·subst e;rw[bu,bu];lia
  ·rw[bo e,bo e];exact EI (by lia)
def Dx:∀ {a:Int}{l:List Nat},l.Nodup->(∀q∈l,ch m a l q<=m' q/\m' q<=m q)->∀k,ch m' a l k=ch m a l k
 | _,[],_,_,_=>rfl
 | a,q::r,hn,h,k=>by
  rw[vD] at hn;have h0:=h q zE;rw[bu] at h0;have e0:min (m' q) a=min (m q) a:=by lia
  by_cases e:k=q
  ·subst e;rw[bu,bu,e0]
  ·rw[bo e,bo e,e0];exact Dx hn.2 (λx hx=>by
    have:=h x (zC _ hx)
    rwa [bo (show x≠q fromλz=>hn.1 (z ▸ hx))] at this) k
def sC:∀ {a:Int}{l:List Nat},(∀q∈l,m q=m' q)->∀k,ch m a l k=ch m' a l k
 | _,[],_,_=>rfl
 | a,q::r,h,k=>by
  have h0:=h q zE;by_cases e:k=q
  ·subst e;rw[bu,bu,h0]
  ·rw[bo e,bo e,h0];exact sC (λx hx=>h x (zC _ hx)) k
def up:List Nat->Nat->List Nat
 | [],_=>[]
 | q::r,k=>if k=q then [q] else q::up r k
def gq(q:Nat)(r:List Nat):up (q::r) q=[q]:=by simp[up]
def gw(h:k≠q):up (q::r) k=q::up r k:=by simp[up,h]
def fR:∀ {l:List Nat}{k q:Nat},q∈up l k->q∈l
 | [],_,_,h=>by cases h
 | x::l,k,q,h=>by
  by_cases e:k=x
  ·subst e;rw[gq,yK] at h;exact h ▸ zE
  ·rw[gw e] at h;rcases List.mem_cons.mp h with z|z
   ·exact z ▸ zE
   ·exact zC _ (fR z)
def zk:∀ {l:List Nat}{k:Nat},k∈l->k∈up l k
 | x::l,k,h=>by
  by_cases e:k=x
  ·subst e;rw[gq];exact zE
  ·rw[gw e];rcases List.mem_cons.mp h with z|z
   ·exact absurd z e
   ·exact zC _ (zk z)
def xv:∀ {xs ys:List Nat}{k:Nat},k∉xs->up (xs++k::ys) k=xs++[k]
 | [],ys,k,_=>gq _ _
 | x::xs,ys,k,h=>by
  rw[zQ,not_or] at h;rw[xH,gw h.1,xv h.2];rfl
def El(hn:l.Nodup)(hk:k∈l):∃ys,l=up l k++ys/\(∀q∈ys,q∉up l k):=by
 let⟨xs,ys,rfl⟩:=List.append_of_mem hk;have hx:k∉xs:=λz=>by
  rw[Zr] at hn;exact hn.2.2 k z k zE rfl
 refine⟨ys,by rw[xv hx];simp,λq hq V4=>?_⟩;rw[xv hx] at V4;rw[show xs++k::ys=(xs++[k])++ys by simp,Zr] at hn;exact hn.2.2 q V4 q hq rfl
def De:∀ {l:List Nat}{k q:Nat},l.Nodup->q∈up l k->k∈up l q->k=q
 | [],_,_,_,h,_=>by cases h
 | x::l,k,q,hn,h1,h2=>by
  rw[vD] at hn;by_cases e:k=x
  ·subst e;rw[gq,yK] at h1;exact h1.symm
  ·by_cases e2:q=x
   ·subst e2;rw[gq,yK] at h2;exact h2
   ·rw[gw e] at h1;rw[gw e2] at h2;rcases List.mem_cons.mp h1 with z|z
    ·exact absurd z e2
    ·rcases List.mem_cons.mp h2 with z2|z2
     ·exact absurd z2 e
     ·exact De hn.2 z z2
def C2:∀ {a:Int}{l:List Nat}{k:Nat},l.Nodup->k∈l->ch m a l k < m k->sm (up l k) (ch m a l)=a
 | a,q::r,k,hn,hk,h=>by
  rw[vD] at hn;by_cases e:k=q
  ·subst e;rw[bu] at h;rw[gq,qt,bu];lia
  ·rw[bo e] at h;have U0:k∈r:=by
    rcases List.mem_cons.mp hk with z|z
    ·exact absurd z e
    ·exact z
   have ih:=C2 hn.2 U0 h;rw[gw e,bc,bu,dE (g:=ch m (a - min (m q) a) r) λx hx=>bo λz=>hn.1 (z ▸ fR hx),ih];lia
def IS:∀ {a:Int}{l:List Nat}{k q:Nat},l.Nodup->(∀x∈l,0<=m x)->0<=a->0 < ch m a l k->q∈up l k->q≠k->ch m a l q=m q
 | a,[],_,_,_,_,_,_,h,_=>by cases h
 | a,x::r,k,q,hn,hm,ha,h,hq,UN=>by
  rw[vD] at hn;have h0:=hm x zE;have hr:∀y∈r,0<=m y:=λy hy=>hm y (zC _ hy);by_cases e:k=x
  ·subst e;rw[gq,yK] at hq;exact absurd hq UN
  ·rw[bo e] at h;rw[gw e] at hq;rcases List.mem_cons.mp hq with z|z
   ·subst z;rw[bu];have:=(JG (m:=m) (a:=a - min (m q) a) hr (by lia) k).2.1;lia
   ·have hqx:q≠x:=λw=>hn.1 (w ▸ fR z);rw[bo hqx];exact IS hn.2 hr (by lia) h z UN
def MP:∀ {a:Int}{l:List Nat}{k:Nat},l.Nodup->(∀x∈l,0<=m x)->0<=a->k∈l->sm (up l k) (ch m a l)=min a (sm (up l k) m)
 | a,q::r,k,hn,hm,ha,hk=>by
  rw[vD] at hn;have h0:=hm q zE;have hr:∀y∈r,0<=m y:=λy hy=>hm y (zC _ hy);by_cases e:k=q
  ·subst e;rw[gq,qt,qt,bu];lia
  ·have U0:k∈r:=by
    rcases List.mem_cons.mp hk with z|z
    ·exact absurd z e
    ·exact z
   have ih:=MP (m:=m) (a:=a - min (m q) a) hn.2 hr (by lia) U0;have hs:=rP (l:=up r k) λy hy=>hr y (fR hy);rw[gw e,bc,bc,bu,dE (g:=ch m (a - min (m q) a) r) λx hx=>bo λz=>hn.1 (z ▸ fR hx),ih];lia
def IR:∀ {a:Int}{l:List Nat},l.Nodup->(∀x∈l,x≠p->m' x=m x)->m' p<=ch m a l p->(∀k∈l,k≠p->ch m a l k<=ch m' a l k)/\(p∈l->ch m' a l p=m' p)
 | _,[],_,_,_=>⟨λ_ h=>absurd h yF,λh=>absurd h yF⟩
 | a,q::r,hn,h,hp=>by
  rw[vD] at hn;by_cases e:q=p
  ·subst e;rw[bu] at hp;have hs:∀x∈r,m' x=m x:=λx hx=>h x (zC _ hx) λz=>hn.1 (z ▸ hx);refine⟨λk hk UN=>?_,λ_=>?_⟩
   ·rw[bo UN,bo UN,sC (m:=m') (m':=m) hs];exact EI (by lia)
   ·rw[bu];lia
  ·have hq:=h q zE e;rw[bo (jP e)] at hp;let⟨i1,i2⟩:=IR (m:=m) (m':=m') (p:=p) (a:=a - min (m q) a) hn.2 (λx hx=>h x (zC _ hx)) hp;refine⟨λk hk UN=>?_,λhk=>?_⟩
   ·by_cases e2:k=q
    ·subst e2;rw[bu,bu,hq];exact qB _
    ·rw[bo e2,bo e2,hq];rcases List.mem_cons.mp hk with z|z
     ·exact absurd z e2
     ·exact i1 k z UN
   ·rw[bo (jP e),hq];rcases List.mem_cons.mp hk with z|z
    ·exact absurd z.symm e
    ·exact i2 z
def MK:∀ {a:Int}{l:List Nat},l.Nodup->(∀q∈l,0<=X q/\X q<=m q)->sm l X<=a->(∀k∈l,X k=m k\/sm (up l k) X=a)->∀k∈l,ch m a l k=X k
 | _,[],_,_,_,_,_,h=>by cases h
 | a,q::r,hn,hX,hs,h,k,hk=>by
  rw[vD] at hn;have h0:=hX q zE;have hr:∀y∈r,0<=X y/\X y<=m y:=λy hy=>hX y (zC _ hy);have hnn:=rP (l:=r) λy hy=>(hr y hy).1;rw[bc] at hs;have e0:min (m q) a=X q:=by
   rcases h q zE with z|z
   ·lia
   ·rw[gq,qt] at z;lia
  by_cases e:k=q
  ·subst e;rw[bu,e0]
  ·rw[bo e,e0];rcases List.mem_cons.mp hk with z|z
   ·exact absurd z e
   ·refine MK hn.2 hr (by lia) (λj hj=>?_) k z;have hjq:j≠q:=λw=>hn.1 (w ▸ hj);rcases h j (zC _ hj) with w|w
    ·exact .inl w
    ·rw[gw hjq,bc] at w;exact .inr (by lia)
def cH(b:Bool)(W:List Wy)(k:Nat):Nat:=(aP b (aC W k)).toNat
def lst(b:Bool)(G T:List Pl)(W:List Wy)(i:Nat):List Nat:=eI b W i (bM b G T i).2
def amt(b:Bool)(G T:List Pl)(i:Nat):Int:=(bM b G T i).1
def mm(W:List Wy)(off:List Int)(q:Nat):Int:=min (off.getD q 0) (aC W q).2.2
def vl(P:List Int)(q:Nat):Int:=P.getD q 0
section
variable {G T:List Pl}{W:List Wy}{P X c off:List Int}{b:Bool}{i k q:Nat}
def dC(h:Wd G T W)(b:Bool)(hk:k < W.length):cH b W k < (aR b G T).length:=(h.UX b hk).2.1
def sE(h:Wd G T W)(hi:i < (aR b G T).length):(lst b G T W i).Perm (own b W i):=dh h (k7 hi)
def bR(h:Wd G T W)(hi:i < (aR b G T).length):(lst b G T W i).Nodup:=(sE h hi).nodup_iff.mpr (List.nodup_range.filter _)
def dJ(h:Wd G T W)(hi:i < (aR b G T).length):q∈lst b G T W i↔q < W.length/\cH b W q=i:=by
 rw[(sE h hi).mem_iff,bY];constructor
 ·rintro⟨h1,h2⟩;exact⟨h1,by unfold cH;rw[h2];simp⟩
 ·rintro⟨h1,h2⟩;have:=(h.UX b h1).2.2;unfold cH at h2;rw[h2] at this;exact⟨h1,this.symm⟩
def cJ(h:Wd G T W)(b:Bool)(hk:k < W.length):k∈lst b G T W (cH b W k):=(dJ h (dC h b hk)).mpr ⟨hk,rfl⟩
def D5(h:Wd G T W)(ho:Off off)(q:Nat):0<=mm W off q:=by
 have h1:=ho q;have h2:=h.lim q;unfold mm;lia
def HL:∀ (is:List Nat) (a:Int) (l:List Int),is.Nodup->(∀i∈is,i < l.length)->∀k,(is.foldl (nj W off) (a,l)).2.getD k 0=if k∈is then ch (mm W off) a is k else l.getD k 0
 | [],a,l,_,_,k=>by simp
 | q::is,a,l,hn,hl,k=>by
  rw[vD] at hn;have ih:=HL is (a - cV W off a q) (l.set q (cV W off a q)) hn.2 (λi hi=>by rw[yC];exact hl i (zC _ hi)) k;rw[yJ];show (is.foldl (nj W off) (a - cV W off a q,l.set q (cV W off a q))).2.getD k 0=_;rw[ih];have hq:=hl q zE;by_cases e:k=q
  ·subst e;rw[yO hn.1,yM zE,bu,cK,yM ⟨rfl,hq⟩];rfl
  ·rw[bo e];by_cases hk:k∈is
   ·rw[yM hk,yM (zC _ hk)];rfl
   ·rw[yO hk,yO (by rw[zQ,not_or];exact⟨e,hk⟩),cK,yO (λz=>e z.1.symm)]
def fP(h:Wd G T W)(b:Bool)(off:List Int)(hk:k < W.length):(bA b G T W off).getD k 0=ch (mm W off) (amt b G T (cH b W k)) (lst b G T W (cH b W k)) k:=by
 have hi:=dC h b hk;rw[GK h b hk];show (tY W off (amt b G T (cH b W k)) (lst b G T W (cH b W k))).getD k 0=_;unfold tY;rw[HL _ _ _ (bR h hi) (λj hj=>by rw[xO];exact ((dJ h hi).mp hj).1),yM (cJ h b hk)]
def xj(h:Wd G T W)(b:Bool)(i:Nat):0<=amt b G T i:=h.amt b i
def xl(h:Wd G T W)(hi:i < (aR b G T).length):ix b W P i=sm (lst b G T W i) (vl P):=by
 unfold ix;rw[EN (sE h hi)];rfl
def Fl(b:Bool)(G T:List Pl)(W:List Wy)(P:List Int)(k:Nat):Prop:=sm (up (lst b G T W (cH b W k)) k) (vl P)=amt b G T (cH b W k)
def Rs(G T:List Pl)(W:List Wy)(P:List Int):Prop:=∀k,k < W.length->P.getD k 0=(aC W k).2.2\/Fl false G T W P k\/Fl true G T W P k
def Pn.nn(p:Pn G T W P)(q:Nat):0<=vl P q:=by
 by_cases hq:q < W.length
 ·exact (p.bd q hq).1
 ·unfold vl;rw[fM (by rw[p.len];lia)];lia
def Pn.V5(h:Wd G T W)(p:Pn G T W P)(hi:i < (aR b G T).length):sm (lst b G T W i) (vl P)<=amt b G T i:=by
 rw[<- xl h hi];exact p.am b i hi
def Dm(h:Wd G T W)(p:Pn G T W P)(b:Bool)(hk:k < W.length):pX b G T W P k=false↔Fl b G T W P k:=by
 let⟨z1,z2,z3⟩:=h.UX b hk;have hc:lst b G T W (cH b W k)=((bM b G T (cH b W k)).2.take (mi (bM b G T (cH b W k)).2 (bE b (aC W k)))).map (oh b W (cH b W k))++k::((bM b G T (cH b W k)).2.drop (mi (bM b G T (cH b W k)).2 (bE b (aC W k))+1)).map (oh b W (cH b W k)):=K8 h hk;have hn:=bR (b:=b) h z2;change (lst b G T W (cH b W k)).Nodup at hn;have hle:=p.V5 h z2;change sm (lst b G T W (cH b W k)) (vl P)<=amt b G T (cH b W k) at hle;have hth:=xl (P:=P) h z2;have hy:pX b G T W P k=(decide (ix b W P ((cH b W k:Nat):Int) < amt b G T (cH b W k))||(((bM b G T (cH b W k)).2.drop (mi (bM b G T (cH b W k)).2 (bE b (aC W k))+1)).map (oh b W (cH b W k))).any λq=>decide (0 < vl P q)):=by
  unfold pX;rw[Zn];unfold cH amt;rw[z3];rfl
 change ix b W P ((cH b W k:Nat):Int)=sm (lst b G T W (cH b W k)) (vl P) at hth;unfold Fl;rw[hy,hth];revert hc;generalize ((bM b G T (cH b W k)).2.take (mi (bM b G T (cH b W k)).2 (bE b (aC W k)))).map (oh b W (cH b W k))=xs;generalize ((bM b G T (cH b W k)).2.drop (mi (bM b G T (cH b W k)).2 (bE b (aC W k))+1)).map (oh b W (cH b W k))=ys;intro hc;have hx:k∉xs:=λz=>by
  rw[hc,Zr] at hn;exact hn.2.2 k z k zE rfl
 rw[hc,xv hx];rw[hc] at hle;have e:sm (xs++k::ys) (vl P)=sm (xs++[k]) (vl P)+sm ys (vl P):=by
  rw[<- zc];simp
 have hnn:=rP (l:=ys) λq _=>p.nn q;have Vg:=DV (P:=P) ys λq _=>p.nn q;change (0 < sm ys (vl P)↔(ys.any λq=>decide (0 < vl P q))=true) at Vg;rw[e] at hle ⊢;rw[Bool.or_eq_false_iff,xC];constructor
 ·rintro⟨h1,h2⟩;have:¬ 0 < sm ys (vl P):=λz=>by rw[Vg.mp z] at h2;cases h2
  lia
 ·intro h1;refine⟨by lia,?_⟩;cases hh:(ys.any λq=>decide (0 < vl P q)) with
  | false=>rfl
  | true=>have:=Vg.mpr hh;lia
def nQ(h:Wd G T W)(p:Pn G T W P):zp G T W P=[]↔Rs G T W P:=by
 unfold zp;rw[List.filter_eq_nil_iff];constructor
 ·intro hh k hk;have:=hh k (by simpa using hk);rw[zJ] at this;unfold k4 at this;by_cases e1:P.getD k 0=(aC W k).2.2
  ·exact .inl e1
  ·rw[yO e1] at this;by_cases e2:pX false G T W P k=false
   ·exact .inr (.inl ((Dm h p false hk).mp e2))
   ·rw[yO e2] at this;by_cases e3:pX true G T W P k=false
    ·exact .inr (.inr ((Dm h p true hk).mp e3))
    ·rw[yO e3] at this;exact absurd rfl this
 ·intro hh k hk;rw[zJ];unfold k4;rcases hh k (by simpa using hk) with e|e|e
  ·rw[yM e];lia
  ·rw[yM ((Dm h p false (by simpa using hk)).mpr e)];split<;>lia
  ·rw[yM ((Dm h p true (by simpa using hk)).mpr e)];split
   ·lia
   ·split<;>lia
def yx(e:tV G T W c=some (k,q')):k < W.length/\q'=(kl G T W c).getD k 0/\(kl G T W c).getD k 0 < (bA false G T W c).getD k 0:=by
 unfold tV at e;let⟨j,hj,e2⟩:=Dl.ah e;cases e2;have hm:=kA hj;have hq:=wH hj;rw[qR,zJ] at hq;exact⟨List.mem_range.mp hm,rfl,hq⟩
def Mu(e:tV G T W c=none)(hk:k < W.length):(bA false G T W c).getD k 0<=(kl G T W c).getD k 0:=by
 unfold tV at e;rw[Option.map_eq_none_iff] at e;have:=List.find?_eq_none.mp e k (by simpa using hk);rw[qR,zJ] at this;lia
end
section
variable {P X c off:List Int}
def mV(h:Wd G T W)(hk:k < W.length)(hq:q∈lst b G T W (cH b W k)):q < W.length/\cH b W q=cH b W k:=(dJ h (dC h b hk)).mp hq
def oY(h:Wd G T W)(hi:i < (aR b G T).length)(hq:q∈lst b G T W i):vl (bA b G T W off) q=ch (mm W off) (amt b G T i) (lst b G T W i) q:=by
 let⟨h1,h2⟩:=(dJ h hi).mp hq;have:=fP h b off h1;rw[h2] at this;exact this
def IQ(h:Wd G T W)(ho:Off off)(b:Bool)(hk:k < W.length):sm (up (lst b G T W (cH b W k)) k) (vl (bA b G T W off))=min (amt b G T (cH b W k)) (sm (up (lst b G T W (cH b W k)) k) (mm W off)):=by
 have hi:=dC h b hk;rw[dE λq hq=>oY h hi (fR hq)];exact MP (bR h hi) (λq _=>D5 h ho q) (xj h b _) (cJ h b hk)
def si(h:Wd G T W)(b:Bool)(hk:k < W.length)(e:(bA b G T W off).getD k 0 < mm W off k):Fl b G T W (bA b G T W off) k:=by
 have hi:=dC h b hk;rw[fP h b off hk] at e;unfold Fl;rw[dE λq hq=>oY h hi (fR hq)];exact C2 (bR h hi) (cJ h b hk) e
def LH(h:Wd G T W)(ho:Off off)(hk:k < W.length)(e:0 < (bA b G T W off).getD k 0)(hq:q∈up (lst b G T W (cH b W k)) k)(UN:q≠k):(bA b G T W off).getD q 0=mm W off q:=by
 have hi:=dC h b hk;rw[fP h b off hk] at e;have:=oY (off:=off) h hi (fR hq);unfold vl at this;rw[this];exact IS (bR h hi) (λq _=>D5 h ho q) (xj h b _) e hq UN
def BK(h:Wd G T W)(ho:Off off)(b:Bool)(hk:k < W.length):0<=(bA b G T W off).getD k 0/\(bA b G T W off).getD k 0<=mm W off k:=by
 have hi:=dC h b hk;rw[fP h b off hk];have:=JG (m:=mm W off) (a:=amt b G T (cH b W k)) (l:=lst b G T W (cH b W k)) (λq _=>D5 h ho q) (xj h b _) k;exact⟨this.1,this.2.2 (cJ h b hk)⟩
def Ej(h:Wd G T W)(ho:Off off)(hi:i < (aR b G T).length):sm (lst b G T W i) (vl (bA b G T W off))=min (amt b G T i) (sm (lst b G T W i) (mm W off)):=by
 rw[dE λq hq=>oY h hi hq];exact IY (bR h hi) (λq _=>D5 h ho q) (xj h b _)
def Qu(h:Wd G T W)(p:Pn G T W X)(b:Bool)(hk:k < W.length):sm (up (lst b G T W (cH b W k)) k) (vl X)<=amt b G T (cH b W k):=by
 have hi:=dC h b hk;have:=p.V5 h hi;let⟨ys,e,_⟩:=El (bR h hi) (cJ h b hk);rw[e,zc] at this;have hn:=rP (l:=ys) λq _=>p.nn q;lia
def BH(h:Wd G T W)(p:Pn G T W X)(hq:q < W.length)(f:Fl b G T W X q)(hk:k∈lst b G T W (cH b W q))(hn:k∉up (lst b G T W (cH b W q)) q):X.getD k 0=0:=by
 have hi:=dC h b hq;have hle:=p.V5 h hi;let⟨ys,e,_⟩:=El (bR h hi) (cJ h b hq);have hy:k∈ys:=by
  rw[e] at hk;rcases List.mem_append.mp hk with z|z
  ·exact absurd z hn
  ·exact z
 rw[e,zc] at hle;unfold Fl at f;have:=OO (l:=ys) (λq _=>p.nn q) hy;have h0:=p.nn k;unfold vl at this h0;have:sm ys (vl X)=sm ys λq=>X.getD q 0:=rfl;lia
def AI(h:Wd G T W)(p:Pn G T W X)(ho:Off c)(hc:∀k,k < W.length->X.getD k 0<=c.getD k 0)(hq:q < W.length)(e:X.getD q 0 < (bA false G T W c).getD q 0):¬ Fl false G T W X q:=λf=>by
 have hi:=dC h false hq;have Vg:0 < (bA false G T W c).getD q 0:=by have:=p.nn q;unfold vl at this;lia
 have UQ:sm (up (lst false G T W (cH false W q)) q) (vl X) < sm (up (lst false G T W (cH false W q)) q) (vl (bA false G T W c)):=by
  refine Dp (p:=q) (λr hr=>?_) (zk (cJ h false hq)) e;by_cases z:r=q
  ·subst z;exact Int.le_of_lt e
  ·have Vr:=(mV h hq (fR hr)).1;unfold vl;rw[LH h ho hq Vg hr z];have h1:=hc r Vr;have h2:=(p.bd r Vr).2;unfold mm;lia
 have h2:=IQ h ho false hq;unfold Fl at f;lia
end
section
variable {P X c off:List Int}
def nB(h:Wd G T W)(ho:Off c)(hk:k < W.length):0<=(kl G T W c).getD k 0/\(kl G T W c).getD k 0<=(bA false G T W c).getD k 0/\(bA false G T W c).getD k 0<=c.getD k 0/\(bA false G T W c).getD k 0<=(aC W k).2.2/\mm W (bA false G T W c) k=(bA false G T W c).getD k 0:=by
 have h1:=BK h ho false hk;have h2:=BK h (jq h ho false) true hk;change 0<=(kl G T W c).getD k 0/\(kl G T W c).getD k 0<=_ at h2;unfold mm at h1 h2 ⊢;lia
def Hy(h:Wd G T W)(p:Pn G T W X)(r:Rs G T W X)(ho:Off c)(hc:∀k,k < W.length->X.getD k 0<=c.getD k 0)(e:tV G T W c=some (k,v)):X.getD k 0<=v:=by
 let⟨hk,rfl,UQ⟩:=yx e;refine Classical.byContradiction λhn=>?_;have hn:(kl G T W c).getD k 0 < X.getD k 0:=by lia
 let⟨b0,b1,b2,b3,b4⟩:=nB h ho hk;have ff:Fl true G T W (kl G T W c) k:=si h true hk (by rw[b4];exact UQ);have hle:=Qu h p true hk;unfold Fl at ff;let⟨q,hq,hqx⟩:=Q0 (f:=vl X) (g:=vl (kl G T W c)) (l:=up (lst true G T W (cH true W k)) k) (p:=k) (by lia) (zk (cJ h true hk)) hn;let⟨V3,V4⟩:=mV h hk (fR hq);unfold vl at hqx;have UN:q≠k:=λz=>by subst z;lia
 let⟨d0,d1,d2,d3,d4⟩:=nB h ho V3;have hxq:=(p.bd q V3).1;rcases r q V3 with z|z|z
 ·lia
 ·exact AI h p ho hc V3 (by lia) z
 ·have hn2:k∉up (lst true G T W (cH true W q)) q:=λw=>by
   rw[V4] at w;exact UN (De (bR h (dC h true hk)) hq w).symm
  have:=BH h p V3 z (by rw[V4];exact cJ h true hk) hn2;lia
def Eu(h:Wd G T W)(p:Pn G T W X)(r:Rs G T W X)(hk:k < W.length):X.getD k 0<=(fin G T W).2.getD k 0:=by
 have hb:=h.VQ;let⟨_,_,h2⟩:=rf (M0 G T W) (spS G T W) (λs=>VQ s.2) (λs=>Bs W s/\∀k,k < W.length->X.getD k 0<=s.2.getD k 0)
  (λs ⟨i,l⟩ hc=>by
   let⟨⟨k,v⟩,e⟩:=oz hc;let⟨i2,hm⟩:=i.step h e;have hx:=Hy h p r i.off l e;refine⟨⟨i2,λj hj=>?_⟩,hm⟩;rw[tE e];show _<=(s.2.set k v).getD j 0;rw[cK];split
   ·rename_i z;rw[<- z.1];exact hx
   ·exact l j hj) Rf.turns ([],dZ W) (jB hb (by decide)) ⟨Bs.start h,λk hk=>by rw[B1 hk];exact (p.bd k hk).2⟩
 exact h2 k hk
def Jn(G T:List Pl)(W:List Wy)(c:List Int):Prop:=∀k,k < W.length->c.getD k 0 < (aC W k).2.2->Fl true G T W (kl G T W c) k
def N3(h:Wd G T W)(ho:Off c)(hl:c.length=W.length)(e:tV G T W c=some (k,v))(hq:q < W.length):(kl G T W c).getD q 0<=(bA false G T W (c.set k v)).getD q 0:=by
 let⟨hk,rfl,UQ⟩:=yx e;let⟨b0,b1,b2,b3,b4⟩:=nB h ho hk;let⟨d0,d1,d2,d3,d4⟩:=nB h ho hq;have hi:=dC h false hq;have hm:∀x,x≠k->mm W (c.set k ((kl G T W c).getD k 0)) x=mm W c x:=λx hx=>by
  unfold mm;rw[cK,yO (λz=>hx z.1.symm)]
 have hmk:mm W (c.set k ((kl G T W c).getD k 0)) k=(kl G T W c).getD k 0:=by
  unfold mm;rw[cK,yM ⟨rfl,by rw[hl];exact hk⟩];lia
 rw[fP h false _ hq];by_cases z:cH false W q=cH false W k
 ·have hkL:k∈lst false G T W (cH false W q):=by rw[z];exact cJ h false hk
  have hA:vl (bA false G T W c) k=ch (mm W c) (amt false G T (cH false W q)) (lst false G T W (cH false W q)) k:=oY h hi hkL;unfold vl at hA;let⟨l1,l2⟩:=IR (m:=mm W c) (m':=mm W (c.set k ((kl G T W c).getD k 0))) (p:=k) (a:=amt false G T (cH false W q)) (l:=lst false G T W (cH false W q)) (bR h hi) (λx _ hx=>hm x hx) (by rw[hmk,<- hA];exact b1);by_cases y:q=k
  ·subst y;rw[l2 hkL,hmk];exact qB _
  ·have:=l1 q (cJ h false hq) y;rw[<- fP h false c hq] at this;lia
 ·rw[sC (m:=mm W (c.set k ((kl G T W c).getD k 0))) (m':=mm W c) λx hx=>hm x λw=>by
   subst w;exact z ((dJ h hi).mp hx).2.symm]
  rw[<- fP h false c hq];exact d1
def Jn.step(h:Wd G T W)(ho:Off c)(hl:c.length=W.length)(j:Jn G T W c)(e:tV G T W c=some (k,v)):Jn G T W (c.set k v):=λq hq VJ=>by
 have VX:Off (c.set k v):=Dz ho (C4 h ho e).2.1;have fq:Fl true G T W (kl G T W c) q:=by
  let⟨hk,rfl,UQ⟩:=yx e;by_cases z:q=k
  ·subst z;exact si h true hq (by rw[(nB h ho hq).2.2.2.2];exact UQ)
  ·rw[cK,yO (λw=>z w.1.symm)] at VJ;exact j q hq VJ
 have hu:=IQ h (jq h VX false) true hq;change sm _ (vl (kl G T W (c.set k v)))=_ at hu;unfold Fl at fq ⊢;have hs:sm (up (lst true G T W (cH true W q)) q) (vl (kl G T W c))<=sm (up (lst true G T W (cH true W q)) q) (mm W (bA false G T W (c.set k v))):=pN λx hx=>by
  have W8:=(mV h hq (fR hx)).1;have h1:=N3 h ho hl e W8;have h2:=nB h ho W8;unfold vl mm;lia
 rw[hu];lia
def Ra(h:Wd G T W):Jn G T W (fin G T W).2:=by
 have hb:=h.VQ;let⟨_,_,h2⟩:=rf (M0 G T W) (spS G T W) (λs=>VQ s.2) (λs=>Bs W s/\Jn G T W s.2)
  (λs ⟨i,j⟩ hc=>by
   let⟨⟨k,v⟩,e⟩:=oz hc;let⟨i2,hm⟩:=i.step h e;refine⟨⟨i2,?_⟩,hm⟩;rw[tE e];exact j.step h i.off i.len e) Rf.turns ([],dZ W) (jB hb (by decide)) ⟨Bs.start h,λk hk hl=>by rw[B1 hk] at hl;lia⟩
 exact h2
def BQ(h:Wd G T W):Rs G T W (cW G T W):=λk hk=>by
 let⟨adl,i,VJ⟩:=nE h;have j:=Ra h;have heq:∀q,q < W.length->(cW G T W).getD q 0=(kl G T W (fin G T W).2).getD q 0:=λq hq=>by
  have h1:=Mu adl hq;have h2:=(nB h i.off hq).2.1;unfold cW;lia
 let⟨d0,d1,d2,d3,d4⟩:=nB h i.off hk;by_cases e:(cW G T W).getD k 0=(aC W k).2.2
 ·exact .inl e
 ·by_cases e2:(cW G T W).getD k 0 < mm W (fin G T W).2 k
  ·exact .inr (.inl (si h false hk e2))
  ·have h3:=(BK h i.off false hk).2;have:(fin G T W).2.getD k 0 < (aC W k).2.2:=by
    unfold cW at e e2;unfold mm at e2 h3;lia
   have f:=j k hk this;refine .inr (.inr ?_);unfold Fl at f ⊢;rw[<- f];exact dE λq hq=>heq q (mV h hk (fR hq)).1
def KN(h:Wd G T W)(hk:k < W.length):(cW G T W).getD k 0<=(fin G T W).2.getD k 0:=(nB h (nE h).2.1.off hk).2.2.1
def mx(P X:List Int):List Int:=List.zipWith max P X
def Gg(hp:P.length=X.length)(q:Nat)(hn:0<=P.getD q 0\/q < P.length):(mx P X).getD q 0=max (P.getD q 0) (X.getD q 0):=by
 unfold mx;by_cases hq:q < P.length
 ·rw[zG,List.getElem?_zipWith,zK hq,zK (by lia)];simp[hq,show q < X.length by lia]
 ·rw[fM (by simp;lia),fM (by lia),fM (by lia)];rfl
def NH(hp:P.length=X.length):(mx P X).length=P.length:=by unfold mx;simp;lia
def HM(p:Pn G T W P)(x:Pn G T W X):Off (mx P X):=λq=>by
 rw[Gg (by rw[p.len,x.len]) q (.inl (p.nn q))];have:=p.nn q;unfold vl at this;lia
def A8(p:Pn G T W P)(x:Pn G T W X)(hq:q < W.length):mm W (mx P X) q=max (P.getD q 0) (X.getD q 0):=by
 unfold mm;rw[Gg (by rw[p.len,x.len]) q (.inl (p.nn q))];have h1:=(p.bd q hq).2;have h2:=(x.bd q hq).2;lia
def oV(h:Wd G T W)(x:Pn G T W X)(r:Rs G T W X)(hk:k < W.length):(bA false G T W (mx (cW G T W) X)).getD k 0=(cW G T W).getD k 0:=by
 have p:=eU h;let⟨_,i,_⟩:=nE h;have hi:=dC h false hk;rw[fP h false _ hk,show (cW G T W).getD k 0=ch (mm W (fin G T W).2) (amt false G T (cH false W k)) (lst false G T W (cH false W k)) k from fP h false _ hk];refine Dx (bR h hi) (λq hq=>?_) k;have VL:=(mV h hk hq).1;have hA:vl (bA false G T W (fin G T W).2) q=ch (mm W (fin G T W).2) (amt false G T (cH false W k)) (lst false G T W (cH false W k)) q:=oY h hi hq;rw[<- hA,A8 p x VL];have h1:=KN h VL;have h2:=Eu h x r VL;have h3:=(p.bd q VL).2;have h4:=(x.bd q VL).2;change (cW G T W).getD q 0<=_/\_;unfold mm;lia
def vi(h:Wd G T W)(x:Pn G T W X)(r:Rs G T W X)(hk:k < W.length):(bA true G T W (mx (cW G T W) X)).getD k 0=X.getD k 0:=by
 have p:=eU h;let⟨_,i,_⟩:=nE h;have hi:=dC h true hk;rw[fP h true _ hk];refine MK (X:=vl X) (bR h hi) (λq hq=>?_) (x.V5 h hi) (λq hq=>?_) k (cJ h true hk)
 ·have VL:=(mV h hk hq).1;rw[A8 p x VL];have:=(x.bd q VL).1;unfold vl;lia
 ·let⟨VL,U7⟩:=mV h hk hq;rw[A8 p x VL];by_cases e:X.getD q 0 < (cW G T W).getD q 0
  ·refine .inr ?_;rcases r q VL with z|z|z
   ·have:=(p.bd q VL).2;lia
   ·exact absurd z (AI h x i.off (λk hk=>Eu h x r hk) VL e)
   ·unfold Fl at z
    rwa [U7] at z
  ·refine .inl ?_;unfold vl;lia
def Iu(h:Wd G T W)(x:Pn G T W X)(r:Rs G T W X)(hi:i < (aR false G T).length):sm (lst false G T W i) (vl X)<=sm (lst false G T W i) (vl (cW G T W)):=by
 have p:=eU h;rw[dE (f:=vl (cW G T W)) (g:=vl (bA false G T W (mx (cW G T W) X))) λq hq=>(oV h x r ((dJ h hi).mp hq).1).symm,Ej h (HM p x) hi];have h1:=x.V5 h hi;have h2:sm (lst false G T W i) (vl X)<=sm (lst false G T W i) (mm W (mx (cW G T W) X)):=pN λq hq=>by
  rw[A8 p x ((dJ h hi).mp hq).1];unfold vl;lia
 lia
def Hi(h:Wd G T W)(x:Pn G T W X)(r:Rs G T W X)(hi:i < (aR true G T).length):sm (lst true G T W i) (vl (cW G T W))<=sm (lst true G T W i) (vl X):=by
 have p:=eU h;rw[dE (f:=vl X) (g:=vl (bA true G T W (mx (cW G T W) X))) λq hq=>(vi h x r ((dJ h hi).mp hq).1).symm,Ej h (HM p x) hi];have h1:=p.V5 h hi;have h2:sm (lst true G T W i) (vl (cW G T W))<=sm (lst true G T W i) (mm W (mx (cW G T W) X)):=pN λq hq=>by
  rw[A8 p x ((dJ h hi).mp hq).1];unfold vl;lia
 lia
def qq(h:Wd G T W)(b:Bool)(f:Nat->Int):((List.range (aR b G T).length).map λi=>sm (lst b G T W i) f).sum=sm (List.range W.length) f:=by
 have key:∀n,n<=(aR b G T).length->((List.range n).map λi=>sm (lst b G T W i) f).sum=sm ((List.range W.length).filter λk=>decide (cH b W k < n)) f:=by
  intro n
  induction n with
  | zero =>
   intro _;rw[show (List.range W.length).filter (λk=>decide (cH b W k < 0))=[] from List.filter_eq_nil_iff.mpr λk _=>by simp];rfl
  | succ n ih =>
   intro hn;have hi:n < (aR b G T).length:=hn;rw[wF,jC,List.sum_append,ih (by lia)];have e:∀l:List Nat,sm (l.filter λk=>decide (cH b W k < n+1)) f=sm (l.filter λk=>decide (cH b W k < n)) f+sm (l.filter λk=>decide (cH b W k=n)) f:=by
    intro l
    induction l with
    | nil=>rfl
    | cons x l ih =>
     simp?[jZ,zJ];by_cases c1:cH b W x < n
     ·rw[yM (by lia),yM c1,yO (by lia),bc,bc,ih];lia
     ·by_cases c2:cH b W x=n
      ·rw[yM (by lia),yO c1,yM c2,bc,bc,ih];lia
      ·rw[yO (by lia),yO c1,yO c2,ih]
   rw[e];have pm:(lst b G T W n).Perm ((List.range W.length).filter λk=>decide (cH b W k=n)):=by
    refine (List.perm_ext_iff_of_nodup (bR h hi) (List.nodup_range.filter _)).mpr λk=>?_;rw[dJ h hi,List.mem_filter,zS,zJ]
   rw[<- EN pm];simp
 rw[key _ (yN _),List.filter_eq_self.mpr λk hk=>by simpa using dC h b (by simpa using hk)]
def Al:∀ {l:List Nat}{f g:Nat->Int},(∀i∈l,f i<=g i)->(l.map g).sum<=(l.map f).sum->∀i∈l,f i=g i:=λ{l f g} h e i hi=>by
 refine Classical.byContradiction λhn=>?_;have:=Dp (l:=l) (f:=f) (g:=g) h hi (by have:=h i hi;lia);unfold sm at this;lia
def Hb{n m:Nat}{f g f' g':Nat->Int}(h1:∀i,i < n->f i<=g i)(h2:∀i,i < m->g' i<=f' i)(e1:((List.range n).map f).sum=S)(e2:((List.range m).map f').sum=S)(e3:((List.range n).map g).sum=S')(e4:((List.range m).map g').sum=S'):(∀i,i < n->f i=g i)/\∀i,i < m->f' i=g' i:=by
 have u0:sm (List.range n) f<=sm (List.range n) g:=pN λi hi=>h1 i (List.mem_range.mp hi);have u1:sm (List.range m) g'<=sm (List.range m) f':=pN λi hi=>h2 i (List.mem_range.mp hi);unfold sm at u0 u1;exact⟨λi hi=>Al (λi hi=>h1 i (List.mem_range.mp hi)) (by lia) i (List.mem_range.mpr hi),λi hi=>(Al (λi hi=>h2 i (List.mem_range.mp hi)) (by lia) i (List.mem_range.mpr hi)).symm⟩
def Hg(h:Wd G T W)(x:Pn G T W X)(r:Rs G T W X)(b:Bool)(hi:i < (aR b G T).length):ix b W X i=ix b W (cW G T W) i:=by
 let⟨t0,t1⟩:=Hb (λi hi=>Iu (i:=i) h x r hi) (λi hi=>Hi (i:=i) h x r hi) (qq h false (vl X)) (qq h true (vl X)) (qq h false (vl (cW G T W))) (qq h true (vl (cW G T W)));rw[xl h hi,xl h hi];cases b with
 | false=>exact t0 i hi
 | true=>exact t1 i hi
end
def Iz:∀ {a:Int}{l:List Nat}{k:Nat},(∀q∈l,m' q=m (f q))->(∀q∈l,f q=f k->q=k)->ch m' a l k=ch m a (l.map f) (f k)
 | _,[],_,_,_=>rfl
 | a,q::l,k,h,hi=>by
  have h0:=h q zE;rw[zI];by_cases e:k=q
  ·subst e;rw[bu,bu,h0]
  ·have e2:f k≠f q:=λz=>e (hi q zE z.symm).symm;rw[bo e,bo e2,h0];exact Iz (λx hx=>h x (zC _ hx)) λx hx=>hi x (zC _ hx)
section
variable {P X c off:List Int}
def M8(o:Ord W π)(b:Bool)(hk:k < W.length):cH (!b) (eF W π) k=cH b W (π.getD k 0):=by
 unfold cH;rw[fT o hk,qv]
def Nk(h:Wd G T W)(o:Ord W π)(hi:i < (aR b G T).length):(lst (!b) T G (eF W π) i).map (λk=>π.getD k 0)=lst b G T W i:=by
 unfold lst eI;rw[yw,zM];exact yI λx hx=>(IX h o (k7 hi) hx).2
def NS(o:Ord W π)(hk:k < W.length)(hj:j < W.length)(e:π.getD k 0=π.getD j 0):k=j:=by
 have hn:π.Nodup:=o.perm.nodup_iff.mpr List.nodup_range;have hl:=o.len;have h1:π[k]?=some (π.getD k 0):=by simp[show k < π.length by lia]
 have h2:π[j]?=some (π.getD j 0):=by simp[show j < π.length by lia]
 rw[<- e] at h2;exact (List.getElem?_inj (by lia) hn).mp (h1.trans h2.symm)
def OJ(h:Wd G T W)(o:Ord W π)(b:Bool)(hl:off.length=W.length)(hk:k < W.length):(bA (!b) T G (eF W π) (mr off π)).getD k 0=(bA b G T W off).getD (π.getD k 0) 0:=by
 have h':=o.wd h;have U0:k < (eF W π).length:=by rw[cI o];exact hk
 have hp:=o.lt hk;have hi:=dC h b hp;rw[fP h' (!b) _ U0,fP h b _ hp,M8 o b hk];have U5:cH b W (π.getD k 0) < (aR (!b) T G).length:=by rw[rz];exact hi
 rw[<- Nk h o hi,show amt (!b) T G (cH b W (π.getD k 0))=amt b G T (cH b W (π.getD k 0)) by unfold amt;rw[yw]];refine Iz (f:=λk=>π.getD k 0) (λq hq=>?_) λq hq e=>?_
 ·have VL:=((dJ h' U5).mp hq).1;rw[cI o] at VL;unfold mm;rw[m7 o VL,fT o VL];rfl
 ·have VL:=((dJ h' U5).mp hq).1;rw[cI o] at VL;exact NS o VL hk e
def QW(o:Ord W π)(hp:P.length=W.length)(hx:X.length=W.length):mx (mr P π) (mr X π)=mr (mx P X) π:=by
 unfold mr;unfold mx;rw[List.zipWith_map,List.zipWith_self];refine yI λi hi=>?_;have:=Gg (P:=P) (X:=X) (by lia) i (.inr (by
  have:=o.perm.mem_iff.mp hi;rw[zS] at this;lia))
 exact this.symm
def DP(h:P.length=X.length)(e:∀k,k < P.length->P.getD k 0=X.getD k 0):P=X:=by
 apply jJ h;intro k h1 h2;have:=e k h1;simpa [h1,h2] using this
def Rs.tu(h:Wd G T W)(o:Ord W π)(p:Pn G T W P)(r:Rs G T W P):Rs T G (eF W π) (mr P π):=(nQ (o.wd h) (p.tu h o)).mp ((N4 h o).mpr ((nQ h p).mpr r))
def nc(G T:List Pl)(W:List Wy):List Int:=mr (cW T G (eF W (bW W))) (bW (eF W (bW W)))
def D1(h:Wd G T W):mr (nc G T W) (bW W)=cW T G (eF W (bW W)):=by
 have o:=dI h.wp;have h':=o.wd h;have o':=dI h'.wp;have o2:Ord (eF (eF W (bW W)) (bW (eF W (bW W)))) (bW W):=by rw[yk h.wp o o'];exact o
 exact Kj h'.wp o' o2 (eU h').len
def MS(h:Wd G T W):Pn G T W (nc G T W):=by
 have o:=dI h.wp;have h':=o.wd h;have o':=dI h'.wp;have:=(eU h').tu h' o'
 rwa [yk h.wp o o'] at this
def Qt(h:Wd G T W):Rs G T W (nc G T W):=by
 have o:=dI h.wp;have h':=o.wd h;have o':=dI h'.wp;have:=(BQ h').tu h' o' (eU h')
 rwa [yk h.wp o o'] at this
def G6(h:Wd G T W)(b:Bool)(hl:off.length=W.length)(hx:X.length=W.length)(e:∀k,k < W.length->(bA (!b) T G (eF W (bW W)) (mr off (bW W))).getD k 0=(mr X (bW W)).getD k 0):bA b G T W off=X:=by
 have o:=dI h.wp;refine DP (by rw[gF,hx]) λk hk=>?_;rw[gF] at hk;let⟨j,hj,rfl⟩:=o.ex hk;rw[<- OJ h o b hl hj,e j hj,m7 o hj]
def KJ(h:Wd G T W)(x:Pn G T W X)(r:Rs G T W X):bA false G T W (mx (cW G T W) X)=cW G T W :=
 DP (by rw[gF,(eU h).len]) λk hk=>oV h x r (by rw[gF] at hk;exact hk)
def Gs(h:Wd G T W)(x:Pn G T W X)(r:Rs G T W X):bA true G T W (mx (nc G T W) X)=nc G T W/\bA false G T W (mx (nc G T W) X)=X:=by
 have o:=dI h.wp;have h':=o.wd h;have pl:=(MS h).len;have hm:(mx (nc G T W) X).length=W.length:=by rw[NH (by rw[pl,x.len]),pl]
 have em:mr (mx (nc G T W) X) (bW W)=mx (cW T G (eF W (bW W))) (mr X (bW W)):=by rw[<- QW o pl x.len,D1 h]
 have x':=x.tu h o;have r':=r.tu h o x;have l':=cI o;constructor
 ·refine G6 h true hm pl λk hk=>?_;rw[em,D1 h];exact oV h' x' r' (by rw[l'];exact hk)
 ·refine G6 h false hm x.len λk hk=>?_;rw[em];exact vi h' x' r' (by rw[l'];exact hk)
def single(h:Wd G T W)(x:Pn G T W X)(r:Rs G T W X)(e:cW G T W=nc G T W):X=cW G T W:=by
 have h1:=KJ h x r;have h2:=(Gs h x r).2;rw[<- e,h1] at h2;exact h2.symm
end
def KO(h:Wd G T W):fj [az G T W]=some (af (nc G T W)):=by
 have h':=(dI h.wp).wd h;exact uo h (v9 h') (eU h')
def A7(h:Wd G T W):fJ [az G T W]=some (.bool (decide (cW G T W=nc G T W))):=by
 refine aE ?_;show pU [.val (az G T W)]=_;exact aF (ar (Jj _ _) (call_of (v9 h) rfl rfl) (call_of (KO h) rfl rfl))
def dD(h:f ρ=some ds):bS f ρ=some (.list ds):=by
 simp?[bS,h,zB]
def wq(h:f ρ=some (.tuple ds)):aO f ρ=some ds:=by
 simp?[aO,h,zA,gf]
def Dh(h:f ρ=some (.list ds)):aO f ρ=some ds:=by
 simp?[aO,h,zA,gf]
def mU(h:fs ρ=some ds)(hl:ds.length<=1000):eX fs ρ=some ds:=by
 simp?[eX,h,zA,bw (show ds.length<=4000 by lia)]
def nil_of(ρ:Dl.Env):bS Yv ρ=some (.list []):=dD (mU (ds:=[]) rfl (by simp))
def qr(h:t ρ=some false):eE t u ρ=some false:=by
 simp?[eE,h,zA]
def nX(h:t ρ=some true)(h2:u ρ=some b):eE t u ρ=some b:=by
 simp?[eE,h,zA,h2]
def Gn(l:List Nat):PyData.eqvAll (l.map nD) (l.map nD)=true:=ib λd hd=>by
 let⟨i,_,rfl⟩:=List.mem_map.mp hd;exact GL _
def lC{l:List Nat}:SeqAt.shaped (.list (l.map nD))=true :=
 (iz.lst (b:=l.length) (k:=0) (by simp) λx hx=>by let⟨i,_,rfl⟩:=List.mem_map.mp hx;exact lW _).shaped (by decide)
def EW(l:List Nat):gN (.list (l.map nD)) (.list (l.map nD))=some (.bool false):=by
 simp?[gN,Kt,lC,jR,xJ,PyData.eqv,Gn,zB,qA]
def F4(l:List Nat):bC (.list (l.map nD)) (.list [])=some (.bool (decide (l=[]))):=by
 have h0:SeqAt.shaped (.list [])=true:=lC (l:=[]);have e:(l.map nD).isEmpty=decide (l=[]):=by cases l<;>rfl
 simp?[bC,Lf,lC,h0,jR,xJ,PyData.eqv,tM,e,zB]
def Js(hf:f ρ=some (az G T W))(hg:g ρ=some (.int (sI b))):(aa (bD bZ (aa (f2 ay f g) ag)) ag) ρ=some [nD (aR b G T).length] :=
 cons_of (rT (l:=aR b G T) (k:=aW) (ar (gp b G T W) hf hg)) rfl
structure Wk(G T G' T':List Pl):Prop where
 len:∀b,(aR b G' T').length=(aR b G T).length
 lik:∀b i,(bM b G' T' i).2=(bM b G T i).2
 gv:∀i,amt false G' T' i<=amt false G T i
 tk:∀i,amt true G T i<=amt true G' T' i
section
variable {P X off:List Int}
end
def ni(l:Int)(fs:List (List Int)):List (List Int):=(fs.map λr=>(List.range (l+1).toNat).map λm=>r++[((m:Nat):Int)]).flatten
def vh:List Wy->List (List Int)->List (List Int)
 | [],fs=>fs
 | w::W,fs=>vh W (ni w.2.2 fs)
def qw:r∈ni l fs↔∃r'∈fs,∃v:Int,0<=v/\v<=l/\r=r'++[v]:=by
 unfold ni;rw[List.mem_flatten];constructor
 ·rintro⟨L,hL,hr⟩;let⟨r',h',rfl⟩:=List.mem_map.mp hL;let⟨m,hm,rfl⟩:=List.mem_map.mp hr;rw[zS] at hm;exact⟨r',h',_,by lia,by lia,rfl⟩
 ·rintro⟨r',h',v,h0,h1,rfl⟩;exact⟨_,List.mem_map.mpr ⟨r',h',rfl⟩,List.mem_map.mpr ⟨v.toNat,by rw[zS];lia,by rw[show ((v.toNat:Nat):Int)=v by lia]⟩⟩
def EM:∀ {W:List Wy}{fs:List (List Int)}{r:List Int},r∈vh W fs↔∃r'∈fs,∃q:List Int,q.length=W.length/\(∀k,k < W.length->0<=q.getD k 0/\q.getD k 0<=(aC W k).2.2)/\r=r'++q
 | [],fs,r=>by
  unfold vh;constructor
  ·intro h;exact⟨r,h,[],rfl,λk hk=>by simp at hk,by simp⟩
  ·rintro⟨r',h',q,hq,_,rfl⟩;have:q=[]:=List.length_eq_zero_iff.mp hq;subst this;simpa using h'
 | w::W,fs,r=>by
  rw[vh,EM];constructor
  ·rintro⟨r',h',q,hq,hb,rfl⟩;let⟨r2,h2,v,h0,h1,rfl⟩:=qw.mp h';refine⟨r2,h2,v::q,by simp[hq],λk hk=>?_,by simp⟩;cases k with
   | zero=>exact⟨h0,h1⟩
   | succ k=>exact hb k (by simpa using hk)
  ·rintro⟨r',h',q,hq,hb,rfl⟩;cases q with
   | nil=>simp at hq
   | cons v q =>
    refine⟨r'++[v],qw.mpr ⟨r',h',v,(hb 0 (by simp)).1,(hb 0 (by simp)).2,rfl⟩,q,by simpa using hq,λk hk=>hb (k+1) (by simpa using hk),by simp⟩
def ye(l:Int)(fs:List (List Int)):(ni l fs).length=fs.length * (l+1).toNat:=by
 unfold ni
 induction fs with
 | nil=>simp
 | cons r fs ih=>rw[zI,qP,zN,ih,zL,Nat.add_mul];simp;lia
def wB:au->Option Out:=(wg 3 [2,4] (aq 1 [4] (bh (aa (f2 Dl.aL (f2 ay (ae 2) (fC (.int 2))) (fC (.int 1))) ag)) (fG 0) (λ_=>some true) (f2 Dl.aL (ae 1) (aJ (aa (ae 0) ag)))))
def ext(l:Int)(r:List Int):List (List Int):=(List.range (l+1).toNat).map λm=>r++[((m:Nat):Int)]
def ND{acc:List (List Int)}(hl:0<=w.2.2/\w.2.2<=9)(hr:r.length<=100)(ha:acc.length<=7000):wB [.val d,x1,.val (ao w),.own (acc.map af),.val (af r)]=some (.nx [.val d,x1,.val (ao w),.own ((acc++ext w.2.2 r).map af),.val (af r)]):=by
 have c:aq 1 [4] (bh (aa (f2 Dl.aL (f2 ay (ae 2) (fC (.int 2))) (fC (.int 1))) ag)) (fG 0) (λ_=>some true) (f2 Dl.aL (ae 1) (aJ (aa (ae 0) ag))) (bJ [.val d,x1,.val (ao w),.own (acc.map af),.val (af r)])=some ((List.range (w.2.2+1).toNat).map λm=>af (r++[((m:Nat):Int)])):=by
  refine dX (fV (n:=(w.2.2+1).toNat) (cons_of ?_ rfl) (by lia)) (by rw[zR];lia) λm _=>ar (xw (a:=r) (b:=[((m:Nat):Int)]) (by simp;lia)) rfl (Me rfl);rw[show nD (w.2.2+1).toNat=.int (w.2.2+1) by show PyData.int _=_;congr 1;lia];exact ar (dF w.2.2 1) (ar (rm w) rfl rfl) rfl
 have hh:hand [2,4] 0 [Slot.val d,x1,.val (ao w),.own (acc.map af),.val (af r)]=[Slot.val d,x1,.val (ao w),.own (acc.map af),.val (af r)]:=rfl;have hz:(acc.map af).length+((List.range (w.2.2+1).toNat).map λm=>af (r++[((m:Nat):Int)])).length<=sizeLine:=by
  rw[zD,zD,zR];exact yD (show acc.length+(w.2.2+1).toNat<=8000 by lia) (by decide)
 have e:(acc++ext w.2.2 r).map af=acc.map af++(List.range (w.2.2+1).toNat).map λm=>af (r++[((m:Nat):Int)]):=by
  rw[jC,ext,zM];rfl
 unfold wB wg;rw[hh,c,zA,e];simp?[oE,yZ,xS,hz,xJ,zB,zA];rfl
def wO:au->Option Out:=(aw Yy (aw (cX [1] Ws (ik 4) wB) YA))
def Ba(l:Int)(r:List Int)(fs:List (List Int)):ni l (r::fs)=ext l r++ni l fs:=by simp[ni,ext]
def sj(hl:0<=w.2.2/\w.2.2<=2):∀ (fs acc:List (List Int)) (x4:Slot),(∀r∈fs,r.length<=16)->acc.length+3 * fs.length<=7000->∃y4,bN (ik 4) wB (fs.map af) [.val d,x1,.val (ao w),.own (acc.map af),x4]=some (.nx [.val d,x1,.val (ao w),.own ((acc++ni w.2.2 fs).map af),y4])
 | [],acc,x4,_,_=>⟨x4,by simp[ni,bN]⟩
 | r::fs,acc,x4,hr,hb=>by
  have he:(ext w.2.2 r).length<=3:=by unfold ext;rw[zD,zR];lia
  rw[zL] at hb;let⟨y4,e⟩:=sj (d:=d) (x1:=x1) hl fs (acc++ext w.2.2 r) (.val (af r)) (λq hq=>hr q (zC _ hq)) (by rw[zN];lia);have h1:=ND (d:=d) (x1:=x1) (w:=w) (acc:=acc) (r:=r) ⟨hl.1,by lia⟩ (by have:=hr r zE;lia) (by lia);have ht:ik 4 [.val d,x1,.val (ao w),.own (acc.map af),x4] (af r)=some [.val d,x1,.val (ao w),.own (acc.map af),.val (af r)]:=rfl;refine⟨y4,?_⟩;rw[zI,bN,ht,zA,h1];show bN (ik 4) wB (fs.map af) _=_;rw[e,Ba,List.append_assoc]
def Ng(hl:0<=w.2.2/\w.2.2<=2)(hr:∀r∈fs,r.length<=16)(hf:fs.length<=2187)(h1:s1=.own (fs.map af)\/s1=.val (.list (fs.map af))):∃y3 y4,wO [.val d,s1,.val (ao w),x3,x4]=some (.nx [.val d,.val (.list ((ni w.2.2 fs).map af)),.val (ao w),y3,y4]):=by
 let⟨y4,e⟩:=sj (d:=d) (x1:=.val (.list (fs.map af))) hl fs [] x4 hr (by simp;lia);rw[xQ] at e;have t1:aQ 3 [] Yv [.val d,s1,.val (ao w),x3,x4]=some (.nx [.val d,s1,.val (ao w),.own [],x4]):=cP (mU (ds:=[]) rfl (by simp)) rfl;have hh:hand [1] 0 [.val d,s1,.val (ao w),.own [],x4]=[Slot.val d,.val (.list (fs.map af)),.val (ao w),.own [],x4]:=by
  rcases h1 with rfl|rfl<;>rfl
 unfold wO;rw[ak t1];refine⟨.val (.list ((ni w.2.2 fs).map af)),y4,?_⟩;refine (ak (br e rfl hh)).trans ?_;exact jz (ρ':=[.val d,.val (.list (fs.map af)),.val (ao w),.val (.list ((ni w.2.2 fs).map af)),y4]) rfl (d:=.list ((ni w.2.2 fs).map af)) rfl rfl rfl (.inl rfl)
def Et(h:∀r∈fs,r.length<=n):∀r∈ni l fs,r.length<=n+1:=λr hr=>by
 let⟨r',h',v,_,_,rfl⟩:=qw.mp hr;have:=h r' h';simp;lia
def HH:∀ (W:List Wy) (fs:List (List Int)) (s1 x2 x3 x4:Slot),(∀w∈W,0<=w.2.2/\w.2.2<=2)->fs.length * 3 ^ W.length<=2187->(∀r∈fs,r.length<=16 - W.length)->W.length<=16->(s1=.own (fs.map af)\/s1=.val (.list (fs.map af))) ->
  ∃W3 y2 y3 y4,bN (ik 2) wO (W.map ao) [.val d,s1,x2,x3,x4]=some (.nx [.val d,W3,y2,y3,y4])/\(W3=.own ((vh W fs).map af)\/W3=.val (.list ((vh W fs).map af)))
 | [],fs,s1,x2,x3,x4,_,_,_,_,h1=>⟨s1,x2,x3,x4,rfl,h1⟩
 | w::W,fs,s1,x2,x3,x4,hl,hf,hr,hw,h1=>by
  rw[zL] at hf hr hw;have hp:1<=3 ^ W.length:=Nat.one_le_pow _ _ (by lia);have hf1:fs.length<=2187:=by
   refine yD ?_ hf;exact Nat.le_mul_of_pos_right _ (Nat.pow_pos (by lia))
  have hlw:=hl w zE;let⟨y3,y4,e⟩:=Ng (d:=d) (x3:=x3) (x4:=x4) hlw (λr Vr=>by have:=hr r Vr;lia) hf1 h1;have hll:(ni w.2.2 fs).length<=fs.length * 3:=by rw[ye];exact Nat.mul_le_mul_left _ (by lia)
  let⟨W3,z2,z3,z4,e2,h2⟩:=HH (d:=d) W (ni w.2.2 fs) (.val (.list ((ni w.2.2 fs).map af))) (.val (ao w)) y3 y4 (λq hq=>hl q (zC _ hq)) (by
   refine yD (Nat.mul_le_mul_right _ hll) ?_;rw[Nat.mul_assoc,<- Nat.pow_succ'];exact hf) (λr Vr=>by
   have:=Et (n:=16 - (W.length+1)) hr r Vr;lia) (by lia) (.inr rfl)
  have ht:ik 2 [.val d,s1,x2,x3,x4] (ao w)=some [.val d,s1,.val (ao w),x3,x4]:=rfl;refine⟨W3,z2,z3,z4,?_,h2⟩;rw[zI,bN,ht,zA,e];exact e2
def J1(hl:∀w∈W,0<=w.2.2/\w.2.2<=2)(hw:W.length<=7):fY [.tuple (W.map ao)]=some (.list ((vh W [[]]).map af)):=by
 let⟨W3,z2,z3,z4,e2,h2⟩:=HH (d:=.tuple (W.map ao)) W [[]] (.own ([[]].map af)) .Ux .Ux .Ux hl (by
  rw[xD,Nat.one_mul];exact yD (Nat.pow_le_pow_right (by lia) hw) (by decide)) (λr hr=>by simp at hr;subst hr;simp) (by lia) (.inl rfl)
 refine aE ?_;show fW [.val (.tuple (W.map ao)),.Ux,.Ux,.Ux,.Ux]=_;unfold fW;refine (ak (cP (ds:=[[]].map af) (mU (cons_of (tup_is (ds:=[]) rfl (by simp)) rfl) (by simp)) rfl)).trans ?_;refine (ak (br e2 rfl rfl)).trans ?_;refine aF ?_;rcases h2 with rfl|rfl<;>rfl
def sG:∀ (l:List α),(∀x∈l,tt (some (g x)::r)=some (q x)/\(q x=true->te (some (g x)::r)=some (f x)))->cD (fG 0) tt te (none::r) (l.map g)=some ((l.filter q).map f)
 | [],_=>rfl
 | x::l,h=>by
  have ih:=sG (tt:=tt) (te:=te) (r:=r) (g:=g) (f:=f) (q:=q) l λy hy=>h y (zC _ hy);let⟨h1,h2⟩:=h x zE;have hg:fG 0 (none::r) (g x)=some (some (g x)::r):=rfl;rw[zI,cD,hg,zA,h1,zA,jZ];cases e:q x with
  | true =>
   rw[yM rfl,yM rfl,h2 e,zA,ih];rfl
  | false =>
   rw[yO (by simp),yO (by simp),ih]
def lR{α:Type}{cs:List Nat}{fi:Dl.Env->Option (List D)}{tt:Dl.Env->Option Bool}{te:Dl.Env->Option D}{ρ:Dl.Env}{l:List α}{g f:α->D}{q:α->Bool}(Vx:fi ρ=some (l.map g))(hl:l.length<=3000)(hh:∀x∈l,tt (some (g x)::cs.map λj=>(ρ[j]?).getD none)=some (q x)/\(q x=true->te (some (g x)::cs.map λj=>(ρ[j]?).getD none)=some (f x))):aq 1 cs fi (fG 0) tt te ρ=some ((l.filter q).map f):=by
 have:=sG l hh;simp?[aq,Vx,zA,eL,List.replicate,xH,xQ,this];refine bw ?_;rw[zD];refine yD (xR _ _) ?_;lia
def lY{α:Type}{cs:List Nat}{fi:Dl.Env->Option (List D)}{tt:Dl.Env->Option Bool}{te:Dl.Env->Option D}{ρ:Dl.Env}{l:List α}{g f:α->D}{q:α->Bool}(Vx:fi ρ=some (l.map g))(hl:l.length<=1000)(hh:∀x∈l,tt (some (g x)::cs.map λj=>(ρ[j]?).getD none)=some (q x)/\(q x=true->te (some (g x)::cs.map λj=>(ρ[j]?).getD none)=some (f x))):aq 1 cs fi (fG 0) tt te ρ=some ((l.filter q).map f):=lR Vx (by lia) hh
def mB:au->Option Out:=(Dl.aI 1 [1,2] (f2 Dl.eQ (ae 1) (f2 Dl.aL (f2 ay (ae 2) (fC (.int 2))) (fC (.int 1)))))
def JA:∀ (W:List Wy) (p:Nat) (x2:Slot),(∀w∈W,0<=w.2.2/\w.2.2<=2)->p * 3 ^ W.length<=2187->∃p' y2,bN (ik 2) mB (W.map ao) [.val d,.val (nD p),x2]=some (.nx [.val d,.val (nD p'),y2])/\p'<=2187
 | [],p,x2,_,hp=>⟨p,x2,rfl,by simpa using hp⟩
 | w::W,p,x2,hl,hp=>by
  have hlw:=hl w zE;rw[zL] at hp;have hp1:p<=2187:=yD (Nat.le_mul_of_pos_right _ (Nat.pow_pos (by lia))) hp;let⟨p',y2,e,h2⟩:=JA (d:=d) W (p * (w.2.2+1).toNat) (.val (ao w)) (λq hq=>hl q (zC _ hq)) (by
   refine yD (Nat.mul_le_mul_right _ (Nat.mul_le_mul_left p (show (w.2.2+1).toNat<=3 by lia))) ?_;rw[Nat.mul_assoc,<- Nat.pow_succ'];exact hp)
  have ht:ik 2 [.val d,.val (nD p),x2] (ao w)=some [.val d,.val (nD p),.val (ao w)]:=rfl;have hm:mB [.val d,.val (nD p),.val (ao w)]=some (.nx [.val d,.val (nD (p * (w.2.2+1).toNat)),.val (ao w)]):=by
   have hv:nD (p * (w.2.2+1).toNat)=.int (((p:Nat):Int) * (w.2.2+1)):=by
    show PyData.int _=_;rw[Int.natCast_mul,show (((w.2.2+1).toNat:Nat):Int)=w.2.2+1 by lia]
   rw[hv];unfold mB;exact bI (ar (dk (.inl ⟨by lia,by lia⟩)) rfl (ar (dF _ _) (ar (rm w) rfl rfl) rfl)) rfl
  refine⟨p',y2,?_,h2⟩;rw[zI,bN,ht,zA,hm];exact e
def yq(hl:∀w∈W,0<=w.2.2/\w.2.2<=2)(hw:W.length<=7):du [az G T W]=some .none:=by
 let⟨p',y2,e,h2⟩:=JA (d:=az G T W) W 1 .Ux hl (by rw[Nat.one_mul];exact yD (Nat.pow_le_pow_right (by lia) hw) (by decide));have:dv [.val (az G T W),.Ux,.Ux]=some (.nx [.val (az G T W),.val (nD p'),y2]):=by
  unfold dv;refine (ak (bI (d:=.int 1) rfl rfl)).trans ?_;refine (ak (br e rfl rfl)).trans ?_;exact bz (ba (ar ((dA _ _).trans (by rw[zZ (by lia)])) rfl rfl))
 show (dv [.val (az G T W),.Ux,.Ux]).map _=_;rw[this];rfl
def lA(G T:List Pl)(W:List Wy):List (List Int):=(vh W [[]]).filter (J5 G T W)
def allR(G T:List Pl)(W:List Wy):List (List Int):=(lA G T W).filter λP=>decide (zp G T W P=[])
def yd:r∈vh W [[]]↔r.length=W.length/\∀k,k < W.length->0<=r.getD k 0/\r.getD k 0<=(aC W k).2.2:=by
 rw[EM];constructor
 ·rintro⟨r',h',q,hq,hb,rfl⟩;simp at h';subst h';exact⟨hq,hb⟩
 ·rintro⟨h1,h2⟩;exact⟨[],by simp,r,h1,h2,rfl⟩
def n9:X∈lA G T W↔Pn G T W X:=by
 unfold lA;rw[List.mem_filter,yd];constructor
 ·rintro⟨⟨h1,h2⟩,h3⟩;exact (wt h1).mp h3
 ·intro p;exact⟨⟨p.len,p.bd⟩,(wt p.len).mpr p⟩
def fH(h:Wd G T W):X∈allR G T W↔Pn G T W X/\Rs G T W X:=by
 unfold allR;rw[List.mem_filter,n9,zJ];constructor
 ·rintro⟨p,r⟩;exact⟨p,(nQ h p).mp r⟩
 ·rintro⟨p,r⟩;exact⟨p,(nQ h p).mpr r⟩
def nH:∀ (W:List Wy) (fs:List (List Int)),(∀w∈W,0<=w.2.2/\w.2.2<=2)->(vh W fs).length<=fs.length * 3 ^ W.length
 | [],fs,_=>by simp[vh]
 | w::W,fs,hl=>by
  rw[vh];refine yD (nH W _ λq hq=>hl q (zC _ hq)) ?_;have:=hl w zE;rw[ye,zL,Nat.pow_succ',<- Nat.mul_assoc];exact Nat.mul_le_mul_right _ (Nat.mul_le_mul_left _ (by lia))
def pZ(h:Wd G T W)(hl:∀w∈W,0<=w.2.2/\w.2.2<=2)(hw:W.length<=7):bQ [az G T W]=some (.list ((lA G T W).map af))/\(vh W [[]]).length<=2187:=by
 have hlen:(vh W [[]]).length<=2187:=by
  have:=nH W [[]] hl;rw[xD,Nat.one_mul] at this;exact yD this (yD (Nat.pow_le_pow_right (by lia) hw) (by decide))
 refine⟨?_,hlen⟩;refine aE ?_;show lD [.val (az G T W)]=_;unfold lD;refine (ak (gU (call_of (cR h) rfl rfl))).trans ?_;refine (ak (gU (call_of (yq hl hw) rfl rfl))).trans ?_;refine aF (dD (lR (g:=af) (f:=af) (q:=J5 G T W) (nZ (J1 hl hw) (cons_of (ar (jm G T W) rfl rfl) rfl) rfl) (by lia) λx hx=>⟨?_,λ_=>rfl⟩));let⟨h1,h2⟩:=yd.mp hx;exact ba (call_of (vq h h1 λk=>by
  by_cases hk:k < W.length
  ·have a:=h2 k hk;have b:=(h.wr _ (CT hk)).2.2.2;lia
  ·rw[fM (by lia)];lia) rfl rfl)
def wo(h:Wd G T W)(hl:∀w∈W,0<=w.2.2/\w.2.2<=2)(hw:W.length<=7):cB [az G T W]=some (.list ((allR G T W).map af))/\(allR G T W).length<=2187:=by
 let⟨e,hlen⟩:=pZ h hl hw;have hp:(lA G T W).length<=2187:=yD (xR _ _) hlen;refine⟨?_,yD (xR _ _) hp⟩;refine aE ?_;show lr [.val (az G T W)]=_;unfold lr;refine aF (dD (lR (g:=af) (f:=af) (q:=λP=>decide (zp G T W P=[])) (nZ e rfl rfl) (by lia) λx hx=>⟨?_,λ_=>rfl⟩));have p:=n9.mp hx;exact ba (call_of (BM h p.len (p.smP h)) rfl rfl)
def pJ(h:Wd G T W)(hl:∀w∈W,0<=w.2.2/\w.2.2<=2)(hw:W.length<=4):cB [az G T W]=some (.list ((allR G T W).map af))/\(allR G T W).length<=81:=by
 refine⟨(wo h hl (by lia)).1,?_⟩;refine yD (xR _ _) (yD (xR _ _) ?_);have:=nH W [[]] hl;rw[xD,Nat.one_mul] at this;exact yD this (yD (Nat.pow_le_pow_right (by lia) hw) (by decide))
def dz(b:Bool)(G T:List Pl)(W:List Wy)(P:List Int):List Int:=(List.range (aR b G T).length).map λ(i:Nat)=>ix b W P ((i:Nat):Int)
def AQ:(dz b G T W P).length=(aR b G T).length:=by simp[dz]
def Es(hi:i < (aR b G T).length):(dz b G T W P).getD i 0=ix b W P i:=by simp[dz,hi]
def mw(h:Wd G T W)(p:Pn G T W P)(b:Bool):ft [az G T W,af P,.int (sI b)]=some (af (dz b G T W P)):=by
 have hl:=h.pl b;refine aE ?_;show iA [.val (az G T W),.val (af P),.val (.int (sI b))]=_;unfold iA;have c:aq 1 [0,1,2] acp (fG 0) (λ_=>some true) acr [some (az G T W),some (af P),some (.int (sI b))]=some ((List.range (aR b G T).length).map λ(i:Nat)=>.int (ix b W P ((i:Nat):Int))) :=
  dX (fV (Js (b:=b) rfl rfl) (by lia)) (by rw[zR];lia) λi _=>call_of (pj h p.len (p.smP h) b i) rfl rfl
 refine aF ?_;show bD bp acs [some (az G T W),some (af P),some (.int (sI b))]=_;rw[lI (dD c),Cb];unfold dz af;rw[zM];rfl
def sM(h:Wd G T W):jh [az G T W]=some (.tuple [af (dz false G T W (cW G T W)),af (dz true G T W (cW G T W))]):=by
 refine aE ?_;show sQ [.val (az G T W),.Ux]=_;unfold sQ;refine (ak (bB (call_of (v9 h) rfl rfl) (call_of (v9 h) rfl rfl) rfl)).trans ?_;exact aF (tup_is (cons_of (call_of (mw h (eU h) false) rfl rfl) (cons_of (call_of (mw h (eU h) true) rfl rfl) rfl)) (by simp))
def shr(b:Bool)(G T:List Pl)(W:List Wy):List Nat:=(List.range (aR b G T).length).filter λ(i:Nat)=>decide (ix b W (cW G T W) ((i:Nat):Int) < amt b G T i)
def Mn(h:Wd G T W)(b:Bool):j3 [az G T W,.int (sI b)]=some (.list ((shr b G T W).map nD)):=by
 have hl:=h.pl b;refine aE ?_;show y6 [.val (az G T W),.val (.int (sI b)),.Ux]=_;unfold y6;refine (ak (gU (call_of (cR h) rfl rfl))).trans ?_;refine (ak (gU (call_of (nW b) rfl rfl))).trans ?_;have hix:ay (.tuple [af (dz false G T W (cW G T W)),af (dz true G T W (cW G T W))]) (.int (sI b))=some (af (dz b G T W (cW G T W))):=by cases b<;>rfl
 refine (ak (bB (ar hix (call_of (sM h) rfl rfl) rfl) (ar hix (call_of (sM h) rfl rfl) rfl) rfl)).trans ?_;have he:bf acv [some (az G T W),some (.int (sI b)),some (af (dz b G T W (cW G T W)))]=some ((List.range (aR b G T).length).map λi=>.tuple [nD i,aW (bM b G T i)]):=by
  have:=j4 (aR b G T);unfold bM;rw[<- this];cases b<;>rfl
 refine aF (dD ?_);exact gS (cs:=[2]) (x:=nD) (y:=λi=>aW (bM b G T i)) (p:=λi=>decide (ix b W (cW G T W) i < amt b G T i)) (h:=nD) he (by lia) λi hi=>⟨ba (ar (ig (ix b W (cW G T W) i) (amt b G T i)) (ar ((fQ (by rw[AQ];exact hi)).trans (by rw[Es hi])) rfl rfl) (ar (a:=aW (bM b G T i)) (b:=.int 0) rfl rfl rfl)),λ_=>rfl⟩
def CG(l:List (List Int))(k:Nat):Bool:=l.all λP=>decide (P.getD k 0=(l.getD 0 []).getD k 0)
def BL(hl:∀P∈l,P.length=n)(UN:l≠[])(hle:l.length<=1000)(hk:k < n):nh [.list (l.map af),nD k]=some (.bool (CG l k)):=by
 let⟨p0,l',rfl⟩:=List.exists_cons_of_ne_nil UN;refine aE ?_;show mM [.val (.list ((p0::l').map af)),.val (nD k)]=_;unfold mM;have h0:ay (.list ((p0::l').map af)) (.int 0)=some (af p0):=qk (f:=af) (l:=p0::l') (i:=0) rfl;have c:aq 1 [0,1] aaE (fG 0) (λ_=>some true) acm [some (.list ((p0::l').map af)),some (nD k)]=some (((p0::l').filter λ_=>true).map λP=>.bool (decide (P.getD k 0=p0.getD k 0))) :=
  lY (g:=af) (f:=λP=>.bool (decide (P.getD k 0=p0.getD k 0))) (q:=λ_=>true) rfl hle λP hP=>⟨rfl,λ_=>ar (bU _ _) (ar (fQ (by rw[hl P hP];exact hk)) rfl rfl) (ar (fQ (by rw[hl p0 zE];exact hk)) (ar h0 rfl rfl) rfl)⟩
 refine aF ?_;show bD lu acn [some (.list ((p0::l').map af)),some (nD k)]=_;rw[lI (dD c),show (p0::l').filter (λ_=>true)=p0::l' by simp];have key:∀ (m:List (List Int)) (f:List Int->Bool),boolsOf (m.map λP=>PyData.bool (f P))=some (m.map f):=λm f=>by
  induction m with
  | nil=>rfl
  | cons d m ih=>simp[boolsOf,ih]
 simp?[lu,oneOf,zA,key,zB,List.all_map];rfl
def Bt(G T:List Pl)(W:List Wy):List Nat:=(List.range W.length).filter (CG (allR G T W))
def GJ(P:List Int):bH 0 (P.map PyData.int)=(List.range P.length).map λi=>.tuple [nD i,.int (P.getD i 0)]:=by
 rw[enum_zip];apply jJ
 ·simp
 ·intro i h1 h2;have:i < P.length:=by simpa using h2
  simp[this]
def dc(G T:List Pl)(W:List Wy):List Int:=(allR G T W).getD 0 []
def lX(h:Wd G T W):allR G T W≠[]:=λz=>by
 have:cW G T W∈allR G T W:=(fH h).mpr ⟨eU h,BQ h⟩;rw[z] at this;cases this
def Du(h:Wd G T W):dc G T W∈allR G T W:=by
 unfold dc;have:=List.length_pos_iff.mpr (lX h);rw[zG,zK this];exact qC this
def Io(h:Wd G T W)(hl:∀w∈W,0<=w.2.2/\w.2.2<=2)(hw:W.length<=4):k8 [az G T W]=some (.list ((Bt G T W).map λk=>af [((k:Nat):Int),(dc G T W).getD k 0])):=by
 let⟨er,hr⟩:=pJ h hl hw;have hlen:∀P∈allR G T W,P.length=W.length:=λP hP=>((fH h).mp hP).1.len;have hf:=hlen _ (Du h);have Vg:=List.length_pos_iff.mpr (lX h);have h0:ay (.list ((allR G T W).map af)) (.int 0)=some (af (dc G T W)):=qk (f:=af) (i:=0) (by unfold dc;simp[Vg]);refine aE ?_;show so [.val (az G T W),.Ux]=_;unfold so;refine (ak (bB (call_of er rfl rfl) (call_of er rfl rfl) rfl)).trans ?_;have he:bf (aa XO ag) [some (az G T W),some (.list ((allR G T W).map af))]=some ((List.range W.length).map λi=>.tuple [nD i,.int ((dc G T W).getD i 0)]):=by
  rw[<- hf,<- GJ];unfold bf;rw[cons_of (ar h0 rfl rfl) rfl];rfl
 refine aF (dD ?_);exact gS (cs:=[1]) (x:=nD) (y:=λi=>.int ((dc G T W).getD i 0)) (p:=CG (allR G T W)) (h:=λk=>af [((k:Nat):Int),(dc G T W).getD k 0]) he (by lia) λi hi=>⟨ba (call_of (BL hlen (lX h) (by lia) hi) rfl rfl),λ_=>tup_is (ds:=[nD i,.int ((dc G T W).getD i 0)]) rfl (by simp)⟩
def ID(hi:i < ns.length)(hj:j < ns.length)(UN:ns.getD i 0≠ns.getD j 0):2<=many ns:=by
 unfold many;have ha:=firstMet_any (λi=>ns.getD i 0) ns.length (ns.getD i 0);have hb:=firstMet_any (λi=>ns.getD i 0) ns.length (ns.getD j 0);have h1:(firstMet (λi=>ns.getD i 0) ns.length).any (· == ns.getD i 0)=true:=by rw[ha];exact List.any_eq_true.mpr ⟨_,List.mem_map.mpr ⟨i,by simpa using hi,rfl⟩,by simp⟩
 have h2:(firstMet (λi=>ns.getD i 0) ns.length).any (· == ns.getD j 0)=true:=by rw[hb];exact List.any_eq_true.mpr ⟨_,List.mem_map.mpr ⟨j,by simpa using hj,rfl⟩,by simp⟩
 match hh:firstMet (λi=>ns.getD i 0) ns.length with
 | []=>rw[hh] at h1;simp at h1
 | [a] =>
  rw[hh] at h1 h2;simp at h1 h2;exact absurd (h1.symm.trans h2) (by simpa using UN)
 | a::c::r=>simp
def Ep(h:x∈L):mW (af L) (.int x)=some (nD (mi L x)):=by
 show (intsOf (L.map PyData.int)).bind _=_;rw[cn,zA,l9 h];rfl
def Iq(h:x∈L):mi L x < L.length:=kX ⟨x,h,by simp⟩
def Gy(h:x∈L):L[mi L x]?=some x:=by
 have hl:=Iq h;have:=wW (xs:=L) (p:=λo=>decide (o=x)) (w:=hl);rw[zK hl];exact jE some (yR this)
def Dq(hn:L.Nodup):x∈L.drop n↔x∈L/\n<=mi L x:=by
 constructor
 ·intro h;have hm:=wV h;refine⟨hm,?_⟩;let⟨m,hm1,hm2⟩:=qT h;rw[List.getElem_drop] at hm2;have h1:L[n+m]?=some x:=by rw[zK (by rw[qK] at hm1;lia),hm2]
  have h2:=Gy hm;have:n+m=mi L x:=by
   have hl:=Iq hm;exact (List.getElem?_inj (by rw[qK] at hm1;lia) hn).mp (h1.trans h2.symm)
  lia
 ·rintro⟨hm,hle⟩;have h2:=Gy hm;have:(L.drop n)[mi L x - n]?=some x:=by rw[List.getElem?_drop,show n+(mi L x - n)=mi L x by lia];exact h2
  exact qD this
def LG(b:Bool)(W:List Wy)(P L:List Int)(j:Int)(o:Int)(i:Nat):Bool:=decide (aP b (aC W i)=j)&&(decide (0 < P.getD i 0)&&decide (mi L o < mi L (bE b (aC W i))))
def Of(h:Wd G T W){b:Bool}{j:Nat}{pl:Pl}(e:(aR b G T)[j]?=some pl)(o:Int):(List.range W.length).any (LG b W P pl.2 j o)=(pl.2.drop (mi pl.2 o+1)).any λo=>decide (0 < P.getD (oh b W j o) 0):=by
 have hn:pl.2.Nodup:=by
  have:=(dh h e).nodup_iff.mpr (List.nodup_range.filter _);unfold eI at this;exact List.Pairwise.of_map _ (λa b Vz e=>Vz (jE _ e)) this
 rw[vF,List.any_eq_true,List.any_eq_true];constructor
 ·rintro⟨i,hi,hq⟩;unfold LG at hq;simp?[zF,zJ] at hq;let⟨h1,h2,h3⟩:=hq;have U5:i < W.length:=by simpa using hi
  have io:i∈own b W j:=bY.mpr ⟨U5,h1⟩;have ip:=(dh h e).mem_iff.mpr io;unfold eI at ip;let⟨y,hy,hyi⟩:=List.mem_map.mp ip;have hyo:=(hZ h e hy).2.2;rw[hyi] at hyo;refine⟨y,(Dq hn).mpr ⟨hy,by rw[<- hyo];lia⟩,?_⟩;rw[hyi];simpa using h2
 ·rintro⟨y,hy,hq⟩;let⟨hm,hle⟩:=(Dq hn).mp hy;let⟨h1,h2,h3⟩:=hZ h e hm;refine⟨oh b W j y,by simpa using h1,?_⟩;unfold LG;rw[h3];simp?[zF,zJ] at hq ⊢;exact⟨h2,hq,by lia⟩
abbrev sW(G T:List Pl)(W:List Wy)(P:List Int)(b:Bool)(j:Nat)(o:Int)(x y z:Slot):au:=[.val (az G T W),.val (af P),.val (.int (sI b)),.val (nD j),.val (.int o),x,y,z]
abbrev sY(G T:List Pl)(W:List Wy)(P:List Int)(k:Nat):au:=[.val (az G T W),.val (af P),.val (nD k),.val (.int (aC W k).1),.val (.int (aC W k).2.1),.val (.int (aC W k).2.2)]
def Us:au->Option Out:=Y7
def pQ(h:Wd G T W)(hp:P.length=W.length)(hs:Sm P)(b:Bool){k:Nat}(hk:k < W.length):gm [az G T W,af P,.int (sI b),.int (aP b (aC W k)),.int (bE b (aC W k))]=some (.bool (pX b G T W P k)):=by
 have hw:=h.wl;let⟨z1,z2,z3⟩:=h.UX b hk;have hx:(aR b G T)[(aP b (aC W k)).toNat]?=some (bM b G T (aP b (aC W k)).toNat):=by
  rw[zK z2];simp[bM,z2]
 have WH:∀i,i < W.length->aP b (aC W i)=((aP b (aC W k)).toNat:Int)->bE b (aC W i)∈(bM b G T (aP b (aC W k)).toNat).2:=λi hi he=>by
  have io:i∈own b W ((aP b (aC W k)).toNat:Int):=bY.mpr ⟨hi,he⟩;have ip:=(dh h hx).mem_iff.mpr io;unfold eI at ip;let⟨y,hy,hyi⟩:=List.mem_map.mp ip;have hyo:=(hZ h hx hy).2.2;rw[hyi] at hyo;rw[hyo];exact hy
 have hko:=WH k hk z3.symm;have adn:=Of (P:=P) h hx (bE b (aC W k));have hm:pX b G T W P k=(decide (ix b W P ((aP b (aC W k)).toNat:Int) < (bM b G T (aP b (aC W k)).toNat).1)||((bM b G T (aP b (aC W k)).toNat).2.drop (mi (bM b G T (aP b (aC W k)).toNat).2 (bE b (aC W k))+1)).any λo=>decide (0 < P.getD (oh b W ((aP b (aC W k)).toNat:Int) o) 0)):=by
  unfold pX;rw[z3]
 rw[hm,<- adn];have ez:PyData.int (aP b (aC W k))=nD (aP b (aC W k)).toNat:=by show _=PyData.int _;rw[z3]
 rw[ez];generalize U7:bM b G T (aP b (aC W k)).toNat=pl at *;generalize hj:(aP b (aC W k)).toNat=j at *;generalize ho:bE b (aC W k)=o at *;clear hm adn ez;have ep:ay (.tuple ((aR b G T).map aW)) (nD j)=some (aW pl):=mT hx;refine aE ?_;show kb (sW G T W P b j o .Ux .Ux .Ux)=_;unfold kb;have ct:Y1 (aG (sW G T W P b j o .Ux .Ux .Ux))=some (decide (ix b W P j < pl.1)):=by
  refine ba (ar (ig _ _) (call_of (mE h hp hs b j) rfl rfl) ?_);exact ar (a:=aW pl) (b:=.int 0) rfl (ar ep (ar (gp b G T W) rfl rfl) rfl) rfl
 cases hc:decide (ix b W P j < pl.1) with
 | true =>
  rw[hc] at ct;exact eB ((bV ct).trans (aF rfl))
 | false =>
  rw[hc] at ct;rw[ak (bz ct),Bool.false_or];have er:∀ρ:Dl.Env,ae 0 ρ=some (az G T W)->ae 2 ρ=some (.int (sI b))->ae 3 ρ=some (nD j)->Y2 ρ=some (af pl.2):=λρ h0 h2 h3=>ar (a:=aW pl) (b:=.int 1) rfl (ar ep (ar (gp b G T W) h0 h2) h3) rfl;rw[ak (bB (er _ rfl rfl rfl) (er _ rfl rfl rfl) rfl)];let⟨f1,WA⟩:=eN (tgt:=gz 6 7) (gb:=Us) (λρ=>∃x y,ρ=(sW G T W P b j o (.val (af pl.2)) x y)) (λi:Nat=>.tuple [.int (P.getD i 0),ao (aC W i)]) (LG b W P pl.2 j o) (λ_=>.bool true)
   (l:=List.range W.length) (ρ:=(sW G T W P b j o (.val (af pl.2)) .Ux .Ux))
   (λρ i hi VW=>by
    let⟨x,y,rfl⟩:=VW;have U5:i < W.length:=by simpa using hi
    have c:Y6 (aG (sW G T W P b j o (.val (af pl.2)) (.val (.int (P.getD i 0))) (.val (ao (aC W i)))))=some (LG b W P pl.2 j o i):=by
     have c1:Y4 (aG (sW G T W P b j o (.val (af pl.2)) (.val (.int (P.getD i 0))) (.val (ao (aC W i)))))=some (decide (aP b (aC W i)=((j:Nat):Int))):=ba (ar (bU _ _) (ar (nY b _) rfl rfl) rfl);unfold LG;cases e1:decide (aP b (aC W i)=((j:Nat):Int)) with
     | false=>rw[e1] at c1;exact qr c1
     | true =>
      rw[e1] at c1;refine nX c1 ?_;have c2:Y5 (aG (sW G T W P b j o (.val (af pl.2)) (.val (.int (P.getD i 0))) (.val (ao (aC W i)))))=some (decide (0 < P.getD i 0)):=ba (ar (dA _ _) rfl rfl);cases e2:decide (0 < P.getD i 0) with
      | false=>rw[e2] at c2;exact qr c2
      | true =>
       rw[e2] at c2;refine nX c2 ?_;have hio:=WH i U5 (by simpa using e1);have afC:ay (ao (aC W i)) (.int (1 - sI b))=some (.int (bE b (aC W i))):=by cases b<;>rfl
       refine (ba (ar (dA _ _) (ar (Ep hio) rfl (ar afC rfl (ar (sub_int 1 (sI b)) rfl rfl))) (ar (Ep hko) rfl rfl))).trans ?_
       congr 1
       exact decide_eq_decide.mpr (by lia)
    refine⟨_,rfl,λhq=>?_,λhq=>?_⟩
    ·rw[hq] at c;exact (bV c).trans (aF rfl)
    ·rw[hq] at c;exact⟨_,bz c,_,_,rfl⟩) ⟨_,_,rfl⟩
  have hz:eK Y3 (bJ (sW G T W P b j o (.val (af pl.2)) .Ux .Ux))=some ((List.range W.length).map λi=>.tuple [.int (P.getD i 0),ao (aC W i)]):=by
   rw[<- rN hp];rfl
  cases ef:(List.range W.length).find? (LG b W P pl.2 j o) with
  | some i =>
   have:(List.range W.length).any (LG b W P pl.2 j o)=true:=List.any_eq_true.mpr ⟨i,kA ef,wH ef⟩;rw[this];exact eB (br (f1 i ef) hz rfl)
  | none =>
   have:(List.range W.length).any (LG b W P pl.2 j o)=false:=by
    rw[List.any_eq_false];exact List.find?_eq_none.mp ef
   rw[this];let⟨ρ',e',x',y',rfl⟩:=WA ef;exact (ak (br e' hz rfl)).trans (aF rfl)
def JE(hf:f (bJ ρ)=some (.tuple [x,y,z]))(hh:hand fz 0 ρ=ρ):pd i j l fz f ρ=some (.nx (((ρ.set i (.val x)).set j (.val y)).set l (.val z))):=by
 unfold pd;rw[hh,hf,zA];show some (Out.nx ((((if _ then ρ else ρ).set i _).set j _).set l _))=_;rw[ite_self]
def Ft(h:Wd G T W)(hp:P.length=W.length)(hs:Sm P)(hk:k < W.length):mQ [az G T W,af P,nD k]=some (Nl (k4 G T W P k)):=by
 refine aE ?_;show mR [.val (az G T W),.val (af P),.val (nD k),.Ux,.Ux,.Ux]=_;unfold mR k4;have hw:aav (bJ [.val (az G T W),.val (af P),.val (nD k),.Ux,.Ux,.Ux])=some (.tuple [.int (aC W k).1,.int (aC W k).2.1,.int (aC W k).2.2]):=ar (oW hk) rfl rfl;refine (ak (JE hw rfl)).trans ?_;have c1:Y8 (aG (sY G T W P k))=some (decide (P.getD k 0=(aC W k).2.2)):=ba (ar (bU _ _) (ar (fQ (by rw[hp];exact hk)) rfl rfl) rfl);have w0:=pQ h hp hs false hk;have w1:=pQ h hp hs true hk;have c2:Y9 (aG (sY G T W P k))=some (!(pX false G T W P k)):=dq (ba (call_of w0 rfl rfl));have c3:Zu (aG (sY G T W P k))=some (pX true G T W P k):=ba (call_of w1 rfl rfl);by_cases e1:P.getD k 0=(aC W k).2.2
 ·rw[yA e1] at c1;rw[yM e1];exact eB ((bV c1).trans (aF rfl))
 ·rw[zZ e1] at c1;rw[yO e1];refine (ak (bz c1)).trans ?_;cases e2:pX false G T W P k with
  | false =>
   rw[e2] at c2;rw[yM rfl];exact eB ((bV c2).trans (aF rfl))
  | true =>
   rw[e2] at c2;rw[yO (by simp)];refine (ak (bz c2)).trans ?_;cases e3:pX true G T W P k with
   | false =>
    rw[e3] at c3;rw[yM rfl];exact aF (Po c3 rfl)
   | true =>
    rw[e3] at c3;rw[yO (by simp)];exact aF (Lp c3 rfl)
def AG(h:Wd G T W)(hp:P.length=W.length)(hs:Sm P):j5 [az G T W,af P]=some (.bool (decide (zp G T W P=[]))):=by
 have hw:=h.wl;refine aE ?_;show jx [.val (az G T W),.val (af P)]=_;unfold jx;have c:aq 1 [0,1] aaw (fG 0) Zv (ae 0) [some (az G T W),some (af P)]=some ((zp G T W P).map nD) :=
  Cf (fV (AD hp rfl) (by lia)) (by rw[zR];lia) λk hk=>⟨ba (ar (C3 _ (Jp G T W P k)) (call_of (Ft h hp hs (by simpa using hk)) rfl rfl) rfl),λ_=>rfl⟩
 exact aF (ar (F4 (zp G T W P)) (dD c) (nil_of _))
def RA:au->Option Out:=aci
def Kg{acc:List (List Int)}(hl:0<=w.2.2/\w.2.2<=9)(hr:r.length<=100)(ha:acc.length<=7000):RA [.val d,x1,.val (ao w),.own (acc.map af),.val (af r)]=some (.nx [.val d,x1,.val (ao w),.own ((acc++ext w.2.2 r).map af),.val (af r)]):=by
 have c:aq 1 [4] acg (fG 0) (λ_=>some true) (f2 aL (ae 1) (aJ VB)) (bJ [.val d,x1,.val (ao w),.val (.list (acc.map af)),.val (af r)])=some ((List.range (w.2.2+1).toNat).map λm=>af (r++[((m:Nat):Int)])):=by
  refine dX (fV (n:=(w.2.2+1).toNat) (cons_of ?_ rfl) (by lia)) (by rw[zR];lia) λm _=>ar (xw (a:=r) (b:=[((m:Nat):Int)]) (by simp;lia)) rfl (Me rfl);rw[show nD (w.2.2+1).toNat=.int (w.2.2+1) by show PyData.int _=_;congr 1;lia];exact ar (dF w.2.2 1) (ar (rm w) rfl rfl) rfl
 have hh:hand [2,3,4] 0 [Slot.val d,x1,.val (ao w),.own (acc.map af),.val (af r)]=[Slot.val d,x1,.val (ao w),.val (.list (acc.map af)),.val (af r)]:=rfl;have hz:(acc.map af).length+((List.range (w.2.2+1).toNat).map λm=>af (r++[((m:Nat):Int)])).length<=sizeLine:=by
  rw[zD,zD,zR];exact yD (show acc.length+(w.2.2+1).toNat<=8000 by lia) (by decide)
 have e:(acc++ext w.2.2 r).map af=acc.map af++(List.range (w.2.2+1).toNat).map λm=>af (r++[((m:Nat):Int)]):=by
  rw[jC,ext,zM];rfl
 rw[e];refine qu hh ?_;show (QN p9 _ _) _=_;unfold QN;rw[show ae 3 (bJ [Slot.val d,x1,.val (ao w),.val (.list (acc.map af)),.val (af r)])=some (.list (acc.map af)) from rfl,zA,dD c,zA];exact yM (by rw[zN];exact hz)
def S5:au->Option Out:=(aw Yy (aw (cX [1] Ws (ik 4) RA) YA))
def Do(hl:0<=w.2.2/\w.2.2<=2):∀ (fs acc:List (List Int)) (x4:Slot),(∀r∈fs,r.length<=16)->acc.length+3 * fs.length<=7000->∃y4,bN (ik 4) RA (fs.map af) [.val d,x1,.val (ao w),.own (acc.map af),x4]=some (.nx [.val d,x1,.val (ao w),.own ((acc++ni w.2.2 fs).map af),y4])
 | [],acc,x4,_,_=>⟨x4,by simp[ni,bN]⟩
 | r::fs,acc,x4,hr,hb=>by
  have he:(ext w.2.2 r).length<=3:=by unfold ext;rw[zD,zR];lia
  rw[zL] at hb;let⟨y4,e⟩:=Do (d:=d) (x1:=x1) hl fs (acc++ext w.2.2 r) (.val (af r)) (λq hq=>hr q (zC _ hq)) (by rw[zN];lia);have h1:=Kg (d:=d) (x1:=x1) (w:=w) (acc:=acc) (r:=r) ⟨hl.1,by lia⟩ (by have:=hr r zE;lia) (by lia);have ht:ik 4 [.val d,x1,.val (ao w),.own (acc.map af),x4] (af r)=some [.val d,x1,.val (ao w),.own (acc.map af),.val (af r)]:=rfl;refine⟨y4,?_⟩;rw[zI,bN,ht,zA,h1];show bN (ik 4) RA (fs.map af) _=_;rw[e,Ba,List.append_assoc]
def Kq(hl:0<=w.2.2/\w.2.2<=2)(hr:∀r∈fs,r.length<=16)(hf:fs.length<=2187)(h1:s1=.own (fs.map af)\/s1=.val (.list (fs.map af))):∃y3 y4,S5 [.val d,s1,.val (ao w),x3,x4]=some (.nx [.val d,.val (.list ((ni w.2.2 fs).map af)),.val (ao w),y3,y4]):=by
 let⟨y4,e⟩:=Do (d:=d) (x1:=.val (.list (fs.map af))) hl fs [] x4 hr (by simp;lia);rw[xQ] at e;have t1:aQ 3 [] Yv [.val d,s1,.val (ao w),x3,x4]=some (.nx [.val d,s1,.val (ao w),.own [],x4]):=cP (mU (ds:=[]) rfl (by simp)) rfl;have hh:hand [1] 0 [.val d,s1,.val (ao w),.own [],x4]=[Slot.val d,.val (.list (fs.map af)),.val (ao w),.own [],x4]:=by
  rcases h1 with rfl|rfl<;>rfl
 unfold S5;rw[ak t1];refine⟨.val (.list ((ni w.2.2 fs).map af)),y4,?_⟩;refine (ak (br e rfl hh)).trans ?_;exact jz (ρ':=[.val d,.val (.list (fs.map af)),.val (ao w),.val (.list ((ni w.2.2 fs).map af)),y4]) rfl (d:=.list ((ni w.2.2 fs).map af)) rfl rfl rfl (.inl rfl)
def Ef:∀ (W:List Wy) (fs:List (List Int)) (s1 x2 x3 x4:Slot),(∀w∈W,0<=w.2.2/\w.2.2<=2)->fs.length * 3 ^ W.length<=2187->(∀r∈fs,r.length<=16 - W.length)->W.length<=16->(s1=.own (fs.map af)\/s1=.val (.list (fs.map af))) ->
  ∃W3 y2 y3 y4,bN (ik 2) S5 (W.map ao) [.val d,s1,x2,x3,x4]=some (.nx [.val d,W3,y2,y3,y4])/\(W3=.own ((vh W fs).map af)\/W3=.val (.list ((vh W fs).map af)))
 | [],fs,s1,x2,x3,x4,_,_,_,_,h1=>⟨s1,x2,x3,x4,rfl,h1⟩
 | w::W,fs,s1,x2,x3,x4,hl,hf,hr,hw,h1=>by
  rw[zL] at hf hr hw;have hf1:fs.length<=2187:=yD (Nat.le_mul_of_pos_right _ (Nat.pow_pos (by lia))) hf;have hlw:=hl w zE;let⟨y3,y4,e⟩:=Kq (d:=d) (x3:=x3) (x4:=x4) hlw (λr Vr=>by have:=hr r Vr;lia) hf1 h1;have hll:(ni w.2.2 fs).length<=fs.length * 3:=by rw[ye];exact Nat.mul_le_mul_left _ (by lia)
  let⟨W3,z2,z3,z4,e2,h2⟩:=Ef (d:=d) W (ni w.2.2 fs) (.val (.list ((ni w.2.2 fs).map af))) (.val (ao w)) y3 y4 (λq hq=>hl q (zC _ hq)) (by
   refine yD (Nat.mul_le_mul_right _ hll) ?_;rw[Nat.mul_assoc,<- Nat.pow_succ'];exact hf) (λr Vr=>by
   have:=Et (n:=16 - (W.length+1)) hr r Vr;lia) (by lia) (.inr rfl)
  have ht:ik 2 [.val d,s1,x2,x3,x4] (ao w)=some [.val d,s1,.val (ao w),x3,x4]:=rfl;refine⟨W3,z2,z3,z4,?_,h2⟩;rw[zI,bN,ht,zA,e];exact e2
def AN(h:Wd G T W)(hl:∀w∈W,0<=w.2.2/\w.2.2<=2)(hw:W.length<=7):js [az G T W]=some (.list ((lA G T W).map af))/\(lA G T W).length<=2187:=by
 have hlen:(vh W [[]]).length<=2187:=by
  have:=nH W [[]] hl;rw[xD,Nat.one_mul] at this;exact yD this (yD (Nat.pow_le_pow_right (by lia) hw) (by decide))
 refine⟨?_,yD (xR _ _) hlen⟩;let⟨W3,z2,z3,z4,e2,h2⟩:=Ef (d:=az G T W) W [[]] (.own ([[]].map af)) .Ux .Ux .Ux hl (by
  rw[xD,Nat.one_mul];exact yD (Nat.pow_le_pow_right (by lia) hw) (by decide)) (λr hr=>by simp at hr;subst hr;simp) (by lia) (.inl rfl)
 refine aE ?_;show j8 [.val (az G T W),.Ux,.Ux,.Ux,.Ux]=_;unfold j8;refine (ak (cP (ds:=[[]].map af) (mU (cons_of (tup_is (ds:=[]) rfl (by simp)) rfl) (by simp)) rfl)).trans ?_;refine (ak (br e2 (wq (ar (jm G T W) rfl rfl)) rfl)).trans ?_;refine aF (dD ?_);have hs:aO (ae 1) (aG [.val (az G T W),W3,z2,z3,z4])=some ((vh W [[]]).map af):=by rcases h2 with rfl|rfl<;>rfl
 refine lR (g:=af) (f:=af) (q:=J5 G T W) hs (by lia) λx hx=>⟨?_,λ_=>rfl⟩
 let⟨h1,h2⟩:=yd.mp hx;have hb:QF W x=true:=List.all_eq_true.mpr λk hk=>by
  have:=h2 k (by simpa using hk);simp?[zF,zJ];exact this
 have Xl:J5 G T W x=NZ G T W x:=by unfold J5;rw[hb,jN,IL]
 rw[Xl];exact ba (call_of (BI h h1 λk=>by
  by_cases hk:k < W.length
  ·have a:=h2 k hk;have b:=(h.wr _ (CT hk)).2.2.2;lia
  ·rw[fM (by lia)];lia) rfl rfl)
def sh(k q:Nat):Nat:=if q < k then q else q+1
def nk(k:Nat):Nat->Bool:=λq=>!decide (q=k)
section
variable {G T:List Pl}{W:List Wy}{P X:List Int}{b:Bool}{i k q:Nat}
def of_map(b:Bool)(i:Int):∀ {W V:List Wy},W.map (λw=>(w.1,w.2.1))=V.map (λw=>(w.1,w.2.1))->(W.filter λw=>decide (aP b w=i)).map (bE b)=(V.filter λw=>decide (aP b w=i)).map (bE b)
 | [],[],_=>rfl
 | [],_::_,e=>by cases e
 | _::_,[],e=>by cases e
 | w::W,v::V,e=>by
  simp?[zI,vE,Prod.mk.injEq] at e;have e1:aP b w=aP b v:=by cases b<;>simp[aP,e.1]
  have e2:bE b w=bE b v:=by cases b<;>simp[bE,aP,e.1]
  have ih:=of_map b i (W:=W) (V:=V) e.2;rw[jZ,jZ,e1];split
  ·rw[zI,zI,ih,e2]
  ·exact ih
end
def iT{a c:List Int}(h:lexLt a c=false)(h2:lexLt c a=false):a=c:=sP (by unfold lexLe;rw[h2];rfl) (by unfold lexLe;rw[h];rfl)
section
open Ex
abbrev RM:Str:="NoWorld"
abbrev Pw:Str:="NoPlace"
structure nq(m:List D->Option D)(x:List D->Option Str)(ds:List D)(c:Str):Prop where
 n:m ds=none
 x:x ds=some c
structure JY(m:List D->Option D)(x:List D->Option Str)(ds:List D):Prop where
 n:m ds=some .none
 x:x ds=none
section
variable {m:List D->Option D}{x:List D->Option Str}{ds:List D}{c:Str}{n:Nat}{fs:Dl.Env->Option (List D)}{ρ:au}
def uZ(h:m ds=none){ρ:Dl.Env}(hf:fs ρ=some ds):aj n m fs ρ=none:=by
 unfold aj;rw[hf,zA,h];simp
def PL(h:x ds=some c){ρ:Dl.Env}(hf:fs ρ=some ds)(hn:ds.length=n):sO n x fs ρ=some c:=by
 unfold sO;rw[hf,zA,yM hn,h]
def Ud(h:x ds=none){ρ:Dl.Env}(hf:fs ρ=some ds):sO n x fs ρ=none:=by
 unfold sO;rw[hf,zA,h];simp
def SR(h:f (aG ρ)=none):jn f ρ=none:=by
 unfold jn;rw[h];rfl
def nq.one(B:nq m x ds c)(hf:fs (aG ρ)=some ds)(hn:ds.length=n):jn (aj n m fs) ρ=none/\iH (sO n x fs) ρ=some c:=⟨SR (uZ B.n hf),PL B.x hf hn⟩
def JY.one(B:JY m x ds)(hf:fs (aG ρ)=some ds)(hn:ds.length=n):jn (aj n m fs) ρ=some (.nx ρ)/\iH (sO n x fs) ρ=none:=⟨gU (call_of B.n hf hn),Ud B.x hf⟩
def nq.head(B:nq m x ds c)(hf:fs (aG ρ)=some ds)(hn:ds.length=n):aw (jn (aj n m fs)) g ρ=none/\gg (iH (sO n x fs)) (jn (aj n m fs)) xr ρ=some c:=by
 let⟨a,b⟩:=B.one hf hn;constructor
 ·unfold aw;rw[a];rfl
 ·unfold gg;rw[b]
def JY.tail(B:JY m x ds)(hf:fs (aG ρ)=some ds)(hn:ds.length=n):aw (jn (aj n m fs)) g ρ=g ρ/\gg (iH (sO n x fs)) (jn (aj n m fs)) xr ρ=xr ρ:=by
 let⟨a,b⟩:=B.one hf hn;constructor
 ·exact ak a
 ·unfold gg ya;rw[b,a];rfl
def runN(h:g (ds.map Slot.val++List.replicate (n - ds.length) .Ux)=none):aV g n ds=none:=by
 unfold aV;rw[h];rfl
def Ru(h:t (aG ρ)=some true):Jm t xa xb ρ=xa ρ:=by
 unfold Jm;rw[h,zA,yM rfl]
def NY(h:t (aG ρ)=some false):Jm t xa xb ρ=xb ρ:=by
 unfold Jm;rw[h,zA,yO (by simp)]
end
section
variable {G T:List Pl}{W:List Wy}{P X:List Int}{b:Bool}{i:Nat}
def E8(h:bT [d]=some (.bool false)):nq aZ bq [d] RM:=by
 have c:zq3 (aG [.val d])=some true:=dq (b:=false) (ba (call_of h rfl rfl));exact⟨runN (bV c),Ru c⟩
def Tu(h:Wd G T W):JY aZ bq [az G T W]:=⟨cR h,NY (dq (b:=true) (ba (call_of (tw h) rfl rfl)))⟩
def Sx(hd:ij d=true)(h:whole a e d=false):nq dG fy [d,.int a,.int e] Pw:=by
 have c:WY (aG [.val d,.val (.int a),.val (.int e)])=some true:=dq (b:=false) (ba (call_of ((dR hd a e).trans (by rw[h])) rfl rfl));exact⟨runN (bV c),Ru c⟩
def Uu(hd:ij d=true)(h:whole a e d=true):JY dG fy [d,.int a,.int e]:=by
 have c:WY (aG [.val d,.val (.int a),.val (.int e)])=some false:=dq (b:=true) (ba (call_of ((dR hd a e).trans (by rw[h])) rfl rfl));refine⟨?_,NY c⟩;show (cO [.val d,.val (.int a),.val (.int e)]).map _=_;rw[show cO [.val d,.val (.int a),.val (.int e)]=some (.nx [.val d,.val (.int a),.val (.int e)]) from bz c];rfl
def RV(hd:ij d=true)(h:whole 0 (n - 1) d=false):nq dg eD [d,.int n] Pw :=
 let z:=(Sx hd h).one (ρ:=[.val d,.val (.int n)]) (fs:=aa (ae 0) XR) (n:=3) rfl rfl
 ⟨runN z.1,z.2⟩
def okN(hd:ij d=true)(h:whole 0 (n - 1) d=true):JY dg eD [d,.int n]:=by
 have z:=(Uu hd h).one (ρ:=[.val d,.val (.int n)]) (fs:=aa (ae 0) XR) (n:=3) rfl rfl;refine⟨?_,z.2⟩;show (cy [.val d,.val (.int n)]).map _=_;rw[show cy [.val d,.val (.int n)]=_ from z.1];rfl
def ML(b:Bool):JY dy ee [.int (sI b)]:=by
 have hb:whole 0 (2 - 1) (.int (sI b))=true:=by cases b<;>rfl
 exact⟨nW b,((okN (n:=2) rfl hb).one (ρ:=[.val (.int (sI b))]) (fs:=aa (ae 0) Y0) (n:=2) rfl rfl).2⟩
def M4{fin:Str->Option D}(h:gb ρ=some (.rt d)):zu gb xg fin ρ=some (.rt d):=by
 unfold zu;rw[h]
def Jd{fin:Str->Option D}(h:gb ρ=none)(h2:xg ρ=some c)(h3:fin c=some d):zu gb xg fin ρ=some (.rt d):=by
 unfold zu;rw[h,h2];simp?[zA,h3,zB]
def dw(j:Int):D:=.tuple [.str "refused",.int j]
abbrev Ik:List Str:=["NoWorld","NoPlan","NoPlace","TooMany","Nothing"]
def Ct(h:Ik.contains c=true)(hj:ug (.bool true) (Ik.map λn=>.bool (c == n))=some j):n8 Ik c=some (dw j):=by
 unfold n8;rw[yM h,hj];rfl
def Oq(b:Bool):PyData.eqv (.bool b) (.bool true)=b:=by cases b<;>simp[PyData.eqv]
def Fc:n8 Ik RM=some (dw 0):=Ct (by decide +kernel) (by simp?[Ik,zI,ug,Oq,show (RM == ("NoWorld":Str))=true by decide +kernel,xJ])
def Sf:n8 Ik Pw=some (dw 2):=Ct (by decide +kernel) (by simp?[Ik,zI,ug,Oq,show (Pw == ("NoWorld":Str))=false by decide +kernel,show (Pw == ("NoPlan":Str))=false by decide +kernel,show (Pw == ("NoPlace":Str))=true by decide +kernel,xJ,yP,qS,zB])
def EA(j:Int):PyData.eqv (dw j) (dw j)=true:=Dy λd hd=>by
 simp?[zQ,yF,xW] at hd;rcases hd with rfl|rfl
 ·simp[PyData.eqv]
 ·exact GL j
def lz(j:Int):∀n:Nat,SeqAt.shaped (.list (List.replicate n (dw j)))=true:=λn=>by
 have h:∀n:Nat,PyData.canLayAll0 (List.replicate n (dw j))=true/\PyData.depthAll (List.replicate n (dw j))<=2:=λn=>by
  have hs:PyData.canLay0 (dw j)=true:=by simp[dw,PyData.canLay0,PyData.canLayAll0];decide +kernel
  have hd:PyData.depth (dw j)<=2:=by simp[dw,PyData.depth,PyData.depthAll]
  induction n with
  | zero=>exact⟨by simp[PyData.canLayAll0],by simp[PyData.depthAll]⟩
  | succ n ih=>exact⟨by simp[xG,PyData.canLayAll0,hs,ih.1],by simp?[xG,PyData.depthAll];lia⟩
 have:=h n;unfold SeqAt.shaped;rw[zF];exact⟨by simp[PyData.canLay0,this.1],by simp[PyData.depth];lia⟩
def AM(j:Int)(n:Nat):PyData.eqv (.list (List.replicate n (dw j))) (.list (List.replicate n (dw j)))=true:=by
 rw[PyData.eqv];exact ib λd hd=>by rw[List.eq_of_mem_replicate hd];exact EA j
def F0(j:Int)(n:Nat):bC (.list (List.replicate n (dw j))) (.list (List.replicate n (dw j)))=some (.bool true):=by simp?[bC,Lf,lz,jR,xJ,AM,zB]
def FZ(j:Int)(n:Nat):gN (.list (List.replicate n (dw j))) (.list (List.replicate n (dw j)))=some (.bool false):=by simp?[gN,Kt,lz,jR,xJ,AM,zB];rfl
def uv(a:α):∀n:Nat,(List.replicate n [a]).flatten=List.replicate n a
 | 0=>rfl
 | n+1=>by rw[xG,qP,uv a n,xG];rfl
def AL(j:Int){n:Nat}(hn:n<=10)(ρ:Dl.Env):bS (uK (eX (aa (aJ (aa (fC (.str "refused")) (aa (fC (.int j)) ag))) ag)) (fC (.int n))) ρ=some (.list (List.replicate n (dw j))):=by
 refine dD ?_;have hr:eX (aa (aJ (aa (fC (.str "refused")) (aa (fC (.int j)) ag))) ag) ρ=some [dw j]:=mU (cons_of (tup_is rfl (by simp)) rfl) (by simp);have hg:ED [dw j] (.int ((n:Nat):Int))=some (List.replicate n [dw j]).flatten:=by
  have:=IB (ds:=[dw j]) (k:=((n:Nat):Int)) (yn (by lia)) (by rw[xD,Nat.one_mul,yG];exact yD hn (by decide));rw[yG] at this;exact this
 have hc:(fC (.int ((n:Nat):Int)):Dl.Env->Option D) ρ=some (.int ((n:Nat):Int)):=rfl;unfold uK;rw[hr,zA,hc,zA,hg,uv]
def vc{cs:List Nat}{ρ:Dl.Env}{is:List Nat}(Vx:fi ρ=some (is.map nD))(hl:is.length<=1000)(hh:∀i∈is,te (some (nD i)::cs.map λj=>(ρ[j]?).getD none)=some (dw j)):bS (aq 1 cs fi (fG 0) (λ_=>some true) te) ρ=some (.list (List.replicate is.length (dw j))):=by
 rw[dD (dX (f:=λ_=>dw j) Vx hl hh),List.map_const']
end
end
def Ka(h:f (aG ρ)=none):aM f ρ=none:=by
 unfold aM;rw[h];rfl
def QX(h:xh ρ=some c):Ex.gg xh g xr ρ=some c:=by
 unfold Ex.gg;rw[h]
def QK(h:xh ρ=none)(hg:g ρ=some (.nx ρ)):Ex.gg xh g xr ρ=xr ρ:=by
 unfold Ex.gg Ex.ya;rw[h,hg];rfl
def QQ(h:g1 ρ=none):aw g1 g2 ρ=none:=by
 unfold aw;rw[h];rfl
def Ld(h:Wd G T W):bT [.tuple [.tuple (G.map aW),.tuple (T.map aW)]]=some (.bool false):=by
 have hf:∀x∈[PyData.tuple (G.map aW),.tuple (T.map aW),.tuple (W.map ao)],iz 16 3 x:=by
  rcases h.fit with z|⟨xs,z,_,z2⟩
  ·exact z.elim
  ·rcases z with z|z
   ·cases z
   ·cases z;exact z2
 have Wz:iz 16 4 (.tuple [.tuple (G.map aW),.tuple (T.map aW)]):=.tup (by simp) λx hx=>hf x (by simp?[zQ,yF,xW] at hx ⊢;rcases hx with rfl|rfl<;>simp);rw[mP Wz (by decide)];rfl
def CL(j:Int):SeqAt.shaped (dw j)=true:=by
 have:=lz j 1;simp[SeqAt.shaped,dw,PyData.canLay0,PyData.canLayAll0,PyData.depth,PyData.depthAll];decide +kernel
def Hj(j:Int):gN (dw j) (dw j)=some (.bool false):=by simp?[gN,Kt,CL,jR,xJ,EA,zB];rfl
def Nu{fl:Dl.Env->Option (Option Int)}{lo:Option Int}(h:f ρ=some (.tuple ds))(hl:fl ρ=some lo)(hh:fh ρ=some hi):gE cU f fl fh ρ=some (.tuple (cut ds lo hi)):=by
 simp?[gE,h,hl,hh,zA,cU]
def Ih(h:g ρ=some (.int i)):ui g ρ=some (some i):=by
 simp?[ui,h,gI,zA,zB]
def Ql(h:f ρ=some d):f1 g f ρ=g d:=by unfold f1;rw[h];rfl
def Ui(h0:0<=i)(h:i < (ds.length:Int)):ay (.list ds) (.int i)=some (ds.getD i.toNat .none):=by
 have:i.toNat < ds.length:=by lia
 show qa ds i=_;unfold qa DZ;rw[yM h0,yM h,zA];simp[this]
def Oz(B:nq aZ bq [w] c):nq bQ cZ [w] c :=
 let z:=B.head (ρ:=[.val w]) (fs:=aa (ae 0) ag) rfl rfl
 ⟨runN z.1,z.2⟩
def O7(O:JY aZ bq [w])(B:nq du eC [w] c):nq bQ cZ [w] c:=by
 have t:=λg xr=>O.tail (ρ:=[.val w]) (fs:=aa (ae 0) ag) (n:=1) rfl rfl (g:=g) (xr:=xr);have z:=λg=>B.head (ρ:=[.val w]) (fs:=aa (ae 0) ag) (n:=1) rfl rfl (g:=g) (xr:=Ex.mX);have z2:=B.one (ρ:=[.val w]) (fs:=aa (ae 0) ag) (n:=1) rfl rfl;exact⟨runN ((t _ Ex.mX).1.trans (z _).1),(t fv _).2.trans z2.2⟩
def Dr(B:nq bQ cZ [w] c):nq cB dW [w] c:=by
 refine⟨runN (Ka ?_),PL (n:=1) (ρ:=aG [.val w]) (fs:=aa (ae 0) ag) B.x rfl rfl⟩;have:aj 1 bQ VB (aG [.val w])=none:=uZ B.n rfl;show bS (aq 1 [0] (aO (aj 1 bQ VB)) (fG 0) _ _) (aG [.val w])=none;unfold bS aq aO;rw[this];rfl
def Ds:∀ {a b c d:List Int},a.length=b.length->lexLt a b=true->lexLt (a++c) (b++d)=true
 | [],[],_,_,_,h=>by rw[dO] at h;cases h
 | [],_::_,_,_,e,_=>by cases e
 | _::_,[],_,_,e,_=>by cases e
 | x::a,y::b,c,d,e,h=>by
  have h:HT.lexLt (x::a) (y::b)=true:=h;show HT.lexLt _ _=_;rw[HT.cm] at h;rw[xH,xH,HT.cm];split at h
  ·rename_i z;rw[yM z];exact Ds (by simpa using e) h
  ·rename_i z;rw[yO z];exact h
def Dd:∀ (a:List Int) {c d:List Int},lexLt (a++c) (a++d)=lexLt c d
 | [],_,_=>rfl
 | x::a,c,d=>by
  show HT.lexLt _ _=_;rw[xH,xH,HT.cm,yM rfl];exact Dd a
def Nx{fs:List (List Int)}(hn:∀r∈fs,r.length=n)(hp:fs.Pairwise λa b=>Dl.lexLt a b=true):(ni l fs).Pairwise (λa b=>Dl.lexLt a b=true)/\∀r∈ni l fs,r.length=n+1:=by
 constructor
 ·unfold ni;rw[List.pairwise_flatten];constructor
  ·intro L hL;let⟨r,_,rfl⟩:=List.mem_map.mp hL;rw[jG];refine List.Pairwise.imp ?_ List.pairwise_lt_range;intro p q hpq;rw[Dd];show HT.lexLt [_] [_]=true;rw[HT.cm,yO (by lia)];exact yA (by lia)
  ·rw[jG];refine List.Pairwise.imp_of_mem ?_ hp;intro r q hr hq hrq x hx y hy;let⟨_,_,rfl⟩:=List.mem_map.mp hx;let⟨_,_,rfl⟩:=List.mem_map.mp hy;exact Ds (by rw[hn r hr,hn q hq]) hrq
 ·intro r hr;let⟨r',h',v,_,_,rfl⟩:=qw.mp hr;simp[hn r' h']
def J3:∀ {W:List Wy}{fs:List (List Int)}{n:Nat},(∀r∈fs,r.length=n)->(fs.Pairwise λa b=>Dl.lexLt a b=true)->(vh W fs).Pairwise λa b=>Dl.lexLt a b=true
 | [],_,_,_,hp=>hp
 | w::W,fs,n,hn,hp=>by
  let⟨h1,h2⟩:=Nx (l:=w.2.2) hn hp;rw[vh];exact J3 h2 h1
def LS(G T:List Pl)(W:List Wy):(allR G T W).Pairwise λa b=>Dl.lexLt a b=true:=((J3 (n:=0) (λr hr=>by rw[List.mem_singleton.mp hr];rfl) (vS _ _)).filter _).filter _
def uO(h1:tgt ρ d=some ρ1)(h2:gb ρ1=some (.nx VO)):bN tgt gb (d::ds) ρ=bN tgt gb ds VO:=by
 rw[bN,h1,zA,h2];rfl
def Hl{r:List α}(h:f ρ=some (.list (r.map g))):bD bZ (aa f ag) ρ=some (nD r.length):=by
 rw[lI h];show some (PyData.int ((r.map g).length:Nat))=_;rw[zD]
namespace K30M
open Ex
def Aw{fs:Dl.Env->Option (List D)}(hk:fk ρ=some (nD k))(hm:ms[k]?=some m)(hf:fs ρ=some ds)(hn:ds.length=n):tP n ms fk fs ρ=m ds:=by
 simp?[tP,hk,hf,zA,hn,xJ,nD];rw[yM (by lia),yG,hm,zA]
def EZ{fs:Dl.Env->Option (List D)}(hk:fk ρ=some (nD k))(hm:ms[k]?=some m)(hf:fs ρ=some ds)(hn:ds.length=n):og n ms fk fs ρ=m ds:=by
 simp?[og,hk,hf,zA,hn,xJ,nD];rw[yM (by lia),yG,hm,zA]
abbrev env(k:Int)(w s:D):au:=[.val (.int k),.val w,.val s,.Ux]
abbrev mF:List (List D->Option D):=[bQ,cB,k8,fJ,jh]
abbrev xF:List (List D->Option Str):=[cZ,dW,nC,gZ,nG]
def tq(k:Int):WZ (aG (env k w s))=some (decide (k=5)):=ba (ar (bU k 5) rfl rfl)
def Q7(h:j3 [w,s]=some d):aA [.int 5,w,s]=some d:=aE (M4 (ρ:=env 5 w s) (eB ((bV (tq 5)).trans (aF (call_of h rfl rfl)))))
def Ak(hk:k < 5)(hm:mF[k]?=some m)(h:m [w]=some d):aA [nD k,w,s]=some d:=aE (M4 (ρ:=env (k:Int) w s) ((ak (bz ((tq _).trans (by rw[zZ (by lia)])))).trans (aF ((Aw rfl hm rfl rfl).trans h))))
def Qx(B:nq j3 oF [w,s] c)(hf:n8 Ik c=some d):aA [.int 5,w,s]=some d:=aE (Jd (ρ:=env 5 w s) (QQ ((bV (tq 5)).trans (Ka (uZ B.n rfl)))) (QX ((Ru (tq 5)).trans (PL B.x rfl rfl))) hf)
def pO(hk:k < 5)(hm:mF[k]?=some m)(hx:xF[k]?=some x)(B:nq m x [w] c)(hf:n8 Ik c=some d):aA [nD k,w,s]=some d:=by
 have ht:WZ (aG (env (k:Int) w s))=some false:=(tq _).trans (by rw[zZ (by lia)]);exact aE (Jd (ρ:=env (k:Int) w s) ((ak (bz ht)).trans (Ka ((Aw rfl hm rfl rfl).trans B.n))) ((QK (NY ht) (bz ht)).trans ((EZ rfl hx rfl rfl).trans B.x)) hf)
def P9(B:nq aZ bq [w] c):nq aY cQ [w] c:=by
 have z:=λg=>B.head (ρ:=[.val w]) (fs:=aa (ae 0) ag) (n:=1) rfl rfl (g:=g) (xr:=mX);have z2:=B.one (ρ:=[.val w]) (fs:=aa (ae 0) ag) (n:=1) rfl rfl;exact⟨runN (z _).1,z2.2⟩
def PY(h:f (aG ρ)=none):aw (Dl.aI i fz f) g ρ=none:=QQ (by simp?[Dl.aI,h,Option.bind_none])
def RX(B:nq aY cQ [w] c):nq jh nG [w] c:=⟨runN (PY (uZ (fs:=aa (ae 0) ag) (n:=1) B.n rfl)),PL (n:=1) (ρ:=aG [.val w,.Ux]) (fs:=aa (ae 0) ag) B.x rfl rfl⟩
def Qw(B:nq cB dW [w] c):nq k8 nC [w] c:=⟨runN (PY (uZ (fs:=aa (ae 0) ag) (n:=1) B.n rfl)),PL (n:=1) (ρ:=aG [.val w,.Ux]) (fs:=aa (ae 0) ag) B.x rfl rfl⟩
def RO(B:nq aY cQ [w] c):nq fJ gZ [w] c:=by
 refine⟨runN (Ka ?_),PL (n:=1) (ρ:=aG [.val w]) (fs:=aa (ae 0) ag) B.x rfl rfl⟩;have:aj 1 aY (aa (ae 0) ag) (aG [.val w])=none:=uZ B.n rfl;show f2 bC (aj 1 aY (aa (ae 0) ag)) _ (aG [.val w])=none;unfold f2;rw[this];rfl
def RZ(B:nq aZ bq [w] c):nq j3 oF [w,s] c :=
 let z:=B.head (ρ:=[.val w,.val s,.Ux]) (fs:=aa (ae 0) ag) rfl rfl
 ⟨runN z.1,z.2⟩
def Sq(O:JY aZ bq [w])(B:nq dy ee [s] c):nq j3 oF [w,s] c:=by
 have t:=λg xr=>O.tail (ρ:=[.val w,.val s,.Ux]) (fs:=aa (ae 0) ag) (n:=1) rfl rfl (g:=g) (xr:=xr);have z:=λg=>B.head (ρ:=[.val w,.val s,.Ux]) (fs:=aa (ae 1) ag) (n:=1) rfl rfl (g:=g) (xr:=mX);have z2:=B.one (ρ:=[.val w,.val s,.Ux]) (fs:=aa (ae 1) ag) (n:=1) rfl rfl;exact⟨runN ((t _ mX).1.trans (z _).1),(t fv _).2.trans z2.2⟩
def KY(hd:ij d=true)(h:whole 0 1 d=false):nq dy ee [d] Pw :=
 let z:=(RV (n:=2) hd h).one (ρ:=[.val d]) (fs:=aa (ae 0) Y0) (n:=2) rfl rfl
 ⟨runN z.1,z.2⟩
def SZ(hb:bT [w]=some (.bool false)):∀i,i < 6->aA [nD i,w,s]=some (dw 0)
 | 0,_=>pO (by lia) rfl rfl (Oz (E8 hb)) Fc
 | 1,_=>pO (by lia) rfl rfl (Dr (Oz (E8 hb))) Fc
 | 2,_=>pO (by lia) rfl rfl (Qw (Dr (Oz (E8 hb)))) Fc
 | 3,_=>pO (by lia) rfl rfl (RO (P9 (E8 hb))) Fc
 | 4,_=>pO (by lia) rfl rfl (RX (P9 (E8 hb))) Fc
 | 5,_=>Qx (RZ (E8 hb)) Fc
abbrev Pt:Str:="TooMany"
def O6:n8 Ik Pt=some (dw 3):=Ct (by decide +kernel) (by simp?[Ik,zI,ug,Oq,show (Pt == ("NoWorld":Str))=false by decide +kernel,show (Pt == ("NoPlan":Str))=false by decide +kernel,show (Pt == ("NoPlace":Str))=false by decide +kernel,show (Pt == ("TooMany":Str))=true by decide +kernel,xJ,yP,qS,zB])
def SU(O:JY aZ bq [w])(B:nq du eC [w] Pt):∀i,i < 3->aA [nD i,w,s]=some (dw 3)
 | 0,_=>pO (by lia) rfl rfl (O7 O B) O6
 | 1,_=>pO (by lia) rfl rfl (Dr (O7 O B)) O6
 | 2,_=>pO (by lia) rfl rfl (Qw (Dr (O7 O B))) O6
def KP(G T:List Pl)(W:List Wy):(allR G T W).Nodup:=(LS G T W).imp λVz e=>by subst e;rw[dO] at Vz;cases Vz
def Ma(h:Wd G T W):decide (cW G T W=nc G T W)=decide ((((allR G T W).length:Nat):Int)=1):=by
 have h1:cW G T W∈allR G T W:=(fH h).mpr ⟨eU h,BQ h⟩;have h2:nc G T W∈allR G T W:=(fH h).mpr ⟨MS h,Qt h⟩;rw[decide_eq_decide];constructor
 ·intro e;have U8:∀X∈allR G T W,X=cW G T W:=λX hX=>single h ((fH h).mp hX).1 ((fH h).mp hX).2 e;have Vq:=KP G T W;revert h1 U8 Vq;generalize allR G T W=l;intro h1 U8 Vq
  match l,h1,U8,Vq with
  | [x],_,_,_=>rfl
  | x::y::r,_,U8,Vq =>
   exfalso;have e1:=U8 x (by simp);have e2:=U8 y (by simp);rw[e1,e2] at Vq;simp at Vq
 ·intro e;have:(allR G T W).length=1:=by lia
  let⟨x,hx⟩:=List.length_eq_one_iff.mp this;rw[hx,yK] at h1 h2;rw[h1,h2]
def Hz(hp:0 < ns.length)(h:∀i,i < ns.length->ns.getD i 0=ns.getD 0 0):many ns=1:=by
 have key:∀i,i < ns.length->firstMet (λi=>ns.getD i 0) (i+1)=[ns.getD 0 0]:=λi=>by
  induction i with
  | zero=>intro _;rw[firstMet_succ,firstMet_zero];simp[step_dedup]
  | succ i ih =>
   intro hi;rw[firstMet_succ,ih (by lia),h (i+1) hi];simp[step_dedup]
 unfold many;have:=key (ns.length - 1) (by lia);rw[show ns.length - 1+1=ns.length by lia] at this;rw[this];rfl
def GT(l:List (List Int))(hp:0 < l.length)(k:Nat):decide (((many (l.map λP=>P.getD k 0):Nat):Int)=1)=CG l k:=by
 have e0:∀i,i < l.length->(l.map λP=>P.getD k 0).getD i 0=(l.getD i []).getD k 0:=λi hi=>by simp[hi]
 cases ha:CG l k with
 | true =>
  have:=Hz (ns:=l.map λP=>P.getD k 0) (by simpa using hp) λi hi=>by
   have hi:i < l.length:=by simpa using hi
   rw[e0 i hi,e0 0 hp];have:=List.all_eq_true.mp ha (l.getD i []) (by simp[hi]);simpa using this
  rw[this];rfl
 | false =>
  let⟨X,hX,UN⟩:=List.all_eq_false.mp ha;let⟨i,hi,rfl⟩:=qT hX;have:=ID (ns:=l.map λP=>P.getD k 0) (i:=i) (j:=0) (by simpa using hi) (by simpa using hp) (by
   rw[e0 i hi,e0 0 hp];simpa [hi] using UN)
  rw[zZ (by lia)]
def EL(hA:f (aG ρ)=some d)(hs:Dl.oa d=false)(hh:hand fz 0 ρ=ρ1)(hF:f (bJ ρ1)=some d)(ho:ρ1[i]?=some (.own ds))(hl:ds.length < 4000):iR i fz f ρ=some (.nx (ρ1.set i (.own (ds++[d])))):=by
 have:kh fz f ρ=some (d,ρ1):=by simp?[kh,hA,zA,hs,yP,qS,hh,hF,zB]
 have hz:ds.length < sizeLine:=by rw[qX];lia
 simp?[iR,this,zA,oE,ho,hz,xJ,zB]
abbrev st(s:D)(G T:List Pl)(W:List Wy)(x3 x4 x5 x6 x7 x8:Slot):au:=[.val s,.val (az G T W),.val (.list ((lA G T W).map af)),x3,x4,x5,x6,x7,x8,.Ux,.Ux,.Ux,.Ux]
def aB:au->Option Out:=(fX (fB (f2 bC (f1 fF (bS (aq 1 [5] (aO (ae 3)) (fG 0) (λ_=>some true) (f2 ay (ae 0) (ae 1))))) (fC (.int 1)))) (iR 4 [3,5] (aJ (aa (ae 5) (aa (f2 ay (f2 ay (ae 3) (fC (.int 0))) (ae 5)) ag)))) fv)
structure QA(G T:List Pl)(W:List Wy)(x:Slot):Prop where
 a:x.all=some (.list ((allR G T W).map af))
 t:x.VS=.val (.list ((allR G T W).map af))
def OE(h:Wd G T W)(hr:(allR G T W).length<=81)(hk:k < W.length)(h3:QA G T W x3)(l:List Nat)(hl:l.length<=16) :
  ∃y3,QA G T W y3/\aB (st s G T W x3 (.own (l.map λk=>af [((k:Nat):Int),(dc G T W).getD k 0])) (.val (nD k)) x6 x7 x8)=some (.nx (st s G T W y3 (.own ((if CG (allR G T W) k=true then l++[k] else l).map λk=>af [((k:Nat):Int),(dc G T W).getD k 0])) (.val (nD k)) x6 x7 x8)):=by
 have hlen:∀P∈allR G T W,P.length=W.length:=λP hP=>((fH h).mp hP).1.len;have Vg:=List.length_pos_iff.mpr (lX h);have cs:∀ρ:Dl.Env,ae 3 ρ=some (.list ((allR G T W).map af))->(ρ[5]?).getD none=some (nD k)->(aq 1 [5] (aO (ae 3)) (fG 0) (λ_=>some true) (f2 ay (ae 0) (ae 1))) ρ=some ((allR G T W).map λP=>.int (P.getD k 0)):=λρ g3 g5=>by
  have:=lY (cs:=[5]) (fi:=aO (ae 3)) (tt:=λ_=>some true) (te:=f2 ay (ae 0) (ae 1)) (ρ:=ρ) (g:=af) (f:=λP=>.int (P.getD k 0)) (q:=λ_=>true) (l:=allR G T W) (Dh g3) (by lia) λP hP=>⟨rfl,λ_=>by
   simp?[zI,yV,g5];exact ar (fQ (by rw[hlen P hP];exact hk)) rfl rfl⟩
  rw[show (allR G T W).filter (λ_=>true)=allR G T W by simp] at this;exact this
 have el:fF (.list ((allR G T W).map λP=>.int (P.getD k 0)))=some (.int ((many ((allR G T W).map λP=>P.getD k 0):Nat):Int)):=by
  have e:((allR G T W).map λP=>PyData.int (P.getD k 0))=((allR G T W).map λP=>P.getD k 0).map PyData.int:=by rw[zM];rfl
  rw[e];simp?[fF,cn,zA];rw[yM (by rw[zD];exact jB (show (allR G T W).length+1<=82 by lia) (by decide))]
 have a3:ae 3 (aG (st s G T W x3 (.own (l.map λk=>af [((k:Nat):Int),(dc G T W).getD k 0])) (.val (nD k)) x6 x7 x8))=some (.list ((allR G T W).map af)):=h3.a;have ht:(fB (f2 bC (f1 fF (bS (aq 1 [5] (aO (ae 3)) (fG 0) (λ_=>some true) (f2 ay (ae 0) (ae 1))))) (fC (.int 1)))) (aG (st s G T W x3 (.own (l.map λk=>af [((k:Nat):Int),(dc G T W).getD k 0])) (.val (nD k)) x6 x7 x8))=some (CG (allR G T W) k):=by
  refine ba ((ar (bU _ 1) ((Ql (dD (cs _ a3 rfl))).trans el) rfl).trans ?_);rw[GT _ Vg]
 unfold aB;cases ha:CG (allR G T W) k with
 | false =>
  rw[ha] at ht;exact⟨x3,h3,bz ht⟩
 | true =>
  rw[ha] at ht;have ei:∀ρ:Dl.Env,ae 3 ρ=some (.list ((allR G T W).map af))->ae 5 ρ=some (nD k)->(aJ (aa (ae 5) (aa (f2 ay (f2 ay (ae 3) (fC (.int 0))) (ae 5)) ag))) ρ=some (af [((k:Nat):Int),(dc G T W).getD k 0]):=λρ g3 g5 =>
   tup_is (ds:=[nD k,.int ((dc G T W).getD k 0)]) (cons_of g5 (cons_of (ar (fQ (by rw[hlen _ (Du h)];exact hk)) (ar (a:=.list ((allR G T W).map af)) (b:=.int 0) (qk (f:=af) (i:=0) (by unfold dc;simp[Vg])) g3 rfl) g5) rfl)) (by simp)
  refine⟨.val (.list ((allR G T W).map af)),⟨rfl,rfl⟩,(bV ht).trans ?_⟩;refine (EL (d:=af [((k:Nat):Int),(dc G T W).getD k 0]) (ρ1:=st s G T W (.val (.list ((allR G T W).map af))) (.own (l.map λk=>af [((k:Nat):Int),(dc G T W).getD k 0])) (.val (nD k)) x6 x7 x8) (ei _ a3 rfl) rfl ?_ (ei _ rfl rfl) rfl (by rw[zD];lia)).trans ?_
  ·show [Slot.val s,.val (az G T W),.val (.list ((lA G T W).map af)),x3.VS,.own (l.map λk=>af [((k:Nat):Int),(dc G T W).getD k 0]),.val (nD k),x6,x7,x8,.Ux,.Ux,.Ux,.Ux]=_;rw[h3.t]
  ·rw[yM rfl,jC];rfl
def TY:Dl.Env->Option D:=ZD
def Uo:Dl.Env->Option (List D):=(aq 2 [6,7] (bf (aa (f2 ay (ae 1) (ae 7)) ag)) (gh 0 1) (fB (f2 Dl.Bq (f2 ay (f2 ay (ae 2) (ae 3)) (ae 0)) (f2 ay (ae 1) (fC (.int 0))))) (ae 0))
def sB:au->Option Out:=(aw ZE (aw (rZ 8 [1,6,7] ZF) ZH))
def Jx(h:l≠[]):ay (.list (l.map af)) (.int (-1))=some (af (l.getLast h)):=by
 have e:l.map af=l.dropLast.map af++[af (l.getLast h)]:=by
  conv=>lhs;rw[<- List.dropLast_concat_getLast h]
  rw[jC];rfl
 rw[e];exact GF _ _
def MI(h:Wd G T W)(b:Bool)(g1:ae 1 ρ=some (az G T W))(g3:ae 3 ρ=some (.list ((allR G T W).map af)))(g7:ae 7 ρ=some (.int (sI b))):TY ρ=some (af (dz b G T W (cW G T W))):=by
 have g1':(ρ[1]?).getD none=some (az G T W):=g1;have g3':(ρ[3]?).getD none=some (.list ((allR G T W).map af)):=g3;have g7':(ρ[7]?).getD none=some (.int (sI b)):=g7;let⟨xp,xr⟩:=(fH h).mp (List.getLast_mem (lX h));have hp:=h.pl b;have c:=dX (cs:=[1,3,7]) (fi:=bh Zz) (te:=aj 4 fI ZC) (f:=λi=>.int (ix b W (cW G T W) ((i:Nat):Int))) (ρ:=ρ) (is:=List.range (aR b G T).length) (fV (cons_of (rT (l:=aR b G T) (k:=aW) (ar (gp b G T W) g1 g7)) rfl) (by lia)) (by rw[zR];lia) λi hi=>by
  simp?[zI,yV,g1',g3',g7'];rw[<- Hg h xp xr b (List.mem_range.mp hi)];exact call_of (mE h xp.len (xp.smP h) b i) (cons_of rfl (cons_of (ar (b:=.int (-1)) (Jx (lX h)) rfl rfl) rfl)) rfl
 refine (lI (dD c)).trans ?_;show some (PyData.tuple _)=some (PyData.tuple _);rw[dz,zM];rfl
def PX(h:Wd G T W)(b:Bool)(g1:ae 1 ρ=some (az G T W))(g6:ae 6 ρ=some (.list ss))(g7:ae 7 ρ=some (.int (sI b)))(hs:ay (.list ss) (.int (sI b))=some (af (dz b G T W (cW G T W)))):Uo ρ=some ((shr b G T W).map nD):=by
 have hl:=h.pl b;have g6':(ρ[6]?).getD none=some (.list ss):=g6;have g7':(ρ[7]?).getD none=some (.int (sI b)):=g7;have he:bf (aa (f2 ay (ae 1) (ae 7)) ag) ρ=some ((List.range (aR b G T).length).map λi=>.tuple [nD i,aW (bM b G T i)]):=by
  have e1:aa (f2 ay (ae 1) (ae 7)) ag ρ=some [.tuple ((aR b G T).map aW)]:=cons_of (ar (gp b G T W) g1 g7) rfl;have:=j4 (aR b G T);unfold bM;rw[<- this];unfold bf;rw[e1];rfl
 exact gS (cs:=[6,7]) (x:=nD) (y:=λi=>aW (bM b G T i)) (p:=λi=>decide (ix b W (cW G T W) i < amt b G T i)) (h:=nD) he (by lia) λi hi=>⟨by
  simp?[zI,yV,g6',g7'];exact ba (ar (ig (ix b W (cW G T W) i) (amt b G T i)) (ar ((fQ (by rw[AQ];exact hi)).trans (by rw[Es hi])) (ar hs rfl rfl) rfl) (ar (a:=aW (bM b G T i)) (b:=.int 0) rfl rfl rfl)),λ_=>rfl⟩
def Bc:∀l:List Nat,gM (l.map nD)=true
 | []=>rfl
 | k::l=>by rw[zI,gM,Bc l];rfl
def Km(hh:hand fz 0 ρ=ρ1)(hf:f (bJ ρ1)=some ds)(hn:gM ds=true):rZ i fz f ρ=some (.nx (ρ.set i (.own ds))):=by
 simp?[rZ,hh,hf,zA,hn,xJ]
def Hf(h:Wd G T W)(b:Bool)(h3:QA G T W x3)(hl:ss.length<=2)(hs:ay (.list (ss++[af (dz b G T W (cW G T W))])) (.int (sI b))=some (af (dz b G T W (cW G T W)))) :
  ∃y3 y8,QA G T W y3/\sB (st s G T W x3 x4 x5 (.own ss) (.val (.int (sI b))) x8)=some (.nx (st s G T W y3 x4 x5 (.own (ss++[af (dz b G T W (cW G T W))])) (.val (.int (sI b))) y8)):=by
 have a3:ae 3 (aG (st s G T W x3 x4 x5 (.own ss) (.val (.int (sI b))) x8))=some (.list ((allR G T W).map af)):=h3.a;refine⟨.val (.list ((allR G T W).map af)),.own ((shr b G T W).map nD),⟨rfl,rfl⟩,?_⟩;unfold sB;refine (ak (EL (d:=af (dz b G T W (cW G T W))) (ρ1:=st s G T W (.val (.list ((allR G T W).map af))) x4 x5 (.own ss) (.val (.int (sI b))) x8) (MI h b rfl a3 rfl) rfl ?_ (MI h b rfl rfl rfl) rfl (by lia))).trans ?_
 ·show [Slot.val s,.val (az G T W),.val (.list ((lA G T W).map af)),x3.VS,x4,x5,.own ss,.val (.int (sI b)),x8,.Ux,.Ux,.Ux,.Ux]=_;rw[h3.t]
 refine (ak (Km (ρ1:=st s G T W (.val (.list ((allR G T W).map af))) x4 x5 (.val (.list (ss++[af (dz b G T W (cW G T W))]))) (.val (.int (sI b))) x8) rfl (PX h b rfl rfl rfl hs) (Bc _))).trans ?_;exact bz (ba (ar (EW (shr b G T W)) (call_of (Q7 (Mn h b)) rfl rfl) rfl))
def mK(v:Int)(W:List Wy):List Wy:=W.map λw=>(w.1,w.2.1,v)
def Oo(v:Int)(W:List Wy):(mK v W).map (λw=>(w.1,w.2.1))=W.map λw=>(w.1,w.2.1):=by rw[mK,zM];rfl
def QE(h:Wd G T W)(hv:1<=v/\v<=9):Wd G T (mK v W):=by
 have hm:=Oo v W;refine⟨h.g1,h.g4,h.t1,h.t4,h.ga,h.ta,λi p e=>?_,λi p e=>?_,λw hw=>?_,?_,by rw[mK,zD];exact h.wl⟩
 ·rw[show Br (mK v W) i=Br W i from of_map false i hm];exact h.gl i p e
 ·rw[show ofT (mK v W) i=ofT W i from of_map true i hm];exact h.tl i p e
 ·let⟨u,hu,rfl⟩:=List.mem_map.mp hw;exact⟨(h.wr u hu).1,(h.wr u hu).2.1,hv⟩
 ·have h2:(W.map λw=>(w.1,w.2.1)).Pairwise λa b=>a.1 < b.1\/(a.1=b.1/\a.2 < b.2):=List.pairwise_map.mpr h.wp;rw[<- hm] at h2;exact List.pairwise_map.mp h2
def D2(w0:D)(hv:1<=v/\v<=9):∀ (W:List Wy) (p:Int) (x:Slot),∃y,bN (ik 2) mB ((mK v W).map ao) [.val w0,.val (.int p),x]=some (.nx [.val w0,.val (.int (p * (v+1) ^ W.length)),y])
 | [],p,x=>⟨x,by simp[mK,bN]⟩
 | w::W,p,x=>by
  let⟨y,ih⟩:=D2 w0 hv W (p * (v+1)) (.val (ao (w.1,w.2.1,v)));refine⟨y,?_⟩;have hb:mB [.val w0,.val (.int p),.val (ao (w.1,w.2.1,v))]=some (.nx [.val w0,.val (.int (p * (v+1))),.val (ao (w.1,w.2.1,v))]) :=
   bI (d:=.int (p * (v+1))) (ar (dk (.inr ⟨by lia,by lia⟩)) rfl (ar (dF v 1) (ar (a:=ao (w.1,w.2.1,v)) (b:=.int 2) rfl rfl rfl) rfl)) rfl
  rw[show (mK v (w::W)).map ao=ao (w.1,w.2.1,v)::(mK v W).map ao from rfl,bN,show ik 2 [.val w0,.val (.int p),x] (ao (w.1,w.2.1,v))=some [.val w0,.val (.int p),.val (ao (w.1,w.2.1,v))] from rfl,zA,hb];rw[zL,Int.pow_succ,Int.mul_comm ((v+1) ^ W.length),<- Int.mul_assoc];exact ih
def Jh(hv:1<=v/\v<=9)(hm:3000 < (v+1) ^ W.length):nq du eC [az G T (mK v W)] Pt:=by
 let⟨y,e⟩:=D2 (az G T (mK v W)) hv W 1 .Ux;rw[Int.one_mul] at e;have ht:aaD (aG [.val (az G T (mK v W)),.val (.int ((v+1) ^ W.length)),y])=some true:=ba (ar ((dA _ _).trans (by rw[yA hm])) rfl rfl);have h1:Dl.aI 1 [] (fC (.int 1)) [.val (az G T (mK v W)),.Ux,.Ux]=some (.nx [.val (az G T (mK v W)),.val (.int 1),.Ux]):=bI rfl rfl;have h2:cX [0] (aO X6) (ik 2) mB [.val (az G T (mK v W)),.val (.int 1),.Ux]=some (.nx [.val (az G T (mK v W)),.val (.int ((v+1) ^ W.length)),y]):=br e rfl rfl;constructor
 ·refine runN ?_;show dv [.val (az G T (mK v W)),.Ux,.Ux]=none;unfold dv;exact (ak h1).trans ((ak h2).trans (bV ht))
 ·show iC [.val (az G T (mK v W)),.Ux,.Ux]=_;have xs:∀ {g:au->Option Out}{xr:XS}{ρ ρ':au},g ρ=some (.nx ρ')->ya g xr ρ=xr ρ':=λhg=>by unfold ya;rw[hg];rfl
  unfold iC;exact (xs h1).trans ((xs h2).trans (Ru ht))
def Uw:Dl.Env->Option D:=(f2 Dl.aL (gE cU (ae 10) gX (ui (fC (.int 2)))) (aJ (aa (bD bp (aa (bS (aq 1 [9] (aO (f2 ay (ae 10) (fC (.int 2)))) (fG 0) (λ_=>some true) (f2 Dl.aL (gE cU (ae 0) gX (ui (fC (.int 2)))) (aJ (aa (ae 1) ag))))) ag)) ag)))
def wB:au->Option Out:=(Dl.aI 11 [9,11] (f2 Dl.eQ (ae 11) (f2 Dl.aL (ae 9) (fC (.int 1)))))
def Uh:Dl.Env->Option D:=(f2 ay (bS (eX (aa (f1 Kb (fC (.int 1))) (aa (fC (.int 2)) (aa (fC (.bool true)) (aa (fC .none) (aa (fC (.str "0")) ag))))))) (aj 3 av (aa (ae 0) (aa (fC (.int 71)) (aa (fC (.int 5)) ag)))))
def ME(h:Wd G T W)(g9:ae 9 ρ=some (.int v))(g10:ae 10 ρ=some (az G T W)):Uw ρ=some (az G T (mK v W)):=by
 have hw:=h.wl;have g9':(ρ[9]?).getD none=some (.int v):=g9;have hi:aO (f2 ay (ae 10) (fC (.int 2))) ρ=some (W.map ao):=wq (ar (jm G T W) g10 rfl);have c:=lY (cs:=[9]) (fi:=aO (f2 ay (ae 10) (fC (.int 2)))) (tt:=λ_=>some true) (te:=f2 Dl.aL (gE cU (ae 0) gX (ui (fC (.int 2)))) (aJ (aa (ae 1) ag))) (g:=ao) (f:=λw=>ao (w.1,w.2.1,v)) (q:=λ_=>true) (l:=W) (ρ:=ρ) hi (by lia) λw _=>⟨rfl,λ_=>by
  simp?[zI,yV,g9'];exact ar (xw (a:=[w.1,w.2.1]) (b:=[v]) (by simp)) ((Nu rfl rfl (Ih rfl)).trans rfl) (Me rfl)⟩
 rw[show W.filter (λ_=>true)=W by simp] at c;have et:bD bp (aa (bS (aq 1 [9] (aO (f2 ay (ae 10) (fC (.int 2)))) (fG 0) (λ_=>some true) (f2 Dl.aL (gE cU (ae 0) gX (ui (fC (.int 2)))) (aJ (aa (ae 1) ag))))) ag) ρ=some (.tuple ((mK v W).map ao)):=(lI (dD c)).trans (by rw[mK,zM];rfl);have ec:gE cU (ae 10) gX (ui (fC (.int 2))) ρ=some (.tuple [.tuple (G.map aW),.tuple (T.map aW)]):=(Nu g10 rfl (Ih rfl)).trans rfl;exact ar (qo (by simp)) ec (tup_is (cons_of et rfl) (by simp))
def sj(hv:1<=v/\v<=9):∀ (W:List Wy) (p:Int) (x5:Slot),x5.VS=x5->∃y5,y5.VS=y5/\bN (ik 5) wB (W.map ao) [.val (cF ns),x1,x2,x3,x4,x5,x6,x7,x8,.val (.int v),x10,.val (.int p),x12]=some (.nx [.val (cF ns),x1,x2,x3,x4,y5,x6,x7,x8,.val (.int v),x10,.val (.int (p * (v+1) ^ W.length)),x12])
 | [],p,x5,h5=>⟨x5,h5,by simp[bN]⟩
 | w::W,p,x5,h5=>by
  let⟨y5,g5,ih⟩:=sj (ns:=ns) hv (x1:=x1) (x2:=x2) (x3:=x3) (x4:=x4) (x6:=x6) (x7:=x7) (x8:=x8) (x10:=x10) (x12:=x12) W (p * (v+1)) (.val (ao w)) rfl;refine⟨y5,g5,?_⟩;have hb:wB [.val (cF ns),x1,x2,x3,x4,.val (ao w),x6,x7,x8,.val (.int v),x10,.val (.int p),x12]=some (.nx [.val (cF ns),x1,x2,x3,x4,.val (ao w),x6,x7,x8,.val (.int v),x10,.val (.int (p * (v+1))),x12]) :=
   bI (d:=.int (p * (v+1))) (ar (dk (.inr ⟨by lia,by lia⟩)) rfl (ar (dF v 1) rfl rfl)) rfl
  rw[zI,bN,show ik 5 [.val (cF ns),x1,x2,x3,x4,x5,x6,x7,x8,.val (.int v),x10,.val (.int p),x12] (ao w)=some [.val (cF ns),x1,x2,x3,x4,.val (ao w),x6,x7,x8,.val (.int v),x10,.val (.int p),x12] from rfl,zA,hb];rw[zL,Int.pow_succ,Int.mul_comm ((v+1) ^ W.length),<- Int.mul_assoc];exact ih
def OP(hl:ns.length<=63):∃d,(∀ρ:Dl.Env,ae 0 ρ=some (cF ns)->Uh ρ=some d)/\ij d=true/\whole 0 1 d=false:=by
 let⟨q,q0,q1⟩:=eV (ns:=ns) 71 5 hl (by lia);have hx:=Ui (ds:=[PyData.int (-1),.int 2,.bool true,.none,.str "0"]) q0 (by simpa using q1);refine⟨_,λρ g=>ar hx (dD (mU (ds:=[.int (-1),.int 2,.bool true,.none,.str "0"]) rfl (by simp))) (call_of q (cons_of g rfl) rfl),?_⟩;have hm:=getD_mem (ds:=[PyData.int (-1),.int 2,.bool true,.none,.str "0"]) (i:=(dr ns 71 5).toNat) (by simp;lia);simp?[zQ,yF,xW] at hm;rcases hm with e|e|e|e|e<;>rw[e]<;>exact⟨rfl,rfl⟩
def Qy(h:x5.VS=x5):hand [5,9,10] 0 [x0,x1,x2,x3,x4,x5,x6,x7,x8,.val d9,.val d10,.Ux,.Ux]=[x0,x1,x2,x3,x4,x5,x6,x7,x8,.val d9,.val d10,.Ux,.Ux]:=by
 show [x0,x1,x2,x3,x4,x5.VS,x6,x7,x8,.val d9,.val d10,.Ux,.Ux]=_;rw[h]
def qr(h:t ρ=some false):eE t u ρ=some false:=by
 unfold eE;rw[h];rfl
def nX(h:t ρ=some true)(h2:u ρ=r):eE t u ρ=r:=by
 unfold eE;rw[h];exact h2
def NF(a c:List Int):gN (.tuple [af a,af c]) (.tuple [af a,af c])=some (.bool false):=by
 have hs:SeqAt.shaped (.tuple [af a,af c])=true:=(iz.tup (b:=max 2 (max a.length c.length)) (k:=1) (by simp;lia) λx hx=>by
  rcases List.mem_cons.mp hx with rfl|hx
  ·exact qm (by lia)
  ·rw[yK] at hx;subst hx;exact qm (by lia)).shaped (by decide)
 have he:PyData.eqv (.tuple [af a,af c]) (.tuple [af a,af c])=true:=Dy λd hd=>by
  rcases List.mem_cons.mp hd with rfl|hd
  ·exact CJ _
  ·rw[yK] at hd;subst hd;exact CJ _
 simp?[gN,Kt,hs,jR,xJ,he,zB,qA]
def main(ns:List Int)(hl:ns.length<=63):i6 [.list (ns.map PyData.int)]=some (.bool true):=by
 let⟨G,T,W,ew,h,few⟩:=pS (ns:=ns) (a:=0) (mo:=4) hl (by lia);let⟨G2,T2,W2,ew2,h2,_⟩:=pS (ns:=ns) (a:=80) (mo:=9) hl (by lia);have hw:W.length<=4:=by have:=few.wm;lia
 have VJ:∀w∈W,0<=w.2.2/\w.2.2<=2:=λw hw=>⟨by have:=(h.wr w hw).2.2;lia,few.w2 w hw⟩
 let⟨elp,hal⟩:=AN h VJ (by lia);let⟨eap,_⟩:=pZ h VJ (by lia);let⟨ear,hr⟩:=pJ h VJ hw;have hap:(lA G T W).length<=1000:=by
  have:=nH W [[]] VJ;rw[xD,Nat.one_mul] at this;exact yD (xR _ _) (yD this (yD (Nat.pow_le_pow_right (by lia) hw) (by decide)))
 have afE:∀ρ:Dl.Env,ae 2 ρ=some (.list ((lA G T W).map af))->(ρ[1]?).getD none=some (az G T W)->Zx ρ=some ((allR G T W).map af):=λρ g2 g1 =>
  lY (cs:=[1]) (g:=af) (f:=af) (q:=λP=>decide (zp G T W P=[])) (Dh g2) hap λX hX=>⟨by
   simp?[zI,yV,g1];exact ba (call_of (AG h (n9.mp hX).len ((n9.mp hX).smP h)) rfl rfl),λ_=>rfl⟩
 let⟨ρ1,fa,x3,x5,h3,h5,rfl⟩:=Dc (tgt:=ik 5) (gb:=aB) nD (λj ρ=>∃x3 x5,QA G T W x3/\x5.VS=x5/\ρ=st (cF ns) G T W x3 (.own (((List.range j).filter (CG (allR G T W))).map λk=>af [((k:Nat):Int),(dc G T W).getD k 0])) x5 .Ux .Ux .Ux) W.length 0 (st (cF ns) G T W (.own ((allR G T W).map af)) (.own []) .Ux .Ux .Ux .Ux)
  (λj ρ _ hj VW=>by
   let⟨x3,x5,h3,h5,rfl⟩:=VW;let⟨y3,g3,e⟩:=OE (s:=cF ns) (x6:=.Ux) (x7:=.Ux) (x8:=.Ux) h hr (show j < W.length by lia) h3 ((List.range j).filter (CG (allR G T W))) (yD (xR _ _) (by rw[zR];lia));refine⟨_,_,rfl,e,y3,.val (nD j),g3,rfl,?_⟩;have er:(List.range (j+1)).filter (CG (allR G T W))=if CG (allR G T W) j=true then (List.range j).filter (CG (allR G T W))++[j] else (List.range j).filter (CG (allR G T W)):=by
    rw[wF,List.filter_append];cases hq:CG (allR G T W) j<;>simp[hq]
   rw[er]) ⟨_,_,⟨rfl,rfl⟩,rfl,rfl⟩
 rw[jF,<- yH] at fa;let⟨z3,z8,g3,s0⟩:=Hf (s:=cF ns) (x4:=.own ((Bt G T W).map λk=>af [((k:Nat):Int),(dc G T W).getD k 0])) (x5:=x5) (x8:=.Ux) (ss:=[]) h false h3 (by simp) rfl;let⟨u3,u8,k3,s1⟩:=Hf (s:=cF ns) (x4:=.own ((Bt G T W).map λk=>af [((k:Nat):Int),(dc G T W).getD k 0])) (x5:=x5) (x8:=z8) (ss:=[]++[af (dz false G T W (cW G T W))]) h true g3 (by simp) rfl;have fs:bN (ik 7) sB ([0,1].map nD) (st (cF ns) G T W x3 (.own ((Bt G T W).map λk=>af [((k:Nat):Int),(dc G T W).getD k 0])) x5 (.own []) .Ux .Ux)=some (.nx (st (cF ns) G T W u3 (.own ((Bt G T W).map λk=>af [((k:Nat):Int),(dc G T W).getD k 0])) x5 (.own ([]++[af (dz false G T W (cW G T W))]++[af (dz true G T W (cW G T W))])) (.val (.int (sI true))) u8)):=by
  rw[zI,zI,yV];refine (uO (ρ1:=st (cF ns) G T W x3 (.own ((Bt G T W).map λk=>af [((k:Nat):Int),(dc G T W).getD k 0])) x5 (.own []) (.val (.int (sI false))) .Ux) rfl s0).trans ?_;exact (uO (ρ1:=st (cF ns) G T W z3 (.own ((Bt G T W).map λk=>af [((k:Nat):Int),(dc G T W).getD k 0])) x5 (.own ([]++[af (dz false G T W (cW G T W))])) (.val (.int (sI true))) z8) rfl s1).trans rfl
 let⟨q1,q1a,q1b⟩:=eV (ns:=ns) 70 9 hl (by lia);have hv:1<=1+dr ns 70 9/\1+dr ns 70 9<=9:=by lia
 generalize hvv:1+dr ns 70 9=v at hv;let⟨od,eod,no1,no2⟩:=OP hl;refine aE ?_;show lZ [.val (cF ns),.Ux,.Ux,.Ux,.Ux,.Ux,.Ux,.Ux,.Ux,.Ux,.Ux,.Ux,.Ux]=_;unfold lZ;refine (ak (bB (call_of ew rfl rfl) (call_of ew rfl rfl) rfl)).trans ?_;refine (ak (bB (call_of elp rfl rfl) (call_of elp rfl rfl) rfl)).trans ?_;refine (ak (cP (afE _ rfl rfl) rfl)).trans ?_;refine (ak (bz (O0 (ba (ar ((pw _ _).trans (by simp)) (call_of (Ak (k:=0) (by lia) rfl eap) rfl rfl) rfl)) (ba (ar ((pw _ _).trans (by simp)) (call_of (Ak (k:=1) (by lia) rfl ear) rfl rfl) rfl))))).trans ?_;refine (ak (bz (ba (ar (a:=.bool (decide (cW G T W=nc G T W))) (b:=.bool (decide (cW G T W=nc G T W))) (Ff _) (call_of (Ak (k:=3) (by lia) rfl (A7 h)) rfl rfl) ((ar (bU _ 1) (Hl (r:=allR G T W) (g:=af) rfl) rfl).trans (by rw[Ma h])))))).trans ?_;refine (ak (cP (ds:=[]) rfl rfl)).trans ?_;refine (ak (br fa (fV (cons_of (rT (l:=W) (k:=ao) (ar (jm G T W) rfl rfl)) rfl) (by lia)) rfl)).trans ?_;have afF:(((Bt G T W).map λk=>af [((k:Nat):Int),(dc G T W).getD k 0]))=((Bt G T W).map λk=>[((k:Nat):Int),(dc G T W).getD k 0]).map af:=by rw[zM];rfl
 refine (ak (bz (ba (ar (a:=.list ((Bt G T W).map λk=>af [((k:Nat):Int),(dc G T W).getD k 0])) (b:=.list ((Bt G T W).map λk=>af [((k:Nat):Int),(dc G T W).getD k 0])) (by rw[afF];exact (pw _ _).trans (by simp)) (call_of (Ak (k:=2) (by lia) rfl (Io h VJ hw)) rfl rfl) rfl)))).trans ?_;refine (ak (cP (ds:=[]) rfl rfl)).trans ?_;refine (ak (br fs (fV (n:=2) rfl (by lia)) rfl)).trans ?_;refine (ak (bz (ba (ar (NF _ _) (call_of (Ak (k:=4) (by lia) rfl (sM h)) rfl rfl) ((lI rfl).trans rfl))))).trans ?_;refine (ak (bI (d:=.int v) ((ar (dF 1 _) rfl (call_of q1 rfl rfl)).trans (by rw[hvv])) rfl)).trans ?_;refine (ak (bB (call_of ew2 rfl rfl) (call_of ew2 rfl rfl) rfl)).trans ?_;refine (ak (bB (ME h2 rfl rfl) (ME h2 rfl rfl) (Qy h5))).trans ?_;refine (ak (bI (d:=.int 1) rfl rfl)).trans ?_;let⟨y5,g5,fw⟩:=sj (ns:=ns) hv (x1:=.val (az G T W)) (x2:=.val (.list ((lA G T W).map af))) (x3:=u3) (x4:=.own ((Bt G T W).map λk=>af [((k:Nat):Int),(dc G T W).getD k 0])) (x6:=.own ([]++[af (dz false G T W (cW G T W))]++[af (dz true G T W (cW G T W))])) (x7:=.val (.int (sI true))) (x8:=u8) (x10:=.val (az G2 T2 (mK v W2))) (x12:=.Ux) (mK v W2) 1 x5 h5;have hlw:(mK v W2).length=W2.length:=by simp[mK]
 rw[Int.one_mul,hlw] at fw;refine (ak (br fw (wq (ar (jm G2 T2 (mK v W2)) rfl rfl)) rfl)).trans ?_;have hwd:=QE h2 hv;have c3:∀hm:3000 < (v+1) ^ W2.length,bS ZK (aG [.val (cF ns),.val (az G T W),.val (.list ((lA G T W).map af)),u3,.own ((Bt G T W).map λk=>af [((k:Nat):Int),(dc G T W).getD k 0]),y5,.own ([]++[af (dz false G T W (cW G T W))]++[af (dz true G T W (cW G T W))]),.val (.int (sI true)),u8,.val (.int v),.val (az G2 T2 (mK v W2)),.val (.int ((v+1) ^ W2.length)),.Ux])=some (.list (List.replicate 3 (dw 3))):=λhm=>by
  have:=vc (cs:=[10]) (fi:=bh XU) (te:=aj 3 aA aaF) (ρ:=aG [.val (cF ns),.val (az G T W),.val (.list ((lA G T W).map af)),u3,.own ((Bt G T W).map λk=>af [((k:Nat):Int),(dc G T W).getD k 0]),y5,.own ([]++[af (dz false G T W (cW G T W))]++[af (dz true G T W (cW G T W))]),.val (.int (sI true)),u8,.val (.int v),.val (az G2 T2 (mK v W2)),.val (.int ((v+1) ^ W2.length)),.Ux]) (is:=List.range 3) (j:=3) (fV (n:=3) rfl (by lia)) (by simp) λk hk=>call_of (SU (Tu hwd) (Jh hv hm) k (by simpa using hk)) rfl rfl;rw[zR] at this;exact this
 refine (ak (bz ?_)).trans ?_
 ·have hg:fB ZJ (aG [.val (cF ns),.val (az G T W),.val (.list ((lA G T W).map af)),u3,.own ((Bt G T W).map λk=>af [((k:Nat):Int),(dc G T W).getD k 0]),y5,.own ([]++[af (dz false G T W (cW G T W))]++[af (dz true G T W (cW G T W))]),.val (.int (sI true)),u8,.val (.int v),.val (az G2 T2 (mK v W2)),.val (.int ((v+1) ^ W2.length)),.Ux])=some (decide (3000 < (v+1) ^ W2.length)):=ba (ar (dA _ _) rfl rfl);by_cases hm:3000 < (v+1) ^ W2.length
  ·exact nX (hg.trans (by rw[yA hm])) (ba (ar (FZ 3 3) (c3 hm) (AL 3 (n:=3) (by lia) _)))
  ·exact qr (hg.trans (by rw[zZ hm]))
 refine (ak (bB (eod _ rfl) (eod _ rfl) rfl)).trans ?_;refine (ak (bz (ba (ar (Hj 2) (call_of (Qx (Sq (Tu h) (KY no1 no2)) Sf) rfl rfl) (tup_is rfl (by simp)))))).trans ?_;have hn:=Ld h;have afG:∀ρ:Dl.Env,ae 1 ρ=some (az G T W)->gE cU (ae 1) gX W0 ρ=some (.tuple [.tuple (G.map aW),.tuple (T.map aW)]):=λρ h1=>(Nu h1 rfl (Ih rfl)).trans rfl;have c6:=vc (cs:=[1,12]) (fi:=bh (aa (fC (.int 6)) ag)) (te:=aj 3 aA ZL) (ρ:=aG [.val (cF ns),.val (az G T W),.val (.list ((lA G T W).map af)),u3,.own ((Bt G T W).map λk=>af [((k:Nat):Int),(dc G T W).getD k 0]),y5,.own ([]++[af (dz false G T W (cW G T W))]++[af (dz true G T W (cW G T W))]),.val (.int (sI true)),u8,.val (.int v),.val (az G2 T2 (mK v W2)),.val (.int ((v+1) ^ W2.length)),.val od]) (is:=List.range 6) (j:=0) (fV (n:=6) rfl (by lia)) (by simp) λk hk=>call_of (SZ hn k (by simpa using hk)) (cons_of rfl (cons_of (afG _ rfl) rfl)) rfl;rw[zR] at c6;exact aF (ar (F0 0 6) c6 (AL 0 (n:=6) (by lia) _))
end K30M
end Wm
namespace K30
open PySem L2 Dl PySem.Spec PyProof.Rows Pg Hd PySem.W Rg
def main(ns:List Int)(h:ns.length<=63):i6 [.list (ns.map PyData.int)]=some (.bool true):=Wm.K30M.main ns h
def ins(P:Params){h:Heap}{mg:Str->Option Value}(X:(Kf P).In h)(G:h.Ns mainGlobals mg):OG (Kf P) mg:=⟨λ_ _ _=>by
 have B:∀x∈cL,mg x=none:=λx hx=>mg_none_of X G (Dl.NW (by kernel_rfl) x hx);have M:Ex.wu (Kf P) mg Ur TN:=Ex.KG X G (by kernel_rfl);refine ot (top 72) (f3 443 442 oJ) M (ns:=Uq) (Ex.QV (st:=top 71) ((f1 436 435 oJ).mg X G) M B rfl Rf.RI rfl rfl rfl rfl rfl (by decide +kernel) (by decide +kernel) (by decide) rfl rfl) ?_;refine on (top 70) (f2 429 428 oJ) ?_;refine on (top 69) (f3 424 423 oJ) ?_;refine on (top 68) (f5 417 416 oJ) ?_;refine on (top 67) (f3 410 409 oJ) ?_;refine on (top 66) (f1 403 402 oJ) ?_;refine on (top 65) (f2 398 397 oJ) ?_;refine on (top 64) (f4 391 390 oJ) ?_;refine on (top 63) (f3 386 385 oJ) ?_;refine on (top 62) (f3 381 380 oJ) ?_;refine on (top 61) (f3 374 373 oJ) ?_;refine on (top 60) (f2 367 366 oJ) ?_;refine ox (top 58) (f2 360 359 uV) ?_;refine ox (top 57) (f1 355 354 uV) ?_;refine on (top 56) (f3 348 347 uV) ?_;refine ox (top 55) (f1 343 342 uV) ?_;refine on (top 54) (f2 338 337 uV) ?_;refine ox (top 53) (f1 333 332 uV) ?_;refine ox (top 52) (f1 326 325 uV) ?_;refine ox (top 51) (f1 321 320 uV) ?_;refine on (top 50) (f1 316 315 uV) ?_;refine ox (top 49) (f1 311 310 uV) ?_;refine ox (top 46) (f1 304 303 Bw) ?_;refine ox (top 45) (f1 297 296 Bw) ?_;refine on (top 44) (f2 290 289 Bw) ?_;refine on (top 43) (f1 283 282 Bw) ?_;refine on (top 42) (f2 276 275 Bw) ?_;refine on (top 41) (f3 269 268 Bw) ?_;refine on (top 40) (f1 262 261 Bw) ?_;refine on (top 39) (f3 257 256 Bw) ?_;refine on (top 37) (f2 252 251 F9) ?_;refine on (top 36) (f2 245 244 F9) ?_;refine on (top 35) (f3 238 237 F9) ?_;refine on (top 34) (f4 231 230 F9) ?_;refine on (top 33) (f4 226 225 F9) ?_;refine ol (top 32) E3 "ways_of.<locals>.<lambda>" (l3 221 220 F9) ?_;refine ox (top 30) (f2 216 215 iN) ?_;refine ox (top 29) (f1 211 210 iN) ?_;refine ol (top 28) sV "turned_order.<locals>.<lambda>" (l1 206 205 iN) ?_;refine on (top 27) (f3 199 198 iN) ?_;refine ox (top 26) (f1 192 191 iN) ?_;refine ox (top 25) (f2 185 184 iN) ?_;refine ox (top 24) (f3 178 177 iN) ?_;refine ox (top 23) (f2 171 170 iN) ?_;refine ox (top 22) (f1 164 163 iN) ?_;refine on (top 21) (f2 157 156 iN) ?_;refine on (top 20) (f3 152 151 iN) ?_;refine on (top 19) (f4 147 146 iN) ?_;refine on (top 18) (f1 142 141 iN) ?_;refine on (top 17) (f1 137 136 iN) ?_;refine on (top 16) (f3 132 131 iN) ?_;refine on (top 15) (f3 127 126 iN) ?_;refine on (top 14) (f2 120 119 iN) ?_;refine on (top 13) (f2 113 112 iN) ?_;refine on (top 12) (f3 108 107 iN) ?_;refine on (top 11) (f2 101 100 iN) ?_;refine on (top 10) (f3 94 93 iN) ?_;exact⟨Rf.R7,Ex.So,(Rf.GW ⟨289,mg_of X G (by kernel_rfl)⟩ (Rf.GW ⟨291,mg_of X G (by kernel_rfl)⟩ (Rf.GW ⟨565,mg_of X G (by kernel_rfl)⟩ Rf.SH))),B,M.ok (by decide +kernel),⟨_,X,G⟩⟩,hV.mg (f1 448 447 oJ) X G⟩
def RB(w:World):oD (Kf w.params) [201,218]=true:=by kernel_rfl
end K30
open PySem PySem.W PyProof.Rows
theorem PySem.Challenge.cw_stillflow_k30_listing_holds : PySem.Challenge.rw_stillflow_k30_listing.Holds := by
 refine holds_law K30.R5 λk1=>?_
 refine holds_open (XP:=XL K30.vw []) (YP:=K30.hk.says) K30.left K30.hk.of K30.hk.keeps (λs e=>xl_of s (Bool.and_eq_true_iff.mp e).1) XL.keeps (by rfl) (by rfl) (by rfl) (λs e=>recFacts_of (Bool.and_eq_true_iff.mp e).2) (by rfl) k1 (by decide +kernel) ⟨rfl,rfl,rfl,rfl,rfl,by decide +kernel⟩ ?hw ?hc
 case hw=>w_witness2
 case hc=>exact K30.walk (l:=PySem.Challenge.rw_stillflow_k30_listing) (K:=K30.Kf) (ts:=[201,218]) rfl rfl rfl (λw h Y=>⟨Y.1,Y.2⟩) K30.RB (λw=>K30.ins w.params) K30.main
