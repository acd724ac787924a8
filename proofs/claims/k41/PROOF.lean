import PyProof.Rows.All
import Wide.All
import OpenK.AllK
import Wide.FinOn
import PyProof.EqAt
import PyProof.EqKinds
import PyProof.TupleCall
import Lean
import PyProof.Draws
import PyProof.ListRange
import KE.KIsAll
import PySem.Challenge.RW_stillflow_k41_whole_sides
set_option Elab.async false
set_option linter.all false
set_option maxRecDepth 100000
set_option maxHeartbeats 4000000
abbrev _root_.zA:=@Option.bind_some
abbrev _root_.zB:=@Option.map_some
abbrev _root_.zC:=@List.mem_cons_of_mem
abbrev _root_.zD:=@List.length_map
abbrev _root_.zE:=@List.mem_cons_self
abbrev _root_.zF:=@Bool.and_eq_true
abbrev _root_.zG:=@List.getD_eq_getElem?_getD
abbrev _root_.zH:=@List.size_toArray
abbrev _root_.zI:=@List.map_cons
abbrev _root_.zJ:=@decide_eq_true_eq
abbrev _root_.zK:=@List.getElem?_eq_getElem
abbrev _root_.zL:=@List.length_cons
abbrev _root_.zM:=@List.map_map
abbrev _root_.zN:=@List.length_append
abbrev _root_.zO:=@List.getElem?_map
abbrev _root_.zP:=@Nat.lt_of_lt_of_le
abbrev _root_.zQ:=@List.mem_cons
abbrev _root_.zR:=@List.length_range
abbrev _root_.zS:=@List.mem_range
abbrev _root_.zT:=@List.getElem?_eq_some_iff
abbrev _root_.zU:=@PySem.Heap.get?_push_of_some
abbrev _root_.zV:=@PySem.wpAny_bind
abbrev _root_.zW:=@PySem.wpAny_pure
abbrev _root_.zX:=@PySem.Heap.get?_push_size
abbrev _root_.zY:=@PySem.Heap.lt_size
abbrev _root_.zZ:=@decide_eq_false
abbrev _root_.yA:=@decide_eq_true
abbrev _root_.yB:=@List.lookup_cons
abbrev _root_.yC:=@List.length_set
abbrev _root_.yD:=@Nat.le_trans
abbrev _root_.yE:=@List.mem_append_right
abbrev _root_.yF:=@List.not_mem_nil
abbrev _root_.yG:=@Int.toNat_natCast
abbrev _root_.yH:=@List.map_congr_left
abbrev _root_.yI:=@List.foldl_cons
abbrev _root_.yJ:=@List.mem_singleton
abbrev _root_.yK:=@Option.some.injEq
abbrev _root_.yL:=@if_pos
abbrev _root_.yM:=@Nat.le_refl
abbrev _root_.yN:=@if_neg
abbrev _root_.yO:=@Bool.false_eq_true
abbrev _root_.yP:=@Bool.not_eq_true'
abbrev _root_.yQ:=@of_decide_eq_true
abbrev _root_.yR:=@Nat.ne_of_lt
abbrev _root_.yS:=@List.getElem?_append_left
abbrev _root_.yT:=@List.getElem?_append_right
abbrev _root_.yU:=@List.map_nil
abbrev _root_.yV:=@List.set_cons_zero
abbrev _root_.yW:=@List.set_cons_succ
abbrev _root_.yX:=@List.getElem?_replicate
abbrev _root_.yY:=@List.getElem?_cons_succ
abbrev _root_.yZ:=@Bool.false_ne_true
abbrev _root_.xA:=@PySem.wpAny_mono
abbrev _root_.xB:=@decide_eq_false_iff_not
abbrev _root_.xC:=@List.length_singleton
abbrev _root_.xD:=@Option.some.inj
abbrev _root_.xE:=@List.replicate_succ
abbrev _root_.xF:=@List.cons_append
abbrev _root_.xG:=@List.all_eq_true
abbrev _root_.xH:=@if_true
abbrev _root_.xI:=@List.getElem?_set
abbrev _root_.xJ:=@PySem.Heap.size_push
abbrev _root_.xK:=@List.length_nil
abbrev _root_.xM:=@List.length_replicate
abbrev _root_.xN:=@PySem.Heap.get?_update_other
abbrev _root_.xO:=@List.nil_append
abbrev _root_.xP:=@List.length_filter_le
abbrev _root_.xQ:=@List.getElem?_cons_zero
abbrev _root_.xR:=@PySem.wpAny_pyIter_tuple
abbrev _root_.xS:=@List.all_cons
abbrev _root_.xU:=@or_false
abbrev _root_.xV:=@Nat.zero_le
abbrev _root_.xW:=@PySem.wpAny_truthy_bool
abbrev _root_.xX:=@PySem.wpAny_holding
abbrev _root_.xY:=@Bool.not_true
abbrev _root_.xZ:=@Int.le_refl
abbrev _root_.qA:=@List.getElem_mem
abbrev _root_.qB:=@List.mem_of_getElem?
abbrev _root_.qC:=@PySem.wpAny_callSpecial?_slot
abbrev _root_.qD:=@Array.getD_eq_getD_getElem?
abbrev _root_.qE:=@Nat.lt_irrefl
abbrev _root_.qF:=@List.append_nil
abbrev _root_.qG:=@Option.getD_some
abbrev _root_.qH:=@List.length_drop
abbrev _root_.qJ:=@List.mem_append_left
abbrev _root_.qK:=@PySem.wpAny_pyIter_list
abbrev _root_.qL:=@PySem.wpAny_newObj_type
abbrev _root_.qM:=@List.flatten_cons
abbrev _root_.qN:=@PySem.F.plainAttrs_list
abbrev _root_.qP:=@if_false
abbrev _root_.qQ:=@List.getElem_of_mem
abbrev _root_.qS:=@PyProof.Rows.callWith_type1
abbrev _root_.qT:=@PySem.wpAny_field
abbrev _root_.qU:=@PySem.sizeLine_eq
abbrev _root_.qV:=@PySem.wpAny_call_entry
abbrev _root_.qX:=@PySem.call_meets
abbrev _root_.qY:=@PySem.wpAny_Call_Name_kw
abbrev _root_.qZ:=@Nat.lt_of_le_of_lt
abbrev _root_.jA:=@List.map_append
abbrev _root_.jB:=@Bool.or_eq_true
abbrev _root_.jC:=@congrArg
abbrev _root_.jD:=@Nat.zero_add
abbrev _root_.jE:=@List.pairwise_map
abbrev _root_.jF:=@PyProof.Rows.slot_tuple_getitem
abbrev _root_.jG:=@List.filterMap_cons
abbrev _root_.jH:=@List.ext_getElem
abbrev _root_.jI:=@Nat.ne_of_gt
abbrev _root_.jJ:=@PySem.wpAny_passesOwn
abbrev _root_.jK:=@Bool.true_and
abbrev _root_.jL:=@List.getElem?_eq_none
abbrev _root_.jM:=@Ne.symm
abbrev _root_.jN:=@Nat.lt_succ_of_lt
abbrev _root_.jO:=@and_self
abbrev _root_.jP:=@decide_true
abbrev _root_.jQ:=@PySem.F.slot_tuple_iterator_next
abbrev _root_.jR:=@PySem.codeAny_mono
abbrev _root_.jS:=@Nat.le_of_lt
abbrev _root_.jT:=@Int.le_trans
abbrev _root_.jU:=@Nat.le_add_right
abbrev _root_.jV:=@List.length_take
abbrev _root_.jW:=@List.filter_cons
abbrev _root_.jX:=@List.mem_of_find?_eq_some
abbrev _root_.jY:=@Array.getElem?_eq_getElem
abbrev _root_.jZ:=@PySem.mem_of_lookup
abbrev _root_.kA:=@PyProof.Rows.listUpdate_at
abbrev _root_.kC:=@List.sum_cons
abbrev _root_.kE:=@PyProof.Rows.get?_update_seq
abbrev _root_.kF:=@PySem.codeAny_builtin
abbrev _root_.kG:=@List.filter_map
abbrev _root_.kH:=@PySem.wpAny_seqItems
abbrev _root_.kJ:=@List.take_of_length_le
abbrev _root_.kK:=@List.findIdx_lt_length_of_exists
abbrev _root_.kL:=@Option.getD_none
abbrev _root_.kM:=@Nat.lt_succ_self
abbrev _root_.kN:=@PySem.wpAny_newList
abbrev _root_.kO:=@PySem.wpAny_attempt
abbrev _root_.kP:=@List.getElem?_set_ne
abbrev _root_.kR:=@List.nodup_cons
abbrev _root_.kU:=@List.cons.injEq
abbrev _root_.kW:=@Bool.eq_iff_iff
abbrev _root_.kX:=@Bool.and_false
abbrev _root_.kY:=@PySem.wpAny_setField_rec
abbrev _root_.kZ:=@Int.emod_lt_of_pos
abbrev _root_.vA:=@List.drop_eq_getElem_cons
abbrev _root_.vB:=@List.foldl_append
abbrev _root_.vC:=@List.findIdx_cons
abbrev _root_.vD:=@PySem.wpAny_standAt
abbrev _root_.vE:=@List.any_cons
abbrev _root_.vF:=@PySem.F.args_tuple_add_2
abbrev _root_.vG:=@List.range'_succ
abbrev _root_.vH:=@PySem.F.entry_tuple_add
abbrev _root_.vI:=@List.pairwise_singleton
abbrev _root_.vJ:=@Int.eq_ofNat_of_zero_le
abbrev _root_.vK:=@beq_iff_eq
abbrev _root_.vL:=@PyProof.Rows.listItems_at
abbrev _root_.vM:=@PySem.F.slot_tuple_add
abbrev _root_.vN:=@List.range_succ_eq_map
abbrev _root_.vO:=@List.getElem?_set_self
abbrev _root_.vP:=@PySem.wpAny_execs_nil
abbrev _root_.vQ:=@Nat.not_lt_zero
abbrev _root_.vR:=@List.range_succ
abbrev _root_.vS:=@List.of_mem_zip
abbrev _root_.vT:=@List.find?_some
abbrev _root_.vU:=@Int.emod_nonneg
abbrev _root_.vV:=@PySem.F.slot_zip_next
abbrev _root_.vW:=@List.getElem?_toArray
abbrev _root_.vX:=@Nat.mul_le_mul
abbrev _root_.vY:=@Bool.false_and
abbrev _root_.vZ:=@List.getD_cons_zero
abbrev _root_.wA:=@List.getD_cons_succ
abbrev _root_.wC:=@Array.length_toList
abbrev _root_.wD:=@PySem.wpAny_rule
abbrev _root_.wF:=@of_decide_eq_false
abbrev _root_.wG:=@Option.isNone_none
abbrev _root_.wH:=@PySem.F.args_tuple_mul_2
abbrev _root_.wI:=@PySem.Code.quiet_builtin
abbrev _root_.wJ:=@PySem.wpAny_typeOf
abbrev _root_.wK:=@decide_false
abbrev _root_.wL:=@PySem.concat_meets
abbrev _root_.wM:=@Nat.lt_trans
abbrev _root_.wN:=@List.any_map
abbrev _root_.wQ:=@PySem.wpAny_pyIter_enum
abbrev _root_.wR:=@List.nodup_append
abbrev _root_.wU:=@Function.comp_def
abbrev _root_.wV:=@PySem.F.entry_tuple_mul
local macro_rules|`(def $i:declId $s:optDeclSig $v:declVal)=>`(noncomputable def $i:declId $s:optDeclSig $v:declVal)
local macro_rules|`(abbrev $i:declId $s:optDeclSig $v:declVal)=>`(noncomputable abbrev $i:declId $s:optDeclSig $v:declVal)
namespace L2
open PySem
def eM(s:Stmt):Arguments:=match s with
 | .FunctionDef _ a _ _ _ _ _ _ _ _=>a
 | _=>{ posonlyargs:=[],args:=[],vararg:=none,kwonlyargs:=[],kw_defaults:=[],kwarg:=none,defaults:=[] }
def bK(s:Stmt):List Stmt:=match s with
 | .FunctionDef _ _ b _ _ _ _ _ _ _=>b
 | _=>[]
def aD(s:Stmt):Scope:=match s with
 | .FunctionDef _ _ _ _ _ _ sc _ _ _=>sc
 | _=>{ kind:=.function,names:=[],isGenerator:=false,isCoroutine:=false }
end L2
namespace Hd
open PySem L2 PySem.Spec PyProof.Rows
def en(P:Params)(x:String)(t:Nat)(v:Value):DictEntry:=⟨PyData.keyHash P (Str.ofString x),.str (Str.ofString x) t,v⟩
def fo(x:Str)(st:Stmt)(pm:Value)(c:Addr):Obj:=⟨.type "function",none,.func (W.fnOf x x (eM st) (bK st) (aD st) .none .none .none pm none (.ref c) .none),#[]⟩
def co(vs:List Value):Obj:=⟨.type "code",none,.fields vs.toArray,#[]⟩
def Kc(n:Nat):Value:=if n=0 then .none else .ref n
def dY(x:Str)(t l n a b c d e f u:Nat):Obj:=co [.str x t,.str x (t+1),.str "/claim/cut.py" (t+2),.int l 0,.int n 0,.int 0 0,.int 0 0,.int 3 0,Kc a,.bool true,.int 181 0,Kc b,Kc c,Kc d,Kc e,Kc f,.int u 0,.int l 0,.str "/claim/cut.py" (u+1)]
open PySem PySem.W L2
structure Acc where
 a:Nat
 t:Nat
 nm:Value
 es:List DictEntry
 ts:List Value
 os:List Obj
def GR(q:NameKind)(sc:Scope):List Str:=sc.names.filterMap fun (x,k)=>if k=q then some x else none
def JT:Nat->List Str->List Value
 | _,[]=>[]
 | t,x::l=>.str x t::JT (t+1) l
def Fe(vs:List Value):Obj:=⟨.type "tuple",none,.seq vs.toArray,#[]⟩
def Kx:Obj:=⟨.none,none,.fields #[],#[]⟩
def KB(x:Str)(st:Stmt):Obj:=⟨.none,none,.func { name:=x,qualname:=x,params:=eM st,body:=.stmts (bK st),scope:=aD st,globals:=0,closure:=[],defaults:=.none,kwdefaults:=.none },#[]⟩
def NB(P:Params)(k:Nat)(st:Stmt):Acc->Acc
 | ⟨a,t,nm,es,ts,os⟩=>match st with
  | .FunctionDef x args _ _ _ _ sc _ _ pos =>
   if k=0 then ⟨a+5,t+6,nm,⟨PyData.keyHash P x,.str x (t+5),.ref (a+4)⟩::es,.ref (a+3)::.int 0 0::.int pos.line 0::ts,
    fo x st nm (a+3)::dY x t pos.line args.args.length a (a+1) 0 0 0 (a+2) (t+3)::KB x st::Kx::Fe []::os⟩
   else
    let m:=(GR .local sc).length
    let n:=m+(GR .cell sc).length
    ⟨a+7,t+6+n,nm,⟨PyData.keyHash P x,.str x (t+5+n),.ref (a+6)⟩::es,.ref (a+5)::.int 0 0::.int pos.line 0::ts,
    fo x st nm (a+5)::dY x t pos.line args.args.length a (a+1) 0 (a+2) (a+3) (a+4) (t+3+n)::KB x st::Fe (JT (t+3+m) (GR .cell sc))::Fe (JT (t+3) (GR .local sc))::Kx::Fe []::os⟩
  | .Assign [.Name x _] (.Constant c _ _) _ =>
   let v:=match c with|.int i=>Value.int i t|.str y=>.str y t|_=>.none
   if k=2 then ⟨a,t+2,v,es,ts,os⟩ else ⟨a,t+2,nm,⟨PyData.keyHash P x,.str x (t+1),v⟩::es,ts,os⟩
  | _=>⟨a,t,nm,es,ts,os⟩
def Lx(P:Params):List Nat->List Stmt->Acc->Acc
 | k::ks,st::r,A=>Lx P ks r (NB P k st A)
 | _,_,A=>A
def MH:Heap->Acc->Heap
 | ⟨⟨o0::o1::o2::⟨c3,d3,.dict ⟨e0::es⟩ n,s3⟩::r⟩,lf⟩,A=>⟨⟨o0::o1::o2::⟨c3,d3,.dict ⟨{ e0 with val:=A.nm }::(es++A.es.reverse)⟩ (n+A.es.length),s3⟩ ::
   (r.modify 8 (fun|⟨c,d,.fields ⟨vs⟩,s⟩=>⟨c,d,.fields ⟨vs++A.ts.reverse⟩,s⟩|o=>o)++A.os.reverse)⟩,lf⟩
 | h,_=>h
def LY(s:Shared)(A:Acc):Shared:={ s with heap:=MH s.heap A,toks:=A.t }
section
variable (p:Program) (w:World)
abbrev va:=behindTheImports p
abbrev EU:PySem.Env:={ scope:=p.main.scope,locals:=3,globals:=3,cells:=[],code:=.ref 13,frame:=some 14 }
abbrev vq:Code:=.body (va p) (EU p)
def EG(i:Nat):Pos:=if i=0 then default else ((va p).getD (i - 1) (.Pass default)).pos
abbrev Ft:List Frame:=[topFrame default]
def S0:Shared:=(fencedOpening treeTable p w 6000).getD {}
def Sb:Shared:=((topGo treeTable p w 11 (some (.ref 6)) 12 (S0 p w) (topStub p)).map (·.1)).getD {}
abbrev KA(n i j:Nat)(s:Shared):=segRun treeTable p w 11 (some (.ref 6)) 1 n s (piecesOf (((va p).drop i).take (j - i)) (EU p) (vq p) (EG p i) Ft)
def Sc(n j:Nat):Shared:=((KA p w n 0 j (Sb p w)).map (·.2.1)).getD {}
def SA(n j:Nat)(A:Acc)(ks:List Nat)(m:Nat):Shared:=LY (Sc p w n j) (Lx w.params (ks.take m) ((va p).drop j) A)
end
theorem Gd{p q:Program}{loose:List Str}{Xt:Shared->Bool}{α:Type}{Yf:Shared->α}{Ya:World->α}{g0:Bool}{s1:World->Shared}{M:Nat}
  (ho:∀w,fencedOpening treeTable p w 6000=some (S0 p w)) (hs:∀w,((S0 p w).heap.isNs mainGlobals&&(S0 p w).gens.size == 0,(S0 p w).heap.objs.size,(S0 p w).heap.nsMap mainGlobals "__annotations__")=(true,11,some (.ref 6)))
  (hr:∀w,topRun treeTable p w 11 (some (.ref 6)) M (S0 p w) (topStub p)=some (s1 w)) (hM:M<=6000)
  (hl:∀w,(staticsOk (importedModules p.main.body) (S0 p w).heap (s1 w).heap&&namesBound p (s1 w).heap&&gensDone (s1 w)&&laidKept (S0 p w).heap (s1 w).heap)=true)
  (hk:∀w,openSeen q loose (importedModules p.main.body) Xt g0 (s1 w)=openGood q loose) (hy:∀w,Yf (s1 w)=Ya w):LeftO p q loose Xt Yf Ya 6000 g0:=fun w=>by
 have r:=topRun_mono (6000 - M) _ _ _ _ (hr w)
 rw[show M+(6000 - M)=6000 by omega] at r
 have e:=hs w
 simp only[Prod.mk.injEq] at e
 have t:openEnds treeTable p w 6000=some (s1 w):=by
  unfold openEnds
  rw[ho w,zA]
  unfold topFrom
  rw[e.1,e.2.1,e.2.2]
  dsimp only
  rw[r,zA,hl w]
 rw[t,zB,hk w,hy w]
theorem Jv{p:Program}{w:World}{N:Nat}{r:Shared}(a:topGo treeTable p w 11 (some (.ref 6)) 12 (S0 p w) (topStub p)=some (Sb p w,⟨denote treeTable (.body (va p) (EU p)),vq p,default,Ft⟩))
  (b:segRun treeTable p w 11 (some (.ref 6)) 1 1 (Sb p w) (blockOf (va p) (EU p) (vq p) default Ft)=some (.next,Sb p w,vq p,EG p 0))
  (k:topRun treeTable p w 11 (some (.ref 6)) N (Sb p w) (restOf (va p) (EU p) (vq p) (EG p 0) Ft)=some r):topRun treeTable p w 11 (some (.ref 6)) (12+(1+N)) (S0 p w) (topStub p)=some r:=go_top a (piece_block b k)
theorem MB{p:Program}{w:World}{n N i j:Nat}{s s' r:Shared}(h:KA p w n i j s=some (.next,s',vq p,EG p j))(hij:i<=j)(k:topRun treeTable p w 11 (some (.ref 6)) N s' (restOf ((va p).drop j) (EU p) (vq p) (EG p j) Ft)=some r) :
  topRun treeTable p w 11 (some (.ref 6)) (n+N) s (restOf ((va p).drop i) (EU p) (vq p) (EG p i) Ft)=some r:=by
 have e:(va p).drop i=((va p).drop i).take (j - i)++(va p).drop j:=by
  have:=List.take_append_drop (j - i) ((va p).drop i)
  rw[List.drop_drop,show i+(j - i)=j by omega] at this
  exact this.symm
 rw[e]
 exact piece_app h k
end Hd
namespace K41
open PySem L2 PySem.Spec PyProof.Rows Hd PySem.W
abbrev top(i:Nat):Stmt:=PySem.Challenge.pw_stillflow_k41_whole_sides.main.body.getD i (.Pass ⟨0,0,0,0⟩)
def vw:Program:=W.view PySem.Challenge.pw_stillflow_k41_whole_sides [1,2,3,4,5,7,8,9,10,11,12,13,14,15,16,17,18,19,20,21,22,23,24,25,26,27,29,30,31,32,33,34,36,37,38,39,40,41,42,44,45,46,47,48,49,50,52,53,54,55,56,57,58,59,61,62,63,64,65]
def iy:Value:=(.str "stillflow.worlds" 271)
def BP:Value:=(.str "stillflow.flows" 419)
def Ai:Value:=(.str "stillflow.finding" 465)
def zt:Value:=(.str "stillflow.comparing" 528)
def Ac:Value:=(.str "stillflow.listing" 590)
def EX:Value:=(.str "law_stillflow_k41_whole_sides" 641)
def Kf(P:Params):W.Frag:=[(3,⟨.type "dict",none,.dict #[en P "__name__" 165 (.str "law_stillflow_k41_whole_sides" 641),en P "__doc__" 166 .none,en P "__package__" 167 .none,en P "__loader__" 168 (.builtin "__main__.__loader__#opaque"),en P "__spec__" 169 .none,en P "__annotations__" 170 (.ref 6),en P "__builtins__" 171 (.ref 4),en P "__file__" 173 (.str "/claim/cut.py" 172),en P "__cached__" 174 .none,en P "FlowError" 206 (.ref 24),en P "NoWorld" 222 (.ref 37),en P "NoPlan" 238 (.ref 49),en P "NoPlace" 254 (.ref 61),en P "TooMany" 270 (.ref 73),en P "MOST_PLACES" 274 (.int 4 273),en P "MOST" 276 (.int 9 275),en P "is_whole" 285 (.ref 82),en P "is_number" 293 (.ref 89),en P "is_long" 302 (.ref 96),en P "are_likes" 308 (.ref 101),en P "is_end" 316 (.ref 108),en P "is_way" 325 (.ref 115),en P "are_parts" 331 (.ref 120),en P "liked_pairs" 337 (.ref 125),en P "is_world" 343 (.ref 130),en P "through" 349 (.ref 135),en P "keeps_amounts" 355 (.ref 140),en P "is_plan" 361 (.ref 145),en P "check_world" 368 (.ref 152),en P "check_plan" 376 (.ref 159),en P "check_whole" 385 (.ref 166),en P "check_number" 393 (.ref 173),en P "check_side" 400 (.ref 180),en P "check_place" 409 (.ref 187),en P "replaced" 418 (.ref 194),en P "ways_of" 426 (.ref 199),en P "chosen_by" 432 (.ref 204),en P "wants_more" 438 (.ref 209),en P "why_kept" 447 (.ref 216),en P "first_leaving" 456 (.ref 223),en P "is_still" 464 (.ref 230),en P "chosen_by_all" 472 (.ref 235),en P "limits" 478 (.ref 240),en P "lowered" 487 (.ref 247),en P "refused" 499 (.ref 254),en P "steps" 509 (.ref 261),en P "capped" 520 (.ref 268),en P "givers_best" 527 (.ref 275),en P "greater" 535 (.ref 280),en P "on_ways_of" 541 (.ref 285),en P "would_keep" 553 (.ref 292),en P "check_both" 562 (.ref 299),en P "likes" 573 (.ref 306),en P "all_like" 579 (.ref 311),en P "rank" 589 (.ref 318),en P "MOST_LISTED" 593 (.int 3000 592),en P "check_many" 602 (.ref 325),en P "within_limits" 608 (.ref 330),en P "all_plans" 614 (.ref 335),en P "all_rests" 620 (.ref 340),en P "through_all" 626 (.ref 345),en P "totals" 634 (.ref 352),en P "short" 640 (.ref 357),en P "_law_cell" 650 (.ref 364),en P "_law_drawn" 660 (.ref 371),en P "_law_orders" 675 (.ref 378),en P "_law_world" 681 (.ref 383),en P "law" 687 (.ref 388)] 68,#[]⟩),
 (81,dY "is_whole" 277 15 3 76 77 0 78 79 80 283),
 (82,fo "is_whole" (top 9) iy 81),
 (88,dY "is_number" 286 19 2 83 84 0 85 86 87 291),
 (89,fo "is_number" (top 10) iy 88),
 (95,dY "is_long" 294 21 3 90 91 0 92 93 94 300),
 (96,fo "is_long" (top 11) iy 95),
 (100,dY "are_likes" 303 23 2 97 98 0 0 0 99 306),
 (101,fo "are_likes" (top 12) iy 100),
 (107,dY "is_end" 309 29 2 102 103 0 104 105 106 314),
 (108,fo "is_end" (top 13) iy 107),
 (114,dY "is_way" 317 31 3 109 110 0 111 112 113 323),
 (115,fo "is_way" (top 14) iy 114),
 (119,dY "are_parts" 326 35 3 116 117 0 0 0 118 329),
 (120,fo "are_parts" (top 15) iy 119),
 (124,dY "liked_pairs" 332 43 1 121 122 0 0 0 123 335),
 (125,fo "liked_pairs" (top 16) iy 124),
 (129,dY "is_world" 338 48 1 126 127 0 0 0 128 341),
 (130,fo "is_world" (top 17) iy 129),
 (134,dY "through" 344 55 4 131 132 0 0 0 133 347),
 (135,fo "through" (top 18) iy 134),
 (139,dY "keeps_amounts" 350 57 3 136 137 0 0 0 138 353),
 (140,fo "keeps_amounts" (top 19) iy 139),
 (144,dY "is_plan" 356 59 2 141 142 0 0 0 143 359),
 (145,fo "is_plan" (top 20) iy 144),
 (151,dY "check_world" 362 66 1 146 147 0 148 149 150 366),
 (152,fo "check_world" (top 21) iy 151),
 (158,dY "check_plan" 369 69 2 153 154 0 155 156 157 374),
 (159,fo "check_plan" (top 22) iy 158),
 (165,dY "check_whole" 377 73 3 160 161 0 162 163 164 383),
 (166,fo "check_whole" (top 23) iy 165),
 (172,dY "check_number" 386 76 2 167 168 0 169 170 171 391),
 (173,fo "check_number" (top 24) iy 172),
 (179,dY "check_side" 394 78 1 174 175 0 176 177 178 398),
 (180,fo "check_side" (top 25) iy 179),
 (186,dY "check_place" 401 80 3 181 182 0 183 184 185 407),
 (187,fo "check_place" (top 26) iy 186),
 (193,dY "replaced" 410 83 3 188 189 0 190 191 192 416),
 (194,fo "replaced" (top 27) iy 193),
 (198,dY "ways_of" 421 86 3 195 196 0 0 0 197 424),
 (199,fo "ways_of" (top 29) BP 198),
 (203,dY "chosen_by" 427 91 4 200 201 0 0 0 202 430),
 (204,fo "chosen_by" (top 30) BP 203),
 (208,dY "wants_more" 433 98 4 205 206 0 0 0 207 436),
 (209,fo "wants_more" (top 31) BP 208),
 (215,dY "why_kept" 439 105 3 210 211 0 212 213 214 445),
 (216,fo "why_kept" (top 32) BP 215),
 (222,dY "first_leaving" 448 113 2 217 218 0 219 220 221 454),
 (223,fo "first_leaving" (top 33) BP 222),
 (229,dY "is_still" 457 118 2 224 225 0 226 227 228 462),
 (230,fo "is_still" (top 34) BP 229),
 (234,dY "chosen_by_all" 467 121 3 231 232 0 0 0 233 470),
 (235,fo "chosen_by_all" (top 36) Ai 234),
 (239,dY "limits" 473 127 1 236 237 0 0 0 238 476),
 (240,fo "limits" (top 37) Ai 239),
 (246,dY "lowered" 479 129 3 241 242 0 243 244 245 485),
 (247,fo "lowered" (top 38) Ai 246),
 (253,dY "refused" 488 131 2 248 249 0 250 251 252 497),
 (254,fo "refused" (top 39) Ai 253),
 (260,dY "steps" 500 138 1 255 256 0 257 258 259 507),
 (261,fo "steps" (top 40) Ai 260),
 (267,dY "capped" 510 147 2 262 263 0 264 265 266 518),
 (268,fo "capped" (top 41) Ai 267),
 (274,dY "givers_best" 521 152 1 269 270 0 271 272 273 525),
 (275,fo "givers_best" (top 42) Ai 274),
 (279,dY "greater" 530 156 2 276 277 0 0 0 278 533),
 (280,fo "greater" (top 44) zt 279),
 (284,dY "on_ways_of" 536 158 4 281 282 0 0 0 283 539),
 (285,fo "on_ways_of" (top 45) zt 284),
 (291,dY "would_keep" 542 160 5 286 287 0 288 289 290 551),
 (292,fo "would_keep" (top 46) zt 291),
 (298,dY "check_both" 554 163 3 293 294 0 295 296 297 560),
 (299,fo "check_both" (top 47) zt 298),
 (305,dY "likes" 563 166 5 300 301 0 302 303 304 571),
 (306,fo "likes" (top 48) zt 305),
 (310,dY "all_like" 574 170 4 307 308 0 0 0 309 577),
 (311,fo "all_like" (top 49) zt 310),
 (317,dY "rank" 580 174 4 312 313 0 314 315 316 587),
 (318,fo "rank" (top 50) zt 317),
 (324,dY "check_many" 594 180 1 319 320 0 321 322 323 600),
 (325,fo "check_many" (top 53) Ac 324),
 (329,dY "within_limits" 603 186 1 326 327 0 0 0 328 606),
 (330,fo "within_limits" (top 54) Ac 329),
 (334,dY "all_plans" 609 194 1 331 332 0 0 0 333 612),
 (335,fo "all_plans" (top 55) Ac 334),
 (339,dY "all_rests" 615 198 1 336 337 0 0 0 338 618),
 (340,fo "all_rests" (top 56) Ac 339),
 (344,dY "through_all" 621 200 3 341 342 0 0 0 343 624),
 (345,fo "through_all" (top 57) Ac 344),
 (351,dY "totals" 627 202 1 346 347 0 348 349 350 632),
 (352,fo "totals" (top 58) Ac 351),
 (356,dY "short" 635 205 2 353 354 0 0 0 355 638),
 (357,fo "short" (top 59) Ac 356),
 (363,dY "_law_cell" 643 211 2 358 359 0 360 361 362 648),
 (364,fo "_law_cell" (top 61) EX 363),
 (370,dY "_law_drawn" 651 215 3 365 366 0 367 368 369 658),
 (371,fo "_law_drawn" (top 62) EX 370),
 (377,dY "_law_orders" 661 219 3 372 373 0 374 375 376 673),
 (378,fo "_law_orders" (top 63) EX 377),
 (382,dY "_law_world" 676 227 3 379 380 0 0 0 381 679),
 (383,fo "_law_world" (top 64) EX 382),
 (387,dY "law" 682 243 1 384 385 0 0 0 386 685),
 (388,fo "law" (top 65) EX 387)]
def hk:W.Hook:=W.kmHook Kf [3,81,82,88,89,95,96,100,101,107,108,114,115,119,120,124,125,129,130,134,135,139,140,144,145,151,152,158,159,165,166,172,173,179,180,186,187,193,194,198,199,203,204,208,209,215,216,222,223,229,230,234,235,239,240,246,247,253,254,260,261,267,268,274,275,279,280,284,285,291,292,298,299,305,306,310,311,317,318,324,325,329,330,334,335,339,340,344,345,351,352,356,357,363,364,370,371,377,378,382,383,387,388] (fun _=>rfl) [196]
abbrev pp:=PySem.Challenge.pw_stillflow_k41_whole_sides
abbrev A0:Acc:=⟨76,271,.str "stillflow.errors" 187,[],[],[]⟩
abbrev ks:List Nat:=[2,3,3,1,1,1,0,1,1,0,0,0,0,0,0,1,1,1,1,1,1,1,2,0,0,0,1,1,1,2,0,0,1,1,1,1,1,2,0,0,1,1,1,0,1,2,3,1,0,0,0,0,1,0,2,1,1,1,0,0]
abbrev cs(w:World):Shared:=Sc pp w 1048 6
abbrev sa(w:World)(m:Nat):Shared:=SA pp w 1048 6 A0 ks m
theorem o0(w:World):fencedOpening treeTable pp w 6000=some (S0 pp w):=by kernel_rfl
theorem o1(w:World):((S0 pp w).heap.isNs mainGlobals&&(S0 pp w).gens.size == 0,(S0 pp w).heap.objs.size,(S0 pp w).heap.nsMap mainGlobals "__annotations__")=(true,11,some (.ref 6)):=by kernel_rfl
theorem o2(w:World):topGo treeTable pp w 11 (some (.ref 6)) 12 (S0 pp w) (topStub pp)=some (Sb pp w,⟨denote treeTable (.body (va pp) (EU pp)),vq pp,default,Ft⟩):=by kernel_rfl
theorem o3(w:World):segRun treeTable pp w 11 (some (.ref 6)) 1 1 (Sb pp w) (blockOf (va pp) (EU pp) (vq pp) default Ft)=some (.next,Sb pp w,vq pp,EG pp 0):=by kernel_rfl
theorem q0(w:World):KA pp w 1048 0 6 (Sb pp w)=some (.next,cs w,vq pp,EG pp 6):=by kernel_rfl
theorem q1(w:World):cs w=sa w 0:=by kernel_rfl
theorem r0(w:World):KA pp w 845 6 39 (sa w 0)=some (.next,sa w 33,vq pp,EG pp 39):=by kernel_rfl
theorem r1(w:World):KA pp w 715 39 66 (sa w 33)=some (.next,sa w 60,vq pp,EG pp 66):=by kernel_rfl
abbrev fs(w:World):Shared:=sa w 60
theorem q2(w:World):topRun treeTable pp w 11 (some (.ref 6)) 3 (fs w) (restOf ((va pp).drop 66) (EU pp) (vq pp) (EG pp 66) Ft)=some (fs w):=by kernel_rfl
theorem rl(w:World):topRun treeTable pp w 11 (some (.ref 6)) (12+(1+(1048+(845+(715+3))))) (S0 pp w) (topStub pp)=some (fs w):=Jv (o2 w) (o3 w) (MB (i:=0) (q0 w) (by decide) (by rw[q1 w];exact (MB (r0 w) (by decide) (MB (r1 w) (by decide) (q2 w)))))
abbrev sn(w:World):=openSeen vw [] (importedModules pp.main.body) (fun s=>xlAt vw [] s&&recOk [] s) true (fs w)
abbrev gd:=openGood vw []
theorem l0(w:World):(staticsOk (importedModules pp.main.body) (S0 pp w).heap (fs w).heap&&namesBound pp (fs w).heap&&gensDone (fs w)&&laidKept (S0 pp w).heap (fs w).heap)=true:=by kernel_rfl
theorem M6(w:World):(sn w).1=gd.1:=by kernel_rfl
theorem Nd(w:World):(sn w).2.1=gd.2.1:=by kernel_rfl
theorem Nl(w:World):(sn w).2.2.1=gd.2.2.1:=by kernel_rfl
theorem Nn(w:World):(sn w).2.2.2.1=gd.2.2.2.1:=by kernel_rfl
theorem M8(w:World):(sn w).2.2.2.2.1=gd.2.2.2.2.1:=by kernel_rfl
theorem Np(w:World):(sn w).2.2.2.2.2.1=gd.2.2.2.2.2.1:=by kernel_rfl
theorem Nz(w:World):(sn w).2.2.2.2.2.2=gd.2.2.2.2.2.2:=by kernel_rfl
theorem Ni(w:World):hk.obs (fs w)=hk.val w:=by kernel_rfl
theorem left:LeftO pp vw [] (fun s=>xlAt vw [] s&&recOk [] s) hk.obs hk.val 6000:=Gd o0 o1 rl (by decide) l0 (fun w=>Prod.ext (M6 w) (Prod.ext (Nd w) (Prod.ext (Nl w) (Prod.ext (Nn w) (Prod.ext (M8 w) (Prod.ext (Np w) (Nz w))))))) Ni
theorem L9:PySem.Challenge.rw_stillflow_k41_whole_sides.wellSaid=true:=by kernel_rfl
end K41
namespace L2
open PySem PySem.Spec PyProof.Rows
abbrev u9:=Sum Int Str
def Hu:u9->Value->Bool
 | .inl k,v=>Value.isInt k v
 | .inr x,v=>Value.isStrOf x v
def MP(w:World):u9->Int
 | .inl k=>hashInt k
 | .inr x=>hashStr w x
theorem bG:∀ {k:u9}{v:Value},Hu k v=true->(∃i t,k=Sum.inl i/\v=Value.int i t)\/(∃x t,k=Sum.inr x/\v=Value.str x t)
 | .inl i,v,h=>by
  obtain⟨t,e⟩:=Value.isInt_shape (k:=i) (v:=v) h
  exact .inl ⟨i,t,rfl,e⟩
 | .inr x,v,h=>by
  obtain⟨t,e⟩:=Value.isStrOf_shape (x:=x) (v:=v) h
  exact .inr ⟨x,t,rfl,e⟩
theorem JU(a b:Int):decide ((Sum.inl a:u9)=Sum.inl b)=(a == b):=by
 by_cases e:a=b
 ·subst e;simp
 ·have h:¬ (Sum.inl a:u9)=Sum.inl b:=fun q=>e (Sum.inl.inj q)
  rw[zZ h]
  exact (beq_eq_false_iff_ne.mpr e).symm
theorem JX(a b:Str):decide ((Sum.inr a:u9)=Sum.inr b)=decide (a=b):=by
 by_cases e:a=b
 ·subst e;simp
 ·have h:¬ (Sum.inr a:u9)=Sum.inr b:=fun q=>e (Sum.inr.inj q)
  rw[zZ h,zZ e]
theorem IA(a:Int)(b:Str):decide ((Sum.inl a:u9)=Sum.inr b)=false:=zZ (fun q=>nomatch q)
theorem IE(a:Str)(b:Int):decide ((Sum.inr a:u9)=Sum.inl b)=false:=zZ (fun q=>nomatch q)
def zm(prog:Program)(w:World):PySem.KeyKind prog w u9 where
 is:=Hu
 hash:=MP w
 inj:=fun v a b ha hb=>by
  rcases bG ha with ⟨i,t,rfl,rfl⟩|⟨x,t,rfl,rfl⟩
  ·rcases bG hb with ⟨j,u,rfl,e⟩|⟨y,u,rfl,e⟩
   ·injection e with e1 _;rw[e1]
   ·exact nomatch e
  ·rcases bG hb with ⟨j,u,rfl,e⟩|⟨y,u,rfl,e⟩
   ·exact nomatch e
   ·injection e with e1 _;rw[e1]
 byValue:=fun k v h=>by
  rcases bG h with ⟨i,t,rfl,rfl⟩|⟨x,t,rfl,rfl⟩<;>rfl
 pyHash:=fun hv h=>by
  rcases bG hv with ⟨i,t,rfl,rfl⟩|⟨x,t,rfl,rfl⟩
  ·exact wpAny_pyHash_int h
  ·exact wpAny_pyHash_str h
 eqBool:=fun hu hv h=>by
  rcases bG hu with ⟨i,t,rfl,rfl⟩|⟨x,t,rfl,rfl⟩
  ·rcases bG hv with ⟨j,u,rfl,rfl⟩|⟨y,u,rfl,rfl⟩
   ·rw[JU] at h;exact wpAny_eqBool_int h
   ·rw[IA] at h;exact SeqAt.EqAt.int_str i t y u _ _ _ _ h
  ·rcases bG hv with ⟨j,u,rfl,rfl⟩|⟨y,u,rfl,rfl⟩
   ·rw[IE] at h;exact SeqAt.EqAt.str_int x t j u _ _ _ _ h
   ·rw[JX] at h;exact wpAny_eqBool_str h
 «strs»:=fun k x t v h=>by
  rcases bG h with ⟨i,u,rfl,e⟩|⟨y,u,rfl,e⟩
  ·exact nomatch e
  ·injection e with e1 _
   subst e1
   cases v<;>rfl
inductive V where
 | non|bl (b:Bool)|int (i:Int)|str (x:Str)|byt (b:Array UInt8)|flt (b:UInt64)|ref (a:Addr)|ty (n:String)
 deriving DecidableEq
def RelV:V->Value->Prop
 | .non,u=>u=Value.none
 | .bl b,u=>u=Value.bool b
 | .int i,u=>∃t,u=Value.int i t
 | .str x,u=>∃t,u=Value.str x t
 | .byt b,u=>∃t,u=Value.bytes b t
 | .flt b,u=>∃t,u=Value.float b t
 | .ref a,u=>u=Value.ref a
 | .ty n,u=>u=Value.type n
abbrev aF:List V->List Value->Prop:=Paired RelV
theorem aF.length(r:aF xs us):xs.length=us.length:=Paired.length r
theorem aF.get:∀ {xs:List V}{us:List Value}{i:Nat}{x:V},aF xs us->xs[i]?=some x->∃u,us[i]?=some u/\RelV x u
 | _,_,_,_,.nil,e=>by simp at e
 | _,_,0,_,.cons r _,e=>by simp at e;subst e;exact⟨_,rfl,r⟩
 | _,_,i+1,x,.cons _ t,e=>by
  obtain⟨u,h1,h2⟩:=aF.get (i:=i) (x:=x) t (by simpa using e)
  exact⟨u,by simpa using h1,h2⟩
theorem aF.set(r:RelV x u):∀ {xs:List V}{us:List Value}(i:Nat),aF xs us->aF (xs.set i x) (us.set i u)
 | _,_,_,.nil=>.nil
 | _,_,0,.cons _ t=>.cons r t
 | _,_,i+1,.cons q t=>.cons q (aF.set r i t)
theorem aF.append:∀ {xs ys:List V}{us ws:List Value},aF xs us->aF ys ws->aF (xs++ys) (us++ws)
 | _,_,_,_,.nil,s=>s
 | _,_,_,_,.cons r t,s=>.cons r (aF.append t s)
theorem aF.take:∀ {xs:List V}{us:List Value}(n:Nat),aF xs us->aF (xs.take n) (us.take n)
 | _,_,0,_=>.nil
 | _,_,_+1,.nil=>.nil
 | _,_,n+1,.cons r t=>.cons r (aF.take n t)
theorem aF.drop:∀ {xs:List V}{us:List Value}(n:Nat),aF xs us->aF (xs.drop n) (us.drop n)
 | _,_,0,r=>r
 | _,_,_+1,.nil=>.nil
 | _,_,n+1,.cons _ t=>aF.drop n t
def Lz:Option V->Option Value->Prop
 | some v,some u=>RelV v u
 | none,none=>True
 | _,_=>False
def KV:List (κ×V)->List (κ×Value)->Prop:=Paired fun (p:κ×V) (q:κ×Value)=>p.1=q.1/\RelV p.2 q.2
def kV:u9->V
 | .inl i=>.int i
 | .inr x=>.str x
inductive HO where
  | lst (xs:List V)
  | tup (xs:List V)
  | dK (kvs:List (u9×V))|dT (kvs:List (List u9×V))
  | set (S:Int->Bool) (n:Nat)
  | ins (C dx:Addr) (fs:List (Str×V))
  | own (x:Addr)
  | xd (fs:List (Str×V))
  | met (f x:Addr)
  | rng (lo hi:Int)
  | frz (o:Obj) (u:HO)
  | tab (q:Str)
 | cod (q:Str)
  | ext (φ:Heap->Prop)
abbrev Hp:=Addr->Option HO
def upd(H:Hp)(a:Addr)(o:HO):Hp:=fun b=>if b=a then some o else H b
theorem aJ:upd H a o a=some o:=by unfold upd;rw[yL rfl]
theorem ay(h:b≠a):upd H a o b=H b:=by unfold upd;rw[yN h]
theorem aM{H:Hp}{a b:Addr}{o:HO}(h:H a=some o)(h':H b=none):a≠b:=by
 intro e;subst e;rw[h] at h';cases h'
def n5(h:Heap)(a:Addr)(its:Array Value):Prop:=IsTup h a its/\∃o,h.get? a=some o/\o.dict=none
theorem n5.new(h:Heap)(its:Array Value):n5 (h.push { cls:=.type "tuple",data:=.seq its }) h.objs.size its:=⟨IsTup.new _ _,_,zX _ rfl,rfl⟩
section
variable (P:Program) (w:World)
def dv(H:Hp)(h:Heap)(a:Addr):HO->Prop
 | .lst xs=>xs.length<=sizeLine/\∃ (its:List Value) (n:Nat),aF xs its/\h.get? a=some { cls:=.type "list",data:=.seq its.toArray n }
 | .tup xs=>xs.length<=sizeLine/\∃its:List Value,aF xs its/\n5 h a its.toArray
 | .dK kvs=>kvs.length<=sizeLine/\(a == sysModules)=false/\∃vs,KV kvs vs/\h.DictOf (zm P w) a vs
 | .dT kvs=>kvs.length<=sizeLine/\(a == sysModules)=false/\∃xs:List (List u9×Addr×Value),
   Paired (fun (p:List u9×V) (q:List u9×Addr×Value)=>p.1=q.1/\H q.2.1=some (.tup (p.1.map kV))/\RelV p.2 q.2.2) kvs xs /\
   ∃o es ep,h.get? a=some o/\o.ExactDict/\o.data=.dict es ep/\es.toList=xs.map (entryOfKey (tupleKind (zm P w)))/\(xs.map (·.1)).Nodup
 | .set S n=>h.SetOf (intKind P w) a S n
 | .ins C dx fs=>H dx=some (.own a)/\fs.length<=1000/\dx≠a/\h.get? a=some (W.instObj C dx) /\
   ∃mA,h.Ns1 dx mA/\(∀f,Lz (fs.lookup f) (mA f))/\PySem.Within mA (fs.map (·.1))
 | .own _=>∃o,h.get? a=some o
 | .xd fs=>∃mA,h.Ns1 a mA/\∀f,Lz (fs.lookup f) (mA f)
 | .rng lo hi=>∃t u v,h.get? a=some { cls:=.type "range",data:=.fields #[.int lo t,.int hi u,.int 1 v] }
 | .frz o u=>h.get? a=some o/\dv H h a u
 | .tab q=>∃ps:Array Value,h.get? a=some { cls:=.none,data:=.fields ps }/\TriplesOk ps.toList/\∀pos v,codeAmong pos ps.toList=some v->∃c,v=.ref c/\H c=some (.cod q)
 | .cod q=>h.CodeRec (.ref a) q
 | .met f x=>h.get? a=some (W.methodObj (.ref f) (.ref x))
 | .ext φ=>φ h/\(∃o,h.get? a=some o)/\∀h1 h2:Heap,φ h1->(∀o,h1.get? a=some o->h2.get? a=some o)->φ h2
def nJ(H:Hp)(h:Heap):Prop:=∀a o,H a=some o->dv P w H h a o
end
section
theorem dv.lt(x:dv P w H h a o):a < h.objs.size:=by
 cases o with
 | lst xs=>obtain⟨_,_,_,_,e⟩:=x;exact zY e
 | tup xs=>obtain⟨_,_,_,p⟩:=x;exact p.1.lt
 | dK kvs=>obtain⟨_,_,_,_,o,_,_,e,_⟩:=x;exact zY e
 | dT kvs=>obtain⟨_,_,_,_,o,_,_,e,_⟩:=x;exact zY e
 | set S n=>obtain⟨o,_,_,_,e,_⟩:=x;exact zY e
 | ins C dx fs=>obtain⟨_,_,_,e,_⟩:=x;exact zY e
 | own y=>obtain⟨_,e⟩:=x;exact zY e
 | xd fs=>obtain⟨_,⟨_,_,_,e,_⟩,_⟩:=x;exact zY e
 | rng lo hi=>obtain⟨_,_,_,e⟩:=x;exact zY e
 | frz ob u=>obtain⟨e,_⟩:=x;exact zY e
 | tab q=>obtain⟨_,e,_⟩:=x;exact zY e
 | cod q=>obtain⟨_,_,_,_,e0,e,_⟩:=x;cases e0;exact zY e
 | met f y=>exact zY (show h.get? a=some _ from x)
 | ext φ=>obtain⟨_,⟨_,e⟩,_⟩:=x;exact zY e
theorem Paired.mapP:∀ {l₁:List α}{l₂:List β},Paired F l₁ l₂->(∀a b,F a b->G a b)->Paired G l₁ l₂
 | _,_,.nil,_=>.nil
 | _,_,.cons r t,f=>.cons (f _ _ r) (Paired.mapP t f)
def M3:HO->Prop
 | .tup _=>True
 | .cod _=>True
 | _=>False
theorem dv.stay(x:dv P w H h a o)(k:∀b u,(b=a\/H b=some (.own a))->h.get? b=some u->h'.get? b=some u)
  (ho:∀b,H b=some (.own a)->H' b=some (.own a)) (ht:∀b u,H b=some u->M3 u->H' b=some u):dv P w H' h' a o:=by
 induction o with
 | lst xs=>obtain⟨z,its,n,r,e⟩:=x;exact⟨z,its,n,r,k _ _ (.inl rfl) e⟩
 | tup xs=>obtain⟨z,its,r,⟨ob,e,c⟩,o2,e2,d2⟩:=x;exact⟨z,its,r,⟨ob,k _ _ (.inl rfl) e,c⟩,o2,k _ _ (.inl rfl) e2,d2⟩
 | dK kvs=>obtain⟨z,y,vs,r,ob,es,ep,e,c⟩:=x;exact⟨z,y,vs,r,ob,es,ep,k _ _ (.inl rfl) e,c⟩
 | dT kvs =>
  obtain⟨z,y,xs,r,ob,es,ep,e,c⟩:=x
  exact⟨z,y,xs,Paired.mapP r fun p q z=>⟨z.1,ht _ _ z.2.1 trivial,z.2.2⟩,ob,es,ep,k _ _ (.inl rfl) e,c⟩
 | set S n=>obtain⟨ob,es,ep,t,e,c⟩:=x;exact⟨ob,es,ep,t,k _ _ (.inl rfl) e,c⟩
 | ins C dx fs =>
  obtain⟨d,z,ne,e,mA,⟨od,es,ep,e2,c⟩,r⟩:=x
  exact⟨ho _ d,z,ne,k _ _ (.inl rfl) e,mA,⟨od,es,ep,k _ _ (.inr d) e2,c⟩,r⟩
 | own y=>obtain⟨ob,e⟩:=x;exact⟨ob,k _ _ (.inl rfl) e⟩
 | xd fs=>obtain⟨mA,⟨od,es,ep,e,c⟩,r⟩:=x;exact⟨mA,⟨od,es,ep,k _ _ (.inl rfl) e,c⟩,r⟩
 | rng lo hi=>obtain⟨t,u,v,e⟩:=x;exact⟨t,u,v,k _ _ (.inl rfl) e⟩
 | frz ob u ih=>obtain⟨e,q⟩:=x;exact⟨k _ _ (.inl rfl) e,ih q⟩
 | tab q=>obtain⟨ps,e,t,c⟩:=x;exact⟨ps,k a _ (.inl rfl) e,t,fun pos v z=>let ⟨c0,z1,z2⟩:=c pos v z;⟨c0,z1,ht _ _ z2 trivial⟩⟩
 | cod q=>obtain⟨c,oc,vs,t,e0,e,r⟩:=x;cases e0;exact⟨_,oc,vs,t,rfl,k _ _ (.inl rfl) e,r⟩
 | met f y =>
  have e:h.get? a=some (W.methodObj (.ref f) (.ref y)):=x
  show h'.get? a=some (W.methodObj (.ref f) (.ref y))
  exact k a _ (.inl rfl) e
 | ext φ=>obtain⟨p,⟨o,e⟩,st⟩:=x;exact⟨st _ _ p fun o q=>k _ _ (.inl rfl) q,⟨o,k _ _ (.inl rfl) e⟩,st⟩
theorem nJ.lt(x:nJ P w H h)(e:H a=some o):a < h.objs.size:=(x a o e).lt
theorem nJ.fresh(x:nJ P w H h)(e:h.objs.size<=a):H a=none:=by
 cases q:H a with
 | none=>rfl
 | some u=>exact absurd (zP (x.lt q) e) (qE _)
theorem nJ.kept(x:nJ P w H h)(k:∀b u,h.get? b=some u->h'.get? b=some u):nJ P w H h':=fun a o e =>
 (x a o e).stay (fun b u _ q=>k b u q) (fun _ q=>q) fun _ _ q _=>q
theorem nJ.laid(x:nJ P w H h)(k:∀b u,h.get? b=some u->h'.get? b=some u)(hp:h.objs.size<=a)(new:dv P w (upd H a o) h' a o):nJ P w (upd H a o) h':=fun b u e=>by
 have hn:=x.fresh hp
 by_cases hb:b=a
 ·subst hb;rw[aJ] at e;cases e;exact new
 ·rw[ay hb] at e
  exact (x b u e).stay (fun c v _ q=>k c v q) (fun c q=>by rw[ay (aM q hn)];exact q) fun c xs q _=>by rw[ay (aM q hn)];exact q
end
def Rd(H:Hp)(a:Addr)(u:HO):Prop:=H a=some u\/∃o,H a=some (.frz o u)
theorem Rd.ok(r:Rd H a u)(x:nJ P w H h):dv P w H h a u:=by
 rcases r with r|⟨o,r⟩
 ·exact x a u r
 ·obtain⟨_,q⟩:=x a _ r
  exact q
def KM:Option HO->Prop
 | some (.lst _)=>True
 | some (.dK _)=>True
 | some (.dT _)=>True
 | some (.set _ _)=>True
 | some (.ins _ _ _)=>True
 | some (.ext _)=>True
 | _=>False
section
theorem nJ.write(ok:nJ P w H h)(mu:KM (H x))(he:e=x\/H e=some (.own x))(k:∀b u,b≠e->h.get? b=some u->h'.get? b=some u)(heo:∃u,h'.get? e=some u)
  (new:dv P w (upd H x o') h' x o'):nJ P w (upd H x o') h':=fun b u q=>by
 have nown:∀c y,H c=some (.own y)->c≠x:=fun c y r z=>by subst z;rw[r] at mu;exact mu
 have ntup:∀c u,H c=some u->M3 u->c≠x:=fun c u r hr z=>by subst z;rw[r] at mu;cases u<;>first|exact mu|exact hr
 by_cases hb:b=x
 ·subst hb;rw[aJ] at q;cases q;exact new
 ·rw[ay hb] at q
  by_cases hbe:b=e
  ·have q':H b=some (.own x):=by
    rcases he with z|z
    ·exact absurd (hbe.trans z) hb
    ·rw[hbe];exact z
   rw[q] at q';cases q'
   obtain⟨v,hv⟩:=heo
   exact⟨v,by rw[hbe];exact hv⟩
  ·refine (ok b u q).stay (fun c v hc r=>k c v ?_ r) (fun c r=>by rw[ay (nown c b r)];exact r) fun c xs r hr=>by rw[ay (ntup c xs r hr)];exact r
   rcases hc with rfl|hc
   ·exact hbe
   ·rintro rfl
    rcases he with z|z
    ·exact nown c b hc z
    ·rw[hc] at z;cases z;exact hb rfl
end
def LN:HO->Prop
 | .tab _=>True
 | .cod _=>True
 | _=>False
theorem LN.not_mut(h:LN u):¬ KM (some u):=by cases u<;>first|exact fun z=>z|exact h.elim
structure Hr(H H':Hp)(h h':Heap):Prop where
 st:∀b u,H b=some u->LN u->H' b=some u
 gr:∀b q ps,H b=some (.tab q)->h.get? b=some { cls:=.none,data:=.fields ps }->∃more:Array Value,h'.get? b=some { cls:=.none,data:=.fields (ps++more) }
theorem Hr.kept(k:∀b u,(∃q,H b=some (.tab q))->h.get? b=some u->h'.get? b=some u)(st:∀b u,H b=some u->LN u->H' b=some u):Hr H H' h h' :=
 ⟨st,fun b q ps e z=>⟨#[],by rw[Array.append_empty];exact k b _ ⟨q,e⟩ z⟩⟩
theorem Hr.trans(a:Hr H H1 h h1)(b:Hr H1 H2 h1 h2):Hr H H2 h h2 :=
 ⟨fun c u q t=>b.st c u (a.st c u q t) t,fun c q ps e z=>by
  obtain⟨m1,z1⟩:=a.gr c q ps e z
  obtain⟨m2,z2⟩:=b.gr c q _ (a.st c _ e trivial) z1
  exact⟨m1++m2,by rw[z2,Array.append_assoc]⟩⟩
structure Un(fs ex:List Addr)(H H':Hp)(h h':Heap):Prop where
 keep:∀b o,h.get? b=some o->H b=none->b∉fs->b∉ex->h'.get? b=some o
 slot:∀b o,h.get? b=some o->H b=none->b∈fs->b∉ex->∃sl,h'.get? b=some { o with slots:=sl }
 free:∀b o,h.get? b=some o->H b=none->b∉ex->H' b=none
 there:∀b o,h.get? b=some o->b∉ex->∃o',h'.get? b=some o'
 tups:∀b xs,H b=some (.tup xs)->H' b=some (.tup xs)
 frzs:∀b o u,H b=some (.frz o u)->H' b=some (.frz o u)
 tbls:Hr H H' h h'
section
theorem Un.any(u:Un fs ex H H1 h h1)(q:h.get? b=some ob)(n:H b=none)(hx:b∉ex):∃sl,h1.get? b=some { ob with slots:=sl }:=by
 by_cases hb:b∈fs
 ·exact u.slot b ob q n hb hx
 ·exact⟨ob.slots,u.keep b ob q n hb hx⟩
theorem Un.kept(k:∀b u,h.get? b=some u->h'.get? b=some u):Un fs ex H H h h' :=
 ⟨fun b ob q _ _ _=>k b ob q,fun b ob q _ _ _=>⟨ob.slots,k b ob q⟩,fun _ _ _ n _=>n,fun b ob q _=>⟨ob,k b ob q⟩,fun _ _ q=>q,fun _ _ _ q=>q,.kept (fun b u _ e=>k b u e) fun _ _ e _=>e⟩
theorem Un.refl:Un fs ex H H h h:=Un.kept fun _ _ q=>q
theorem Un.laid(k:∀b u,h.get? b=some u->h'.get? b=some u)(hp:h.objs.size<=a)(hn:H a=none):Un fs ex H (upd H a o) h h' where
 keep:=fun b u q _ _ _=>k b u q
 slot:=fun b u q _ _ _=>⟨u.slots,k b u q⟩
 free:=fun b u q n _=>by rw[ay (yR (zP (zY q) hp))];exact n
 there:=fun b u q _=>⟨u,k b u q⟩
 tups:=fun b xs q=>by rw[ay (aM q hn)];exact q
 frzs:=fun b u xs q=>by rw[ay (aM q hn)];exact q
 tbls:=.kept (fun b u _ e=>k b u e) fun b u q _=>by rw[ay (aM q hn)];exact q
theorem Un.write(mu:KM (H x))(he:e=x\/H e=some (.own x))(k:∀b u,b≠e->h.get? b=some u->h'.get? b=some u)(heo:∃u,h'.get? e=some u):Un fs ex H (upd H x o) h h':=by
 have hx:∀b,H b=none->b≠x:=fun b n z=>by subst z;rw[n] at mu;exact mu
 have hb:∀b,H b=none->b≠e:=fun b n z=>by
  subst z
  rcases he with r|r
  ·exact hx b n r
  ·rw[n] at r;cases r
 have hm:∀b u,H b=some u->¬ KM (some u)->b≠x:=fun b u q nm z=>by subst z;rw[q] at mu;exact nm mu
 refine⟨fun b u q n _ _=>k b u (hb b n) q,fun b u q n _ _=>⟨u.slots,k b u (hb b n) q⟩,fun b u q n _=>by rw[ay (hx b n)];exact n,fun b u q _=>?_,
  fun b xs q=>by rw[ay (hm b _ q fun z=>z)];exact q,fun b u xs q=>by rw[ay (hm b _ q fun z=>z)];exact q,.kept (fun b u z e=>k b u (fun r=>by subst r;rcases he with r|r<;>first|(subst r;rcases z with ⟨q,z⟩;rw[z] at mu;exact mu)|(rcases z with ⟨q,z⟩;rw[z] at r;cases r)) e) fun b u q nm=>by rw[ay (hm b _ q (nm.not_mut))];exact q⟩
 by_cases hbe:b=e
 ·subst hbe;exact heo
 ·exact⟨u,k b u hbe q⟩
end
def LO(h:Heap)(H:Hp):List Addr:=(List.range h.objs.size).filter fun a=>(H a).isSome
def se(h:Heap)(H:Hp):Heap:=W.hideAll h (LO h H)
theorem AI(h:Heap)(H:Hp):(se h H).objs.size=h.objs.size:=W.hideAll_size _ _
theorem De(e:h.get? b=some o)(n:H b=none):(se h H).get? b=some o :=
 W.hideAll_get _ e fun hm=>by
  have q:(H b).isSome=true:=(List.mem_filter.mp hm).2
  rw[n] at q;simp at q
theorem G0(e:(se h H).get? b=some o):h.get? b=some o/\H b=none:=by
 have e':h.get? b=some o:=W.of_hideAll (LO h H) e
 refine⟨e',?_⟩
 cases q:H b with
 | none=>rfl
 | some x =>
  have hm:b∈LO h H:=List.mem_filter.mpr ⟨List.mem_range.mpr (zY e'),by simp[q]⟩
  have z:(se h H).get? b=none:=W.hideAll_none (LO h H) hm
  rw[z] at e;cases e
def LM(mg:Str->Option Value)(base:Heap):Prop:=∃bm o,mg "__builtins__"=some (.ref bm)/\bm≠builtinsNs/\bm≠mainGlobals/\base.get? bm=some o/\o.cls=.type "module"/\o.dict=some builtinsNs/\o.data=.plain
structure Mod(K:W.Frag)(mg:Str->Option Value)(base:Heap):Prop where
 kin:K.In base
 glob:base.Ns mainGlobals mg
 blt:∃mb,base.Ns builtinsNs mb/\∀x:Str,x≠"__name__"->mb x=bootBuiltins x
 nolimit:base.NoLimit
 bmd:LM mg base
structure Cx where
 prog:Program
 w:World
 K:W.Frag
 mg:Str->Option Value
 base:Heap
 A:Around
 N:List Str
 s₀:Shared
 H₀:Hp
 env:Env
 outer:List Env
 stack:List Env
 ex:List Addr
 fn:Str->Bool
 calm:Bool
 pn:List (Addr×Obj)
 xe:Value->Shared->Prop
def Cy(l:List Env):List Addr:=l.filterMap (·.frame)
abbrev Cx.fs(X:Cx):List Addr:=Cy X.outer
def Hb(sc:Scope)(x:Str):Prop:=sc.names.lookup x=some .local \/ sc.names.lookup x=some .cell\/sc.names.lookup x=some .free
def Loc(sc:Scope)(x:Str):Prop:=sc.names.lookup x=some .local \/ sc.names.lookup x=some .cell
def Look(env:Env)(h:Heap)(m:Str->Option Value)(x:Str)(u:Value):Prop :=
 (env.kindOf x=some .local /\ m x=some u)\/((env.kindOf x=some .cell\/env.kindOf x=some .free)/\∃c,env.cells.lookup x=some c/\h.IsCell c (some u))
structure Cx.Ok(X:Cx):Prop where
 mod:Mod X.K X.mg X.base
 kind:X.env.scope.kind=.function
 glob:X.env.globals=mainGlobals
 blt:X.env.builtins=builtinsNs
 above:X.s₀.heap.objs.size<=X.env.locals
 inj:∀x y c,X.env.cells.lookup x=some c->X.env.cells.lookup y=some c->x=y
 has:∀x,(X.env.kindOf x=some .cell\/X.env.kindOf x=some .free)->∃c,X.env.cells.lookup x=some c
 cab:∀x c,X.fn x=true->X.env.cells.lookup x=some c->X.s₀.heap.objs.size<=c
 hd:X.calm=true->X.A.handled=none
 frames:X.A.frames=some X.stack
 stk:X.stack=X.outer\/(X.stack=X.env::X.outer/\X.env.frame=some X.env.locals)
 exf:∀b∈X.ex,b≠X.env.locals/\∀x c,X.env.cells.lookup x=some c->c≠b
 bs:∀b o,X.base.get? b=some o->X.s₀.heap.get? b=some o/\X.H₀ b=none
 bsz:X.base.objs.size<=X.s₀.heap.objs.size
 noex:∀b o,X.base.get? b=some o->b∉X.ex
 exfs:∀b∈X.ex,b∉X.fs
 funs:X.s₀.heap.FunFrames X.base X.outer
 frf:∀b∈X.fs,X.H₀ b=none
structure Inv(X:Cx)(pins:List (Addr×Obj))(σ:List (Option V))(H:Hp)(s:Shared):Prop where
 ok:X.Ok
 os:s.os=X.s₀.os
 bare:AllBare s.gens
 base:Un X.fs X.ex X.H₀ H X.s₀.heap s.heap
 loc:∃m,s.heap.Ns X.env.locals m/\∀ (i:Nat) (x:Str) (v:V),X.N[i]?=some x->σ[i]?=some (some v)->Hb X.env.scope x->∃u,RelV v u/\Look X.env s.heap m x u
 cell:∀x c,X.env.cells.lookup x=some c->∃v,s.heap.IsCell c v
 free:H X.env.locals=none
 freeC:∀x c,X.env.cells.lookup x=some c->H c=none
 pin:∀p∈X.pn++pins,s.heap.get? p.1=some p.2/\H p.1=none/\p.1≠X.env.locals/\p.1∉X.fs/\∀v,p.2.data≠.cell v
 hok:nJ X.prog X.w H s.heap
 len:σ.length=X.N.length
section
theorem Cx.Ok.nofr{X:Cx}(ok:X.Ok)(e:X.base.get? b=some o):b∉X.fs:=fun hb=>by
 have:=(ok.funs.mem hb).1
 rw[e] at this;cases this
theorem Inv.bs{X:Cx}{s:Shared}(I:Inv X pins σ H s):∀b o,X.base.get? b=some o->s.heap.get? b=some o/\H b=none:=fun b o e =>
 ⟨I.base.keep b o (I.ok.bs b o e).1 (I.ok.bs b o e).2 (I.ok.nofr e) (I.ok.noex b o e),I.base.free b o (I.ok.bs b o e).1 (I.ok.bs b o e).2 (I.ok.noex b o e)⟩
theorem Inv.bk(I:Inv X pins σ H s):∀b o,X.base.get? b=some o->s.heap.get? b=some o:=fun b o e=>(I.bs b o e).1
theorem Inv.mod(I:Inv X pins σ H s):Mod X.K X.mg X.base:=I.ok.mod
theorem Inv.kIn(I:Inv X pins σ H s):X.K.In s.heap:=I.ok.mod.kin.keeps I.bk
theorem Inv.nolimit(I:Inv X pins σ H s):s.heap.NoLimit:=I.ok.mod.nolimit.keeps I.bk
theorem Inv.lt(I:Inv X pins σ H s):X.env.locals < s.heap.objs.size:=let ⟨_,hn,_⟩:=I.loc;hn.lt
theorem Inv.sz(I:Inv X pins σ H s):X.s₀.heap.objs.size<=s.heap.objs.size:=yD I.ok.above (jS I.lt)
theorem Inv.nofs(I:Inv X pins σ H s)(h:s.heap.objs.size<=a):a∉X.fs:=fun hb=>by
 obtain⟨_,o,ho,_⟩:=I.ok.funs.mem hb
 exact absurd (zP (zY ho) (yD I.sz h)) (qE _)
theorem Inv.cne(I:Inv X pins σ H s):∀x c,X.env.cells.lookup x=some c->c≠X.env.locals:=fun x c e z=>by
 obtain⟨v,o,ho,hd⟩:=I.cell x c e
 obtain⟨m,⟨o',es,ep,ho',hd',_⟩,_⟩:=I.loc
 rw[z,ho'] at ho;cases ho;rw[hd'] at hd;cases hd
theorem Inv.funs(I:Inv X pins σ H s):s.heap.FunFrames X.base X.outer:=by
 have all:∀ (l:List Env),(∀b∈Cy l,b∈X.fs)->X.s₀.heap.FunFrames X.base l->s.heap.FunFrames X.base l:=by
  intro l
  induction l with
  | nil=>intro _ _;trivial
  | cons env r ih =>
   intro hs hl
   obtain⟨hk,⟨L,o,hf,hn,ho,hd⟩,hr⟩:=hl
   have hL:L∈X.fs:=hs L (by unfold Cy;rw[jG,hf];exact zE)
   obtain⟨sl,e⟩:=I.base.slot L o ho (I.ok.frf L hL) hL fun z=>I.ok.exfs L z hL
   exact⟨hk,⟨L,_,hf,hn,e,hd⟩,ih (fun b hb=>hs b (by unfold Cy;rw[jG,hf];exact zC _ hb)) hr⟩
 exact all X.outer (fun _ hb=>hb) I.ok.funs
theorem Inv.stack(I:Inv X pins σ H s):s.heap.FunFrames X.base X.stack:=by
 rcases I.ok.stk with e|⟨e,hf⟩
 ·rw[e];exact I.funs
 ·rw[e]
  obtain⟨m,hn,_⟩:=I.loc
  refine .cons (by rw[I.ok.kind];decide) hf hn ?_ I.funs
  exact Heap.get?_none_of_le (yD I.ok.bsz I.ok.above)
theorem Inv.stkSub(I:Inv X pins σ H s):∀b∈Cy X.stack,b∈X.env.locals::X.fs:=fun b hb=>by
 rcases I.ok.stk with e|⟨e,hf⟩
 ·rw[e] at hb;exact zC _ hb
 ·rw[e] at hb
  unfold Cy at hb
  rw[jG,hf] at hb
  exact hb
theorem Inv.stkFree(I:Inv X pins σ H s):∀b∈Cy X.stack,H b=none:=fun b hb=>by
 rcases List.mem_cons.mp (I.stkSub b hb) with e|hb
 ·rw[e];exact I.free
 ·obtain⟨_,o,ho,_⟩:=I.ok.funs.mem hb
  exact I.base.free b o ho (I.ok.frf b hb) fun z=>I.ok.exfs b z hb
theorem Inv.step{g':Array GenState}{t':Nat}{d':Drawn}{ch:List Addr}(I:Inv X pins σ H s)
  (hch:∀b∈ch,(b∈X.ex\/X.s₀.heap.objs.size<=b)/\b≠X.env.locals/\(∀x c,X.env.cells.lookup x=some c->c≠b)/\∀p∈X.pn++pins,p.1≠b)
  (keep:∀b o,b≠X.env.locals->b∉X.fs->b∉ch->s.heap.get? b=some o->H b=none->h'.get? b=some o)
  (slot:∀b o,b≠X.env.locals->b∈X.fs->b∉ch->s.heap.get? b=some o->H b=none->∃sl,h'.get? b=some { o with slots:=sl }) (free:∀b o,b∉ch->s.heap.get? b=some o->H b=none->H' b=none)
  (there:∀b o,b∉ch->s.heap.get? b=some o->∃o',h'.get? b=some o')
  (tups:∀b xs,H b=some (.tup xs)->H' b=some (.tup xs)) (frzs:∀b o u,H b=some (.frz o u)->H' b=some (.frz o u)) (tbls:Hr H H' s.heap h')
  (ns:∀m,s.heap.Ns X.env.locals m->h'.Ns X.env.locals m) (hok:nJ X.prog X.w H' h') (hg:AllBare g') :
  Inv X pins σ H' { s with heap:=h',gens:=g',drawn:=d',toks:=t' }:=by
 have neL:∀b o,X.s₀.heap.get? b=some o->b≠X.env.locals:=fun b o e=>yR (zP (zY e) I.ok.above)
 have neC:∀b o,X.s₀.heap.get? b=some o->b∉X.ex->b∉ch:=fun b o e hx hb=>by
  rcases (hch b hb).1 with z|z
  ·exact hx z
  ·exact absurd (zP (zY e) z) (qE _)
 have cellK:∀x c,X.env.cells.lookup x=some c->∀v,s.heap.IsCell c v->h'.IsCell c v:=fun x c e v ⟨o,ho,hd⟩=>by
  have nch:c∉ch:=fun z=>(hch c z).2.2.1 x c e rfl
  by_cases hc:c∈X.fs
  ·obtain⟨sl,q⟩:=slot c o (I.cne x c e) hc nch ho (I.freeC x c e)
   exact⟨_,q,hd⟩
  ·exact⟨o,keep c o (I.cne x c e) hc nch ho (I.freeC x c e),hd⟩
 refine⟨I.ok,I.os,hg,⟨fun b o e n hb hx=>?_,fun b o e n hb hx=>?_,fun b o e n hx=>?_,fun b o e hx=>?_,fun b xs e=>tups b xs (I.base.tups b xs e),fun b o xs e=>frzs b o xs (I.base.frzs b o xs e),I.base.tbls.trans tbls⟩,?_,fun x c e=>?_,?_,fun x c e=>?_,fun p hp=>?_,hok,I.len⟩
 ·exact keep b o (neL b o e) hb (neC b o e hx) (I.base.keep b o e n hb hx) (I.base.free b o e n hx)
 ·obtain⟨sl,e1⟩:=I.base.slot b o e n hb hx
  obtain⟨sl',e2⟩:=slot b _ (neL b o e) hb (neC b o e hx) e1 (I.base.free b o e n hx)
  exact⟨sl',e2⟩
 ·obtain⟨o',e1⟩:=I.base.there b o e hx
  exact free b o' (neC b o e hx) e1 (I.base.free b o e n hx)
 ·obtain⟨o',e1⟩:=I.base.there b o e hx
  exact there b o' (neC b o e hx) e1
 ·obtain⟨m,hn,hl⟩:=I.loc
  refine⟨m,ns m hn,fun i x v e1 e2 e3=>?_⟩
  obtain⟨u,r,l⟩:=hl i x v e1 e2 e3
  refine⟨u,r,?_⟩
  rcases l with l|⟨k,c,e,z⟩
  ·exact .inl l
  ·exact .inr ⟨k,c,e,cellK x c e _ z⟩
 ·obtain⟨v,z⟩:=I.cell x c e
  exact⟨v,cellK x c e v z⟩
 ·obtain⟨m,⟨o,_,_,ho,_⟩,_⟩:=I.loc
  exact free _ o (fun z=>(hch _ z).2.1 rfl) ho I.free
 ·obtain⟨v,o,ho,hd⟩:=I.cell x c e
  exact free c o (fun z=>(hch c z).2.2.1 x c e rfl) ho (I.freeC x c e)
 ·obtain⟨e,n,ne,nf,d⟩:=I.pin p hp
  have nch:p.1∉ch:=fun z=>(hch p.1 z).2.2.2 p hp rfl
  exact⟨keep p.1 p.2 ne nf nch e n,free p.1 p.2 nch e n,ne,nf,d⟩
theorem Inv.un{t':Nat}(I:Inv X pins σ H s)(u:Un X.fs [] H H' s.heap h')(hok:nJ X.prog X.w H' h'):Inv X pins σ H' { s with heap:=h',toks:=t' }:=by
 obtain⟨m,⟨o,es,ep,ho,r⟩,_⟩:=id I.loc
 obtain⟨sl,hL⟩:=u.any ho I.free (by simp)
 exact I.step (g':=s.gens) (d':=s.drawn) (ch:=[]) (fun _ z=>nomatch z) (fun b o _ hb _ e n=>u.keep b o e n hb (by simp)) (fun b o _ hb _ e n=>u.slot b o e n hb (by simp)) (fun b o _ e n=>u.free b o e n (by simp)) (fun b o _ e=>u.there b o e (by simp)) u.tups u.frzs u.tbls (fun m' hm=>by
  obtain⟨o',es',ep',ho',r'⟩:=hm
  rw[ho] at ho';cases ho'
  exact⟨_,es',ep',hL,r'⟩) hok I.bare
theorem Inv.call{t':Nat}{d':Drawn}{ch:List Addr}(I:Inv X pins σ H s)(u:Un (Cy X.stack) ch H H' s.heap h')(hok:nJ X.prog X.w H' h')(hg:AllBare g')
  (hch:∀b∈ch,(b∈X.ex\/X.s₀.heap.objs.size<=b)/\b≠X.env.locals/\(∀x c,X.env.cells.lookup x=some c->c≠b)/\∀p∈X.pn++pins,p.1≠b) :
  Inv X pins σ H' { s with heap:=h',gens:=g',drawn:=d',toks:=t' }:=by
 obtain⟨m,⟨o,es,ep,ho,r⟩,_⟩:=id I.loc
 obtain⟨sl,hL⟩:=u.any ho I.free fun z=>(hch _ z).2.1 rfl
 exact I.step (ch:=ch) hch (fun b o hL hb hc e n=>u.keep b o e n (fun z=>(List.mem_cons.mp (I.stkSub b z)).elim hL hb) hc) (fun b o _ _ hc e n=>u.any e n hc) (fun b o hc e n=>u.free b o e n hc) (fun b o hc e=>u.there b o e hc) u.tups u.frzs u.tbls (fun m' hm=>by
  obtain⟨o',es',ep',ho',r'⟩:=hm
  rw[ho] at ho';cases ho'
  exact⟨_,es',ep',hL,r'⟩) hok hg
theorem Inv.turned{t':Nat}(I:Inv X pins σ H s)(k:∀b o,b≠it->s.heap.get? b=some o->h'.get? b=some o)(hn:H it=none)(hL:it≠X.env.locals)
  (h1:it∈X.ex\/X.s₀.heap.objs.size<=it) (h2:∀x c,X.env.cells.lookup x=some c->c≠it) (h3:∀p∈X.pn++pins,p.1≠it):Inv X pins σ H { s with heap:=h',toks:=t' }:=by
 have nit:∀b u,H b=some u->b≠it:=fun b u e z=>by rw[z,hn] at e;cases e
 refine I.step (g':=s.gens) (d':=s.drawn) (ch:=[it]) (fun b hb=>?_) (fun b o _ _ hc e _=>k b o (fun z=>hc (by simp[z])) e) (fun b o _ _ hc e _=>⟨o.slots,k b o (fun z=>hc (by simp[z])) e⟩) (fun _ _ _ _ n=>n)
  (fun b o hc e=>⟨o,k b o (fun z=>hc (by simp[z])) e⟩) (fun _ _ e=>e) (fun _ _ _ e=>e) (.kept (fun b u z e=>k b u (fun r=>by subst r;rcases z with ⟨q,z⟩;rw[hn] at z;cases z) e) fun _ _ e _=>e) (fun m hm=>?_) (fun b u e=>?_) I.bare
 ·have e:b=it:=by simpa using hb
  subst e
  exact⟨h1,hL,h2,h3⟩
 ·obtain⟨o,es,ep,ho,r⟩:=hm
  exact⟨o,es,ep,k _ o (jM hL) ho,r⟩
 ·refine (I.hok b u e).stay (fun c v hc q=>k c v ?_ q) (fun _ q=>q) fun _ _ q _=>q
  rcases hc with z|z
  ·rw[z];exact nit b u e
  ·exact nit c _ z
theorem Inv.tok(I:Inv X pins σ H s)(t:Nat):Inv X pins σ H { s with toks:=t }:=I.un (h':=s.heap) (t':=t) Un.refl I.hok
theorem Inv.kept{t':Nat}(I:Inv X pins σ H s)(k:∀b u,s.heap.get? b=some u->h'.get? b=some u):Inv X pins σ H { s with heap:=h',toks:=t' }:=I.un (Un.kept k) (I.hok.kept k)
theorem Inv.laid{t':Nat}(I:Inv X pins σ H s)(k:∀b u,s.heap.get? b=some u->h'.get? b=some u)(hp:s.heap.objs.size<=a)(new:dv X.prog X.w (upd H a o) h' a o) :
  Inv X pins σ (upd H a o) { s with heap:=h',toks:=t' }:=I.un (Un.laid k hp (I.hok.fresh hp)) (I.hok.laid k hp new)
theorem Inv.write{t':Nat}(I:Inv X pins σ H s)(mu:KM (H x))(he:e=x\/H e=some (.own x))(k:∀b u,b≠e->s.heap.get? b=some u->h'.get? b=some u)(heo:∃u,h'.get? e=some u)
  (new:dv X.prog X.w (upd H x o) h' x o):Inv X pins σ (upd H x o) { s with heap:=h',toks:=t' }:=I.un (Un.write mu he k heo) (I.hok.write mu he k heo new)
theorem Inv.pins_of(I:Inv X pins σ H s)(h:∀p∈pins',s.heap.get? p.1=some p.2/\H p.1=none/\p.1≠X.env.locals/\p.1∉X.fs/\∀v,p.2.data≠.cell v):Inv X pins' σ H s :=
 ⟨I.ok,I.os,I.bare,I.base,I.loc,I.cell,I.free,I.freeC,fun p hp=>(List.mem_append.mp hp).elim (fun z=>I.pin p (qJ _ z)) (h p),I.hok,I.len⟩
theorem tE{N:List Str}(hN:N.Nodup){i j:Nat}(a:N[i]?=some x)(b:N[j]?=some x):i=j:=by
 obtain⟨h1,e1⟩:=List.getElem?_eq_some_iff.mp a
 obtain⟨h2,e2⟩:=List.getElem?_eq_some_iff.mp b
 exact (List.getElem_inj hN).mp (e1.trans e2.symm)
theorem qj{M:Model}{A:Around}{E:Value->Shared->Prop}{i:Nat}{Q:Unit->Shared->Prop}(I:Inv X pins σ H s)(hN:X.N.Nodup)(hi:X.N[i]?=some x)(hx:Loc X.env.scope x)(r:RelV v u)
  (h:∀s',Inv X pins (σ.set i (some v)) H s'->(∃a,Heap.SameBut a s.heap s'.heap/\(a=X.env.locals\/X.env.cells.lookup x=some a))->Q () s') (hf:X.fn x=true\/X.env.scope.names.lookup x=some .local:=by first|exact .inl rfl|exact .inr rfl|assumption):wpAny M A (storeName X.env x u) Q E s:=by
 obtain⟨m,hn,hl⟩:=id I.loc
 have hcls:(X.env.scope.kind == .class||(X.env.scope.kind == .module&&X.env.locals != X.env.globals))=false:=by rw[I.ok.kind];rfl
 have hiσ:i < σ.length:=by rw[I.len];exact (List.getElem?_eq_some_iff.mp hi).1
 have cne:=I.cne
 have tracked:∀ {a:Addr}{h':Heap},(∃o,s.heap.get? a=some o/\H a=none)->Heap.SameBut a s.heap h'->nJ X.prog X.w H h':=fun {a h'} ha hs b ob e=>by
  obtain⟨_,_,hfree⟩:=ha
  refine (I.hok b ob e).stay (fun c w' hc q=>(hs.2 c ?_).trans q) (fun _ q=>q) fun _ _ q _=>q
  rintro rfl
  rcases hc with rfl|hc
  ·rw[hfree] at e;cases e
  ·rw[hfree] at hc;cases hc
 rcases hx with hk|hk
 ·refine wpAny_storeName_local hk hn (fun h' hn' hs=>?_) hcls
  obtain⟨oL,_,_,hoL,_⟩:=id hn
  refine h _ ⟨I.ok,I.os,I.bare,⟨fun b o e n hb hx=>?_,fun b o e n hb hx=>?_,I.base.free,fun b o e hx=>?_,I.base.tups,I.base.frzs,I.base.tbls.trans (.kept (fun b u z e=>(hs.2 b (fun r=>by rcases z with ⟨q,z⟩;rw[r,I.free] at z;cases z)).trans e) fun _ _ e _=>e)⟩,⟨_,hn',fun j y v' e1 e2 e3=>?_⟩,fun y c e=>?_,I.free,I.freeC,fun p hp=>?_,tracked ⟨oL,hoL,I.free⟩ hs,by simpa using I.len⟩ ⟨_,hs,.inl rfl⟩
  ·exact (hs.2 b (yR (zP (zY e) I.ok.above))).trans (I.base.keep b o e n hb hx)
  ·obtain⟨sl,e1⟩:=I.base.slot b o e n hb hx
   exact⟨sl,(hs.2 b (yR (zP (zY e) I.ok.above))).trans e1⟩
  ·obtain⟨o',e1⟩:=I.base.there b o e hx
   exact⟨o',(hs.2 b (yR (zP (zY e) I.ok.above))).trans e1⟩
  ·by_cases hj:j=i
   ·subst hj
    rw[hi] at e1;cases e1
    rw[vO hiσ] at e2
    cases e2
    exact⟨u,r,.inl ⟨hk,by simp⟩⟩
   ·rw[kP (jM hj)] at e2
    obtain⟨u',r',q⟩:=hl j y v' e1 e2 e3
    refine⟨u',r',?_⟩
    rcases q with ⟨k,e⟩|⟨k,c,e,z⟩
    ·refine .inl ⟨k,?_⟩
     have:y≠x:=fun e=>hj (tE hN e1 (e ▸ hi))
     simp[this,e]
    ·exact .inr ⟨k,c,e,z.sameBut hs (cne y c e)⟩
  ·obtain⟨w',z⟩:=I.cell y c e
   exact⟨w',z.sameBut hs (cne y c e)⟩
  ·obtain⟨e,n,ne,nf,d⟩:=I.pin p hp
   exact⟨(hs.2 p.1 ne).trans e,n,ne,nf,d⟩
 ·have hfn:X.fn x=true:=by
   rcases hf with z|z
   ·exact z
   ·rw[z] at hk;cases hk
  obtain⟨c,hc⟩:=I.ok.has x (.inl hk)
  obtain⟨w',z⟩:=I.cell x c hc
  refine wpAny_storeName_cell I.ok.kind hk hc z (fun h' hc' hs=>?_)
  obtain⟨oc,hoc,hocd⟩:=id z
  refine h { s with heap:=h' } ⟨I.ok,I.os,I.bare,⟨fun b o e n hb hx=>?_,fun b o e n hb hx=>?_,I.base.free,fun b o e hx=>?_,I.base.tups,I.base.frzs,I.base.tbls.trans (.kept (fun b u z e=>(hs.2 b (fun r=>by rcases z with ⟨q,z⟩;rw[r,I.freeC x c hc] at z;cases z)).trans e) fun _ _ e _=>e)⟩,⟨m,hn.sameBut hs (jM (cne x c hc)),fun j y v' e1 e2 e3=>?_⟩,fun y c' e=>?_,I.free,I.freeC,fun p hp=>?_,tracked ⟨oc,hoc,I.freeC x c hc⟩ hs,by simpa using I.len⟩ ⟨c,hs,.inr hc⟩
  ·exact (hs.2 b (yR (zP (zY e) (I.ok.cab x c hfn hc)))).trans (I.base.keep b o e n hb hx)
  ·obtain⟨sl,e1⟩:=I.base.slot b o e n hb hx
   exact⟨sl,(hs.2 b (yR (zP (zY e) (I.ok.cab x c hfn hc)))).trans e1⟩
  ·obtain⟨o',e1⟩:=I.base.there b o e hx
   exact⟨o',(hs.2 b (yR (zP (zY e) (I.ok.cab x c hfn hc)))).trans e1⟩
  ·by_cases hj:j=i
   ·subst hj
    rw[hi] at e1;cases e1
    rw[vO hiσ] at e2
    cases e2
    exact⟨u,r,.inr ⟨.inl hk,c,hc,hc'⟩⟩
   ·rw[kP (jM hj)] at e2
    obtain⟨u',r',q⟩:=hl j y v' e1 e2 e3
    refine⟨u',r',?_⟩
    rcases q with q|⟨k,c',e,z'⟩
    ·exact .inl q
    ·refine .inr ⟨k,c',e,z'.sameBut hs ?_⟩
     rintro rfl
     exact hj (tE hN e1 (I.ok.inj _ _ _ e hc ▸ hi))
  ·by_cases hcc:c'=c
   ·subst hcc;exact⟨_,hc'⟩
   ·obtain⟨w2,z2⟩:=I.cell y c' e
    exact⟨w2,z2.sameBut hs hcc⟩
  ·obtain⟨e,n,ne,nf,d⟩:=I.pin p hp
   refine⟨(hs.2 p.1 ?_).trans e,n,ne,nf,d⟩
   intro q
   rw[q,hoc] at e
   have q':oc=p.2:=xD e
   exact d w' (by rw[<- q'];exact hocd)
theorem uF{M:Model}{A:Around}{E:Value->Shared->Prop}(I:Inv X pins σ H s)(hN:X.N.Nodup)(hi:X.N[i]?=some x)(hx:Loc X.env.scope x)(r:RelV v u)
  (h:∀s',Inv X pins (σ.set i (some v)) H s'->Q () s') (hf:X.fn x=true\/X.env.scope.names.lookup x=some .local:=by first|exact .inl rfl|exact .inr rfl|assumption):wpAny M A (storeName X.env x u) Q E s :=
 qj I hN hi hx r (fun s' I' _=>h s' I') hf
theorem Inv.call'{ch:List Addr}(I:Inv X pins σ H s)(ho:s'.os=s.os)(u:Un (Cy X.stack) ch H H' s.heap s'.heap)(hok:nJ X.prog X.w H' s'.heap)(hg:AllBare s'.gens)
  (hch:∀b∈ch,(b∈X.ex\/X.s₀.heap.objs.size<=b)/\b≠X.env.locals/\(∀x c,X.env.cells.lookup x=some c->c≠b)/\∀p∈X.pn++pins,p.1≠b):Inv X pins σ H' s':=by
 obtain⟨h',g',d',t',o'⟩:=s'
 have e:o'=s.os:=ho
 subst e
 exact I.call (g':=g') (t':=t') (d':=d') u hok hg hch
end
abbrev XK:=Value->Option Addr->Hp->Prop
abbrev St:=List (Option V)
abbrev VK:=V->Hp->Prop
abbrev TE:=St->Hp->VK->Prop
abbrev TT:=St->Hp->(Bool->Hp->Prop)->Prop
abbrev TA:=St->Hp->(List V->Hp->Prop)->Prop
structure Ends where
 nx:St->Hp->Prop
 rt:VK
 bk:St->Hp->Prop:=fun _ _=>False
 ct:St->Hp->Prop:=fun _ _=>False
abbrev TS:=Ends->St->Hp->Prop
def EP(X:Cx)(pins:List (Addr×Obj))(σ:St)(Q:VK)(u:Value)(s':Shared):Prop:=∃v H',Inv X pins σ H' s'/\RelV v u/\Q v H'
def TP(X:Cx)(pins:List (Addr×Obj))(σ:St)(Q:Bool->Hp->Prop)(b:Bool)(s':Shared):Prop:=∃H',Inv X pins σ H' s'/\Q b H'
def AP(X:Cx)(pins:List (Addr×Obj))(σ:St)(Q:List V->Hp->Prop)(us:List Value)(s':Shared):Prop:=∃vs H',Inv X pins σ H' s'/\aF vs us/\Q vs H'
def SP(X:Cx)(pins:List (Addr×Obj))(D:Ends)(f:Flow)(s':Shared):Prop :=
 match f with
 | .next=>∃σ' H',Inv X pins σ' H' s'/\D.nx σ' H'
 | .brk=>∃σ' H',Inv X pins σ' H' s'/\D.bk σ' H'
 | .cont=>∃σ' H',Inv X pins σ' H' s'/\D.ct σ' H'
 | .ret u=>∃v σ' H',Inv X pins σ' H' s'/\RelV v u/\D.rt v H'
def PE(X:Cx)(e:Expr)(t:TE):Prop :=
 ∀ (pins:List (Addr×Obj)) (s:Shared) (σ:St) (H:Hp) (Q:VK),Inv X pins σ H s->t σ H Q->wpAny (model X.prog X.w) X.A (eval e X.env) (EP X pins σ Q) X.xe s
def PT(X:Cx)(e:Expr)(t:TT):Prop :=
 ∀ (pins:List (Addr×Obj)) (s:Shared) (σ:St) (H:Hp) (Q:Bool->Hp->Prop),Inv X pins σ H s->t σ H Q->wpAny (model X.prog X.w) X.A (isTrue e X.env (eval e X.env)) (TP X pins σ Q) X.xe s
def PW(X:Cx)(e:Expr)(t:TT):Prop :=
 ∀ (whole:Sem Value) (pins:List (Addr×Obj)) (s:Shared) (σ:St) (H:Hp) (Q:Bool->Hp->Prop),Inv X pins σ H s->t σ H Q->wpAny (model X.prog X.w) X.A (isTrue e X.env whole) (TP X pins σ Q) X.xe s
theorem PW.pt(h:PW X e t):PT X e t:=h _
def PA(X:Cx)(es:List Expr)(t:TA):Prop :=
 ∀ (pos:Pos) (pins:List (Addr×Obj)) (s:Shared) (σ:St) (H:Hp) (Q:List V->Hp->Prop),Inv X pins σ H s->t σ H Q->wpAny (model X.prog X.w) X.A (spliced (backTo pos (starEach es X.env))) (AP X pins σ Q) X.xe s
def PS(X:Cx)(st:Stmt)(t:TS):Prop :=
 ∀ (pins:List (Addr×Obj)) (s:Shared) (σ:St) (H:Hp) (D:Ends),Inv X pins σ H s->t D σ H->wpAny (model X.prog X.w) X.A (exec st X.env) (SP X pins D) X.xe s
def xu(X:Cx)(st:List Stmt)(t:TS):Prop :=
 ∀ (pins:List (Addr×Obj)) (s:Shared) (σ:St) (H:Hp) (D:Ends),Inv X pins σ H s->t D σ H->wpAny (model X.prog X.w) X.A (execs st X.env) (SP X pins D) X.xe s
theorem bW(h:wpAny M A t Q E s)(hQ:∀a s,Q a s->Q' a s):wpAny M A t Q' E s:=xA h hQ fun _ _ x=>x
section
def MJ(i:Nat):TE:=fun σ H Q=>∃v,σ[i]?=some (some v)/\Q v H
def tC(v:V):TE:=fun _ H Q=>Q v H
theorem oF(hN:X.N[i]?=some x)(hv:Hb X.env.scope x)(hd:(x == ("__debug__":Str))=false:=by decide)(hcd:(x == ("__classdict__":Str))=false:=by decide):PE X (.Name x pos) (MJ i):=by
 intro pins s σ H Q I h
 obtain⟨v,e,h⟩:=h
 obtain⟨m,hn,hl⟩:=I.loc
 obtain⟨u,r,l⟩:=hl i x v hN e hv
 have fin:EP X pins σ Q u s:=⟨v,H,I,r,h⟩
 rcases l with ⟨hk,hm⟩|⟨hk,c,hc,hcell⟩
 ·exact wpAny_Name (wpAny_loadName_local I.ok.kind hk hn hm fin) hd
 ·rcases hk with hk|hk
  ·exact wpAny_Name (wpAny_loadName_cell I.ok.kind hk hc hcell fin) hd
  ·exact wpAny_Name (wpAny_loadName_free I.ok.kind hk hc hcell fin hcd) hd
theorem JY{i j pos}:PE X (.Constant (.int i) j pos) (tC (.int i)):=fun _ _ _ H _ I h=>wpAny_Constant_int ⟨.int i,H,I.tok _,⟨_,rfl⟩,h⟩
theorem K4{b j pos}:PE X (.Constant (.bool b) j pos) (tC (.bl b)):=fun _ _ _ H _ I h=>Constant_bool ⟨.bl b,H,I,rfl,h⟩
theorem Jt{j pos}:PE X (.Constant .none j pos) (tC .non):=fun _ _ _ H _ I h=>Constant_none ⟨.non,H,I,rfl,h⟩
theorem Jd{x j pos}:PE X (.Constant (.str x) j pos) (tC (.str x)):=fun _ _ _ H _ I h=>Calls.Constant_str ⟨.str x,H,I.tok _,⟨_,rfl⟩,h⟩
def Gl(X:Cx)(x:Str):Prop:=X.env.kindOf x=some .globalImplicit
theorem AE{E:Value->Shared->Prop}{pos:Pos}(I:Inv X pins σ H s)(hg:Gl X x)(hm:X.mg x=some u)(h:Q u s)
  (hd:(x == ("__debug__":Str))=false:=by decide):wpAny (model X.prog X.w) X.A (eval (.Name x pos) X.env) Q E s :=
 Calls.Name_function_global I.ok.kind hg (Calls.loadGlobal_global (by rw[I.ok.glob];exact I.mod.glob.keeps I.bk) hm h) hd
theorem k7{E:Value->Shared->Prop}{pos:Pos}(I:Inv X pins σ H s)(hg:Gl X x)(hm:X.mg x=none)(hv:bootBuiltins x=some u)(h:Q u s)
  (hn:x≠"__name__":=by decide) (hd:(x == ("__debug__":Str))=false:=by decide):wpAny (model X.prog X.w) X.A (eval (.Name x pos) X.env) Q E s:=by
 obtain⟨mb,h1,h2⟩:=I.mod.blt
 exact Calls.Name_function_global I.ok.kind hg (Calls.loadGlobal_builtin (by rw[I.ok.glob];exact I.mod.glob.keeps I.bk) hm (by rw[I.ok.blt];exact h1.keeps I.bk) ((h2 x hn).trans hv) h) hd
theorem Gg(hg:Gl X x)(hm:X.mg x=some u)(r:RelV v u)(hd:(x == ("__debug__":Str))=false:=by decide):PE X (.Name x pos) (tC v) :=
 fun _ _ _ H _ I h=>AE I hg hm ⟨v,H,I,r,h⟩ hd
theorem FU(hg:Gl X x)(hm:X.mg x=none)(hv:bootBuiltins x=some u)(r:RelV v u)(hn:x≠"__name__":=by decide)(hd:(x == ("__debug__":Str))=false:=by decide):PE X (.Name x pos) (tC v) :=
 fun _ _ _ H _ I h=>k7 I hg hm hv ⟨v,H,I,r,h⟩ hn hd
def tB(t:TE):TT:=fun σ H Q=>t σ H fun x H1=>∃c,x=.bl c/\Q c H1
theorem JI(h:PE X e t)(he:∀whole,isTrue e X.env whole=(do let v <- whole;standAt e.pos;holding [v] (truthy v)):=by intro _;rfl):PT X e (tB t):=by
 intro pins s σ H Q I hw
 refine isTrue_plain (bW (h pins s σ H _ I hw) fun v s1 ⟨x,H1,I1,r1,q1⟩=>?_) (he _)
 obtain⟨d,rfl,q⟩:=q1
 cases r1
 exact xW ⟨H1,I1,q⟩
variable {rest:List Expr}
def LU(t u:TT):TT:=fun σ H Q=>t σ H fun c H1=>if c=true then u σ H1 Q else Q false H1
def M9(t u:TT):TT:=fun σ H Q=>t σ H fun c H1=>if c=true then Q true H1 else u σ H1 Q
def ML(t:TT):TT:=fun σ H Q=>t σ H fun c H1=>Q (!c) H1
theorem Gb(ha:PT X a tA):PW X (.BoolOp .And [a] pos) tA:=by
 intro wh pins s σ H Q I h
 refine isTrue_and (bW (ha pins s σ H Q I h) fun c s1 e=>?_)
 cases c with
 | true=>exact isTrue_and_nil e
 | false=>exact e
theorem IZ(ha:PT X a tA):PW X (.BoolOp .Or [a] pos) tA:=by
 intro wh pins s σ H Q I h
 refine isTrue_or (bW (ha pins s σ H Q I h) fun c s1 e=>?_)
 cases c with
 | false=>exact isTrue_or_nil e
 | true=>exact e
theorem IX(ha:PT X a tA)(hb:PW X (.BoolOp .And (b::rest) pos) tB'):PW X (.BoolOp .And (a::b::rest) pos) (LU tA tB'):=by
 intro wh pins s σ H Q I h
 refine isTrue_and (bW (ha pins s σ H _ I h) fun c s1 ⟨H1,I1,q1⟩=>?_)
 cases c with
 | true=>exact hb wh pins s1 σ H1 Q I1 q1
 | false=>exact⟨H1,I1,q1⟩
theorem K5(ha:PT X a tA)(hb:PW X (.BoolOp .Or (b::rest) pos) tB'):PW X (.BoolOp .Or (a::b::rest) pos) (M9 tA tB'):=by
 intro wh pins s σ H Q I h
 refine isTrue_or (bW (ha pins s σ H _ I h) fun c s1 ⟨H1,I1,q1⟩=>?_)
 cases c with
 | true=>exact⟨H1,I1,q1⟩
 | false=>exact hb wh pins s1 σ H1 Q I1 q1
theorem Iu(ha:PT X a tA):PT X (.UnaryOp .Not a pos) (ML tA):=by
 intro pins s σ H Q I h
 exact isTrue_not (ha pins s σ H (fun c H1=>Q (!c) H1) I h)
def KD(ta tb:TE):TE:=fun σ H Q=>ta σ H fun x H1=>∃c,x=.bl c/\if c=true then tb σ H1 Q else Q (.bl false) H1
def MA(ta tb:TE):TE:=fun σ H Q=>ta σ H fun x H1=>∃c,x=.bl c/\if c=true then Q (.bl true) H1 else tb σ H1 Q
theorem II{op}(h:PE X a t):PE X (.BoolOp op [a] pos) t:=fun pins s σ H Q I hw=>BoolOp_one (h pins s σ H Q I hw)
theorem HL(ha:PE X a ta)(hb:PE X (.BoolOp .And (b::rest) pos) tb):PE X (.BoolOp .And (a::b::rest) pos) (KD ta tb):=by
 intro pins s σ H Q I h
 refine BoolOp_and (bW (ha pins s σ H _ I h) fun v s1 ⟨x,H1,I1,r1,q1⟩=>?_)
 obtain⟨c,rfl,q1⟩:=q1
 cases r1
 refine xW ?_
 cases c with
 | true=>exact hb pins s1 σ H1 Q I1 q1
 | false=>exact⟨.bl false,H1,I1,rfl,q1⟩
theorem DK(ha:PE X a ta)(hb:PE X (.BoolOp .Or (b::rest) pos) tb):PE X (.BoolOp .Or (a::b::rest) pos) (MA ta tb):=by
 intro pins s σ H Q I h
 refine BoolOp_or (bW (ha pins s σ H _ I h) fun v s1 ⟨x,H1,I1,r1,q1⟩=>?_)
 obtain⟨c,rfl,q1⟩:=q1
 cases r1
 refine xW ?_
 cases c with
 | false=>exact hb pins s1 σ H1 Q I1 q1
 | true=>exact⟨.bl true,H1,I1,rfl,q1⟩
def Nq(t:TT)(ta tb:TE):TE:=fun σ H Q=>t σ H fun c H1=>if c=true then ta σ H1 Q else tb σ H1 Q
theorem C8(hc:PT X c tA)(ha:PE X a ta)(hb:PE X b tb):PE X (.IfExp c a b pos) (Nq tA ta tb):=by
 intro pins s σ H Q I h
 refine wpAny_IfExp (bW (hc pins s σ H _ I h) fun d s1 ⟨H1,I1,q1⟩=>?_)
 cases d with
 | true=>exact ha pins s1 σ H1 Q I1 q1
 | false=>exact hb pins s1 σ H1 Q I1 q1
end
def gn(K:W.Frag)(H:Hp)(a:Addr)(xs:List V):Prop :=
 Rd H a (.lst xs) \/
  ∃ (o:Obj) (its:Array Value) (n:Nat),K.lookup a=some o/\o.cls=.type "list"/\o.dict=none/\o.data=.seq its n/\its.size<=sizeLine/\aF xs its.toList
def gK(K:W.Frag)(H:Hp)(a:Addr)(xs:List V):Prop :=
 Rd H a (.tup xs) \/
  ∃ (o:Obj) (its:Array Value) (n:Nat),K.lookup a=some o/\o.cls=.type "tuple"/\o.dict=none/\o.data=.seq its n/\its.size<=sizeLine/\aF xs its.toList
def MS:Value->Option V
 | .none=>some .non
 | .bool b=>some (.bl b)
 | .int i _=>some (.int i)
 | .str x _=>some (.str x)
 | .bytes b _=>some (.byt b)
 | .float b _=>some (.flt b)
 | .ref a=>some (.ref a)
 | .type n=>some (.ty n)
 | _=>none
theorem RelV.abs(r:RelV x u):MS u=some x:=by
 cases x with
 | non=>cases r;rfl
 | bl _=>cases r;rfl
 | int _=>obtain⟨t,rfl⟩:=r;rfl
 | str _=>obtain⟨t,rfl⟩:=r;rfl
 | byt _=>obtain⟨t,rfl⟩:=r;rfl
 | flt _=>obtain⟨t,rfl⟩:=r;rfl
 | ref _=>cases r;rfl
 | ty _=>cases r;rfl
theorem RelV.inj(r:RelV x u)(q:RelV y u):x=y:=xD (r.abs.symm.trans q.abs)
theorem aF.inj:∀ {xs ys:List V}{us:List Value},aF xs us->aF ys us->xs=ys
 | _,_,_,.nil,.nil=>rfl
 | _,_,_,.cons r t,.cons r' t'=>by rw[r.inj r',aF.inj t t']
section
theorem gn.of{K:W.Frag}(h:H a=some (.lst xs)):gn K H a xs:=.inl (.inl h)
theorem Inv.list(I:Inv X pins σ H s)(h:gn X.K H a xs):∃its:List Value,aF xs its/\PlainL s.heap a its.toArray/\xs.length<=sizeLine:=by
 rcases h with h|⟨o,its,n,hk,hc,hd,hs,hz,r⟩
 ·obtain⟨z,its,n,r,e⟩:=h.ok I.hok
  exact⟨its,r,⟨_,n,e,rfl,rfl,rfl⟩,z⟩
 ·refine⟨its.toList,r,⟨o,n,I.kIn a o hk,hc,hd,by simpa using hs⟩,?_⟩
  have e:=r.length
  simp only[wC] at e
  omega
theorem Inv.tuple(I:Inv X pins σ H s)(h:gK X.K H a xs):∃its:List Value,aF xs its/\IsTup s.heap a its.toArray/\xs.length<=sizeLine:=by
 rcases h with h|⟨o,its,n,hk,hc,_,hs,hz,r⟩
 ·obtain⟨z,its,r,p⟩:=h.ok I.hok
  exact⟨its,r,p.1,z⟩
 ·refine⟨its.toList,r,⟨o,I.kIn a o hk,hc,n,by simpa using hs⟩,?_⟩
  have e:=r.length
  simp only[wC] at e
  omega
theorem Inv.list_inj(I:Inv X pins σ H s)(h:gn X.K H a xs)(h':gn X.K H a ys):xs=ys:=by
 obtain⟨its,r,⟨o,n,e,_,_,d⟩,_⟩:=I.list h
 obtain⟨its',r',⟨o',n',e',_,_,d'⟩,_⟩:=I.list h'
 rw[e] at e';cases e'
 rw[d] at d'
 injection d' with d1 _
 have:its=its':=by simpa using jC Array.toList d1
 subst this
 exact r.inj r'
theorem Inv.tuple_inj(I:Inv X pins σ H s)(h:gK X.K H a xs)(h':gK X.K H a ys):xs=ys:=by
 obtain⟨its,r,⟨o,e,_,n,d⟩,_⟩:=I.tuple h
 obtain⟨its',r',⟨o',e',_,n',d'⟩,_⟩:=I.tuple h'
 rw[e] at e';cases e'
 rw[d] at d'
 injection d' with d1 _
 have:its=its':=by simpa using jC Array.toList d1
 subst this
 exact r.inj r'
end
abbrev Cx.wish(X:Cx)(E:Value->Shared->Prop):Cx:={ X with xe:=E }
abbrev Cx.nox(X:Cx):Cx:=X.wish fun _ _=>False
theorem Cx.Ok.wish{X:Cx}(ok:X.Ok)(E:Value->Shared->Prop):(X.wish E).Ok :=
 ⟨ok.mod,ok.kind,ok.glob,ok.blt,ok.above,ok.inj,ok.has,ok.cab,ok.hd,ok.frames,ok.stk,ok.exf,ok.bs,ok.bsz,ok.noex,ok.exfs,ok.funs,ok.frf⟩
theorem Cx.Ok.unwish{X:Cx}{E:Value->Shared->Prop}(ok:(X.wish E).Ok):X.Ok :=
 ⟨ok.mod,ok.kind,ok.glob,ok.blt,ok.above,ok.inj,ok.has,ok.cab,ok.hd,ok.frames,ok.stk,ok.exf,ok.bs,ok.bsz,ok.noex,ok.exfs,ok.funs,ok.frf⟩
section
theorem Inv.wish(I:Inv X pins σ H s)(E:Value->Shared->Prop):Inv (X.wish E) pins σ H s:=⟨I.ok.wish E,I.os,I.bare,I.base,I.loc,I.cell,I.free,I.freeC,I.pin,I.hok,I.len⟩
theorem Inv.unwish(I:Inv (X.wish E) pins σ H s):Inv X pins σ H s:=⟨I.ok.unwish,I.os,I.bare,I.base,I.loc,I.cell,I.free,I.freeC,I.pin,I.hok,I.len⟩
theorem SP.unwish{D:Ends}(h:SP (X.wish E) pins D f s'):SP X pins D f s':=by
 cases f with
 | next=>obtain⟨σ',H',I,q⟩:=h;exact⟨σ',H',I.unwish,q⟩
 | brk=>obtain⟨σ',H',I,q⟩:=h;exact⟨σ',H',I.unwish,q⟩
 | cont=>obtain⟨σ',H',I,q⟩:=h;exact⟨σ',H',I.unwish,q⟩
 | ret u=>obtain⟨v,σ',H',I,r,q⟩:=h;exact⟨v,σ',H',I.unwish,r,q⟩
theorem xu.nox{st:List Stmt}(h:xu X.nox st t):xu X st t:=fun pins s σ H D I hw =>
 xA (h pins s σ H D (I.wish _) hw) (fun _ _ q=>q.unwish) fun _ _ z=>False.elim z
end
section
variable {st:Stmt}{rest:List Stmt}
def CW:TS:=fun D σ H=>D.nx σ H
def L8(t u:TS):TS:=fun D σ H=>t { D with nx:=u D } σ H
theorem Fg:xu X [] CW:=fun _ _ σ H _ I h=>vP ⟨σ,H,I,h⟩
theorem B1(h1:PS X st t)(h2:xu X rest u):xu X (st::rest) (L8 t u):=by
 intro pins s σ H D I h
 refine wpAny_execs_cons (bW (h1 pins s σ H { D with nx:=u D } I h) fun f s1 q=>?_)
 cases f with
 | next =>
  obtain⟨σ',H',I',q⟩:=q
  exact h2 pins s1 σ' H' D I' q
 | ret v=>exact q
 | brk=>exact q
 | cont=>exact q
theorem Ff(h1:PS X st t):xu X [st] t:=by
 intro pins s σ H D I h
 refine wpAny_execs_cons (bW (h1 pins s σ H D I h) fun f s1 q=>?_)
 cases f with
 | next=>exact vP q
 | ret v=>exact q
 | brk=>exact q
 | cont=>exact q
theorem Fm:PS X (.Pass pos) CW:=fun _ _ σ H _ I h=>wpAny_Pass ⟨σ,H,I,h⟩
theorem Inv.quiet(I:Inv X pins σ H s):interactive X.env=false:=by simp[interactive,I.ok.kind]
theorem JP{x j pos pos'}:PS X (.Expr (.Constant (.str x) j pos) pos') CW:=fun _ s σ H _ I h=>wpAny_Expr (Calls.Constant_str (show SP X _ _ .next { s with toks:=s.toks+1 } from ⟨σ,H,I.tok _,h⟩)) I.quiet
def K0(te:TE):TS:=fun D σ H=>te σ H fun _ H1=>D.nx σ H1
theorem nL(he:PE X e te)(hs:swapsWith e none pos.line X.env=pure false:=by rfl):PS X (.Expr e pos) (K0 te):=by
 intro pins s σ H D I h
 exact wpAny_Expr_any (bW (he pins s σ H _ I h) fun v s1 ⟨x,H1,I1,r1,q1⟩=>⟨σ,H1,I1,q1⟩) I.quiet hs
def Mn(te:TE):TS:=fun D σ H=>te σ H D.rt
theorem Iw(he:PE X e te):PS X (.Return (some e) pos) (Mn te):=by
 intro pins s σ H D I h
 exact wpAny_Return_some (bW (he pins s σ H _ I h) fun v s1 ⟨x,H1,I1,r1,q1⟩=>⟨x,σ,H1,I1,r1,q1⟩)
def MM(c:TT)(t u:TS):TS:=fun D σ H=>c σ H fun b H1=>if b=true then t D σ H1 else u D σ H1
theorem Ll(hc:PT X c tc)(ha:xu X a t)(hb:xu X b u):PS X (.If c a b pos) (MM tc t u):=by
 intro pins s σ H D I h
 refine wpAny_If (bW (hc pins s σ H _ I h) fun d s1 ⟨H1,I1,q1⟩=>?_)
 cases d with
 | true=>exact ha pins s1 σ H1 D I1 q1
 | false=>exact hb pins s1 σ H1 D I1 q1
end
abbrev TG:=V->St->Hp->(St->Hp->Prop)->Prop
abbrev Lc:=List V->St->Hp->(St->Hp->Prop)->Prop
def PG(X:Cx)(target:Expr)(t:TG):Prop :=
 ∀ (pins:List (Addr×Obj)) (s:Shared) (σ:St) (H:Hp) (v:V) (u:Value) (Q:St->Hp->Prop),Inv X pins σ H s->RelV v u->t v σ H Q ->
  wpAny (model X.prog X.w) X.A (assign target X.env u) (fun _ s'=>∃σ' H',Inv X pins σ' H' s'/\Q σ' H') X.xe s
def LF(X:Cx)(ts:List Expr)(t:Lc):Prop :=
 ∀ (pins:List (Addr×Obj)) (s:Shared) (σ:St) (H:Hp) (vs:List V) (us:List Value) (Q:St->Hp->Prop),Inv X pins σ H s->aF vs us->t vs σ H Q ->
  wpAny (model X.prog X.w) X.A (assignInOrder ((assignEach ts X.env).map (·.2)) us) (fun _ s'=>∃σ' H',Inv X pins σ' H' s'/\Q σ' H') X.xe s
abbrev Lb:=V->V->V->Hp->(Hp->Prop)->Prop
def Le(X:Cx)(t:Lb):Prop :=
 ∀ (pins:List (Addr×Obj)) (s:Shared) (σ:St) (H:Hp) (o i v:V) (ov iv u:Value) (Q:Hp->Prop),Inv X pins σ H s->RelV o ov->RelV i iv->RelV v u->t o i v H Q ->
  wpAny (model X.prog X.w) X.A (setItem ov iv u) (fun _ s'=>∃H',Inv X pins σ H' s'/\Q H') X.xe s
section
def tm(i:Nat):TG:=fun v σ H Q=>Q (σ.set i (some v)) H
theorem cU(hN:X.N.Nodup)(hi:X.N[i]?=some x)(hx:Loc X.env.scope x)(hf:X.fn x=true\/X.env.scope.names.lookup x=some .local:=by first|exact .inl rfl|exact .inr rfl|assumption):PG X (.Name x pos) (tm i):=by
 intro pins s σ H v u Q I r h
 exact wpAny_assign_Name (uF I hN hi hx r (fun s' I'=>⟨_,H,I',h⟩) hf)
def Md:Lc:=fun vs σ H Q=>vs=[]/\Q σ H
def KP(t:TG)(u:Lc):Lc:=fun vs σ H Q=>∃v r,vs=v::r/\t v σ H fun σ' H'=>u r σ' H' Q
theorem nO:LF X [] Md:=by
 intro pins s σ H vs us Q I r h
 obtain⟨e,h⟩:=h
 subst e
 cases r
 exact assignInOrder_nil ⟨σ,H,I,h⟩
theorem cQ(h1:PG X e t)(h2:LF X es u)
  (hs:(assignEach (e::es) X.env).map (·.2)=assign e X.env::(assignEach es X.env).map (·.2):=by rfl):LF X (e::es) (KP t u):=by
 intro pins s σ H vs us Q I r h
 obtain⟨v,vr,e1,h⟩:=h
 subst e1
 cases r with
 | cons r rr =>
  rw[hs]
  refine assignInOrder_cons (bW (h1 pins s σ H _ _ _ I r h) fun _ s1 ⟨σ1,H1,I1,q1⟩=>?_)
  exact h2 pins s1 σ1 H1 _ _ Q I1 rr q1
def MD(K:W.Frag)(n:Nat)(t:Lc):TG:=fun v σ H Q=>∃a xs,v=.ref a/\gK K H a xs/\xs.length=n/\t xs σ H Q
theorem sD{k:Nat}(hc:X.calm=true)(h:LF X es t)
  (hn:(assignEach es X.env).length=n:=by rfl) (hst:(assignEach es X.env).findIdx? (·.1)=none:=by rfl):PG X (.Tuple es k pos) (MD X.K n t):=by
 intro pins s σ H v u Q I r hw
 obtain⟨a,xs,e1,hq,hl,hw⟩:=hw
 subst e1
 cases r
 obtain⟨its,rv,ht,hz⟩:=I.tuple hq
 refine assign_Tuple_tuple (I.ok.hd hc) ht (by simp[hn,<- hl,rv.length]) hst fun h' hx=>?_
 have I1:Inv X pins σ H { s with heap:=h' }:=I.kept (t':=s.toks) fun b o e=>hx b o (yR (zY e)) e
 exact h pins _ σ H xs _ Q I1 (by simpa using rv) hw
def i4(to ti:TE)(t:Lb):TG:=fun v σ H Q=>to σ H fun o H1=>ti σ H1 fun i H2=>t o i v H2 fun H3=>Q σ H3
theorem HI(ho:PE X o to)(hi:PE X i ti)(hs:Le X t)
  (ha:∀v,assign (.Subscript o i pos) X.env v=(do
   let ov <- holding [v] (eval o X.env)
   let iv <- holding [v,ov] (eval i X.env)
   standAt pos
   holding [v,ov,iv] (setItem ov iv v)
   release [v,ov,iv] []):=by intro _;rfl):PG X (.Subscript o i pos) (i4 to ti t):=by
 intro pins s σ H v u Q I r h
 rw[ha]
 refine zV (xX (bW (ho pins s σ H _ I h) fun ov s1 ⟨x,H1,I1,r1,q1⟩=>?_))
 refine zV (xX (bW (hi pins s1 σ H1 _ I1 q1) fun iv s2 ⟨y,H2,I2,r2,q2⟩=>?_))
 refine zV (vD (zV (xX (bW (hs pins s2 σ H2 x y v ov iv u _ I2 r1 r2 r q2) fun _ s3 ⟨H3,I3,q3⟩=>?_))))
 exact wpAny_release ⟨σ,H3,I3,q3⟩
def Ct(te:TE)(g:TG):TS:=fun D σ H=>te σ H fun x H1=>g x σ H1 D.nx
theorem C7(he:PE X e te)(hg:PG X tg g)(hs:swapsWithSole [tg] e pos.line X.env=pure false:=by rfl)(hw:swappedStores [tg] e X.env=pure none:=by rfl)
  (h1:(assignEach [tg] X.env).map (·.2)=[assign tg X.env]:=by rfl):PS X (.Assign [tg] e pos) (Ct te g):=by
 intro pins s σ H D I h
 refine wpAny_Assign_stores (bW (he pins s σ H _ I h) fun v s1 ⟨x,H1,I1,r1,q1⟩=>?_) hs hw
 rw[h1]
 exact bW (hg pins s1 σ H1 x v _ I1 r1 q1) fun _ s2 q=>q
theorem Ew(hN:X.N.Nodup)(hi:X.N[i]?=some x)(hx:Loc X.env.scope x)(he:PE X e te)(hs:swapsWith e (some (.Name x pos')) pos.line X.env=pure false:=by rfl)(hf:X.fn x=true\/X.env.scope.names.lookup x=some .local:=by first|exact .inl rfl|exact .inr rfl|assumption) :
  PS X (.Assign [.Name x pos'] e pos) (Ct te (tm i)):=by
 intro pins s σ H D I h
 refine wpAny_Assign_Name (bW (he pins s σ H _ I h) fun v s1 ⟨y,H1,I1,r1,q1⟩=>?_) hs
 exact uF I1 hN hi hx r1 (fun s2 I2=>⟨_,H1,I2,q1⟩) hf
end
section
def ID(c:TT)(tb:TS):TS:=fun D σ H=>∃W:Nat->St->Hp->Prop,(∃m,W m σ H)/\∀m σ H,W m σ H ->
 c σ H fun b H1=>if b=true then ∃N:St->Hp->Prop,(∀σ' H',N σ' H'->∃m',m' < m/\W m' σ' H')/\tb { D with nx:=N,ct:=N,bk:=D.nx } σ H1 else D.nx σ H1
theorem Em(hp:PassesOwn (model X.prog X.w) X.A X.env X.xe)(hc:PT X c tc)(hb:xu X body tb):PS X (.While c body [] pos) (ID tc tb):=by
 intro pins s σ H D I h
 obtain⟨W,⟨m0,w0⟩,turn⟩:=h
 refine wpAny_While (codeAny_whileLoop (fun n s'=>∃σ' H',Inv X pins σ' H' s'/\W n σ' H') ?_ m0 ⟨σ,H,I,w0⟩)
 rintro n s1 ⟨σ1,H1,I1,w1⟩
 refine jJ hp (bW (hc pins s1 σ1 H1 _ I1 (turn n σ1 H1 w1)) fun b s2 ⟨H2,I2,q2⟩=>?_)
 cases b with
 | true =>
  obtain⟨N,hN,q2⟩:=q2
  rw[yL rfl]
  refine jJ hp (bW (hb pins s2 σ1 H2 _ I2 q2) fun f s3 q3=>?_)
  cases f with
  | next =>
   obtain⟨σ3,H3,I3,n3⟩:=q3
   obtain⟨m',hm,w3⟩:=hN σ3 H3 n3
   exact⟨m',hm,σ3,H3,I3,w3⟩
  | cont =>
   obtain⟨σ3,H3,I3,n3⟩:=q3
   obtain⟨m',hm,w3⟩:=hN σ3 H3 n3
   exact⟨m',hm,σ3,H3,I3,w3⟩
  | brk=>exact q3
  | ret v=>exact q3
 | false =>
  rw[yN yZ]
  exact vP ⟨σ1,H2,I2,q2⟩
end
structure It where
 go:Nat->Hp->Prop
 yld:Nat->Hp->V->Hp->Prop
 stop:Nat->Hp->Prop
def cx(X:Cx)(pins:List (Addr×Obj))(H:Hp)(b:Addr):Prop :=
 H b=none/\b≠X.env.locals/\b∉X.fs/\(b∈X.ex\/X.s₀.heap.objs.size<=b)/\(∀x c,X.env.cells.lookup x=some c->c≠b)/\∀p∈X.pn++pins,p.1≠b
theorem Inv.fpOk(I:Inv X pins σ H s)(hb:s.heap.objs.size<=b)(hn:H' b=none):cx X pins H' b:=by
 refine⟨hn,jI (zP I.lt hb),I.nofs hb,.inr (yD I.sz hb),fun x c e z=>?_,fun p hp z=>?_⟩
 ·obtain⟨v,q⟩:=I.cell x c e
  exact absurd (zP q.lt (by rw[z];exact hb)) (qE _)
 ·exact absurd (zP (zY (I.pin p hp).1) (by rw[z];exact hb)) (qE _)
structure Turn(P:Program)(w:World)(K:W.Frag)(tg:Expr)(J:It)(fp:List Addr)(it:Addr)(tn:Nat->Heap->Prop):Prop where
 mem:it∈fp
 obj:∀i h,tn i h->∀b∈fp,∃o,h.get? b=some o/\∀v,o.data≠.cell v
 keep:∀i h h',tn i h->(∀b∈fp,∀o,h.get? b=some o->h'.get? b=some o)->tn i h'
 item:∀ (X:Cx),X.prog=P->X.w=w->X.K=K->X.calm=true->∀ (i:Nat) (pins:List (Addr×Obj)) (s:Shared) (σ:St) (H:Hp) (E:Value->Shared->Prop),Inv X pins σ H s->(∀b∈fp,cx X pins H b)->tn i s.heap->J.go i H ->
  wpAny (model P w) X.A (pyNext (.ref it)) (fun r s1=>∃u,r=some u /\
   wpAny (model P w) X.A (letOwnedTupleGo tg (.ref it) u) (fun _ s2=>∃x H',Inv X pins σ H' s2/\RelV x u/\J.yld i H x H'/\tn (i+1) s2.heap/\∀b∈fp,H' b=none) E s1) E s
 done:∀ (X:Cx),X.prog=P->X.w=w->X.K=K->X.calm=true->∀ (i:Nat) (pins:List (Addr×Obj)) (s:Shared) (σ:St) (H:Hp) (E:Value->Shared->Prop),Inv X pins σ H s->(∀b∈fp,cx X pins H b)->tn i s.heap->J.stop i H ->
  wpAny (model P w) X.A (pyNext (.ref it)) (fun r s1=>r=none/\Inv X pins σ H s1) E s
 self:∀ (A:Around) (i:Nat) (s:Shared) (Q:Value->Shared->Prop) (E:Value->Shared->Prop),tn i s.heap->Q (.ref it) s->wpAny (model P w) A (pyIter (.ref it)) Q E s
abbrev TI:=St->Hp->(It->Hp->Prop)->Prop
def MV(X:Cx)(pins:List (Addr×Obj))(σ:St)(tg:Expr)(R:It->Hp->Prop)(itv:Value)(s2:Shared):Prop :=
 ∃ (it:Addr) (fp:List Addr) (tn:Nat->Heap->Prop) (J:It) (H':Hp),itv=.ref it/\Inv X pins σ H' s2/\Turn X.prog X.w X.K tg J fp it tn/\tn 0 s2.heap/\(∀b∈fp,cx X pins H' b)/\R J H'
def PI(X:Cx)(tg iter:Expr)(wi:TI):Prop :=
 ∀ (pins:List (Addr×Obj)) (s:Shared) (σ:St) (H:Hp) (R:It->Hp->Prop),Inv X pins σ H s->wi σ H R ->
  wpAny (model X.prog X.w) X.A (eval iter X.env) (fun v s1=>wpAny (model X.prog X.w) X.A (pyIter v) (MV X pins σ tg R) X.xe s1) X.xe s
theorem B9(ho:s.heap.get? it=some o)(hc:o.cls=.type n)(hd:o.data=.fields vs)
  (hn:["enumerate","zip","dict_itemiterator","dict_reverseitemiterator","odict_iterator","itertools.zip_longest","itertools.pairwise"].contains n=false) (hQ:Q () s):wpAny M A (letOwnedTupleGo tg (.ref it) u) Q E s:=by
 unfold letOwnedTupleGo
 cases tg<;>first
  | exact zW hQ
  | (cases u<;>first
    | exact zW hQ
    | (refine zV (wpAny_load ho ?_)
       rw[hc,hd]
       show wpAny M A (if (["enumerate","zip","dict_itemiterator","dict_reverseitemiterator","odict_iterator","itertools.zip_longest","itertools.pairwise"].contains n&&vs[0]? == some (rawInt _))=true then _ else _) Q E s
       rw[yN (by intro h;rw[hn,vY] at h;cases h)]
       exact zW hQ))
def L5(K:W.Frag)(a:Addr):It :=
 ⟨fun i H=>∃xs x,gn K H a xs/\xs[i]?=some x,fun i H x H'=>H'=H/\∀xs,gn K H a xs->xs[i]?=some x,fun i H=>∃xs,gn K H a xs/\xs.length<=i⟩
def Mx(K:W.Frag)(a:Addr):It :=
 ⟨fun i H=>∃xs x,gK K H a xs/\xs[i]?=some x,fun i H x H'=>H'=H/\∀xs,gK K H a xs->xs[i]?=some x,fun i H=>∃xs,gK K H a xs/\xs.length<=i⟩
def LI(lo:Int)(n:Nat):It:=⟨fun i _=>i < n,fun i H x H'=>H'=H/\x=.int (lo+i),fun i _=>n<=i⟩
theorem Bm{K:W.Frag}(a it:Addr):Turn P w K tg (L5 K a) [it] it (fun i h=>h.IsListIter it a i) where
 mem:=by simp
 obj:=fun i h st b hb=>by
  have e:b=it:=by simpa using hb
  subst e
  obtain⟨o,e,c,d⟩:=st
  exact⟨o,e,fun v z=>by rw[d] at z;cases z⟩
 keep:=fun i h h' st k=>st.at fun o e=>k it (by simp) o e
 item:=by
  intro X hP hw hK hc i pins s σ H E I hf st hg
  subst hP hw hK
  obtain⟨xs,x,hq,hx⟩:=hg
  obtain⟨its,rv,p,hz⟩:=I.list hq
  obtain⟨u,hu,ru⟩:=rv.get hx
  obtain⟨f0,f1,f2,f3,f4,f5⟩:=hf it (by simp)
  refine wpAny_pyNext_list_item st p.isList (x:=u) (by simpa using hu) fun h' st' sb=>?_
  have I1:Inv X pins σ H { s with heap:=h' }:=I.turned (t':=s.toks) (fun b o hb e=>(sb.2 b hb).trans e) f0 f1 f3 f4 f5
  obtain⟨o,e,c,d⟩:=id st'
  exact⟨u,rfl,B9 (s:={ s with heap:=h' }) e c d (by decide) ⟨x,H,I1,ru,⟨rfl,fun ys hy=>by rw[I.list_inj hy hq];exact hx⟩,st',fun b hb=>(hf b hb).1⟩⟩
 done:=by
  intro X hP hw hK hc i pins s σ H E I hf st hg
  subst hP hw hK
  obtain⟨xs,hq,hx⟩:=hg
  obtain⟨its,rv,p,hz⟩:=I.list hq
  obtain⟨f0,f1,f2,f3,f4,f5⟩:=hf it (by simp)
  have hl:=rv.length
  exact wpAny_pyNext_list_end (I.ok.hd hc) st p.isList (by simp;omega) fun h' eb=>⟨rfl,I.turned (t':=s.toks) (fun b o hb e=>eb b o hb e) f0 f1 f3 f4 f5⟩
 self:=fun _ _ _ _ _ st h=>wpAny_pyIter_listiter st h
theorem xt{K:W.Frag}(a it:Addr):Turn P w K tg (Mx K a) [it] it (fun i h=>h.IsTupleIter it a i) where
 mem:=by simp
 obj:=fun i h st b hb=>by
  have e:b=it:=by simpa using hb
  subst e
  obtain⟨o,e,c,d⟩:=st
  exact⟨o,e,fun v z=>by rw[d] at z;cases z⟩
 keep:=fun i h h' st k=>st.at fun o e=>k it (by simp) o e
 item:=by
  intro X hP hw hK hc i pins s σ H E I hf st hg
  subst hP hw hK
  obtain⟨xs,x,hq,hx⟩:=hg
  obtain⟨its,rv,p,hz⟩:=I.tuple hq
  obtain⟨u,hu,ru⟩:=rv.get hx
  obtain⟨f0,f1,f2,f3,f4,f5⟩:=hf it (by simp)
  refine wpAny_pyNext_tuple_item st (show s.heap.IsTuple a its.toArray from p) (x:=u) (by simpa using hu) fun h' st' sb=>?_
  have I1:Inv X pins σ H { s with heap:=h' }:=I.turned (t':=s.toks) (fun b o hb e=>(sb.2 b hb).trans e) f0 f1 f3 f4 f5
  obtain⟨o,e,c,d⟩:=id st'
  exact⟨u,rfl,B9 (s:={ s with heap:=h' }) e c d (by decide) ⟨x,H,I1,ru,⟨rfl,fun ys hy=>by rw[I.tuple_inj hy hq];exact hx⟩,st',fun b hb=>(hf b hb).1⟩⟩
 done:=by
  intro X hP hw hK hc i pins s σ H E I hf st hg
  subst hP hw hK
  obtain⟨xs,hq,hx⟩:=hg
  obtain⟨its,rv,p,hz⟩:=I.tuple hq
  obtain⟨f0,f1,f2,f3,f4,f5⟩:=hf it (by simp)
  have hl:=rv.length
  exact wpAny_pyNext_tuple_end (I.ok.hd hc) st (show s.heap.IsTuple a its.toArray from p) (by simp;omega) fun h' eb=>⟨rfl,I.turned (t':=s.toks) (fun b o hb e=>eb b o hb e) f0 f1 f3 f4 f5⟩
 self:=fun _ _ _ _ _ st h=>wpAny_pyIter_tupleiter st h
theorem wb{K:W.Frag}(it:Addr)(lo:Int)(n:Nat):Turn P w K tg (LI lo n) [it] it (fun i h=>IsRangeIter h it (lo+(i:Nat) * 1) ((n:Int) - (i:Nat)) 1) where
 mem:=by simp
 obj:=fun i h st b hb=>by
  have e:b=it:=by simpa using hb
  subst e
  exact⟨_,st,fun v z=>by
   have z':Data.fields _=Data.cell v:=z
   cases z'⟩
 keep:=fun i h h' st k=>k it (by simp) _ st
 item:=by
  intro X hP hw hK hc i pins s σ H E I hf st hg
  subst hP hw hK
  obtain⟨f0,f1,f2,f3,f4,f5⟩:=hf it (by simp)
  have W:=Walks.range (prog:=X.prog) (w:=X.w) (I.ok.hd hc) it lo 1 n
  refine W.item i s _ _ hg st fun v h' tk hv st' kk=>?_
  obtain⟨t,rfl⟩:=hv
  have I1:Inv X pins σ H { s with heap:=h',toks:=tk }:=I.turned (fun b o hb e=>kk b o (by simpa using hb) e) f0 f1 f3 f4 f5
  refine⟨_,rfl,B9 (s:={ s with heap:=h',toks:=tk }) (n:="range_iterator") st' rfl rfl (by decide) ⟨.int (lo+i),H,I1,⟨t,?_⟩,⟨rfl,rfl⟩,st',fun b hb=>(hf b hb).1⟩⟩
  rw[Int.mul_one]
 done:=by
  intro X hP hw hK hc i pins s σ H E I hf st hg
  subst hP hw hK
  obtain⟨f0,f1,f2,f3,f4,f5⟩:=hf it (by simp)
  exact wpAny_pyNext_range_end (I.ok.hd hc) st (by have:n<=i:=hg;omega) fun h' eb=>⟨rfl,I.turned (t':=s.toks) (fun b o hb e=>eb b o hb e) f0 f1 f3 f4 f5⟩
 self:=fun _ _ _ _ _ st h=>wpAny_pyIter_rangeiter st h
section
theorem B2{lo:Int}{t u v:Tok}{tk:Nat}(I:Inv X pins σ H s)(h1:-(2 ^ 62)<=lo)(h2:lo < 2 ^ 62)(h3:-(2 ^ 62)<=hi)(h4:hi < 2 ^ 62)
  (q:R (LI lo (hi - lo).toNat) H):wpAny (model X.prog X.w) X.A (pyIter (.ref s.heap.objs.size)) (MV X pins σ tg R) E { s with heap:=s.heap.push { cls:=.type "range",data:=.fields #[.int lo t,.int hi u,.int 1 v] },toks:=tk }:=by
 refine wpAny_pyIter_range (IsRange.new ..) (small_one h1 h2 h3 h4) ?_
 have I1:Inv X pins σ H { s with heap:=s.heap.push { cls:=.type "range",data:=.fields #[.int lo t,.int hi u,.int 1 v] },toks:=tk }:=I.kept fun b o e=>zU _ e
 refine⟨(s.heap.push { cls:=.type "range",data:=.fields #[.int lo t,.int hi u,.int 1 v] }).objs.size,[(s.heap.push { cls:=.type "range",data:=.fields #[.int lo t,.int hi u,.int 1 v] }).objs.size],_,_,H,rfl,
  I1.kept (t':=tk) fun b o e=>zU _ e,wb _ lo (hi - lo).toNat,?_,fun b hb=>?_,q⟩
 ·have e1:lo+((0:Nat):Int) * 1=lo:=by simp
  have e2:(((hi - lo).toNat:Nat):Int) - ((0:Nat):Int)=Builtin.Range.rangeSize lo hi 1:=by rw[rangeSize_one];split<;>omega
  show IsRangeIter _ _ (lo+((0:Nat):Int) * 1) ((((hi - lo).toNat:Nat):Int) - ((0:Nat):Int)) 1
  rw[e1,e2]
  exact zX _ rfl
 ·have e:b=(s.heap.push { cls:=.type "range",data:=.fields #[.int lo t,.int hi u,.int 1 v] }).objs.size:=by simpa using hb
  subst e
  exact I1.fpOk (yM _) (I1.hok.fresh (yM _))
def Kr(ta:TA):TI:=fun σ H R=>ta σ H fun vs H1=>∃j:Int,vs=[.int j]/\-(2 ^ 62)<=j/\j < 2 ^ 62/\R (LI 0 j.toNat) H1
theorem BK(hg:Gl X "range")(hm:X.mg "range"=none)(ha:PA X [a] ta)(hs:starEach [a] X.env=[(false,eval a X.env)]:=by rfl):PI X tg (.Call (.Name "range" p) [a] [] pos) (Kr ta):=by
 intro pins s σ H R I h
 refine Call_ (k7 I hg hm boot_range (qS (bW (ha pos pins s σ H _ I h) fun us s1 ⟨vs,H1,I1,r1,q1⟩=>?_) hs rfl))
 obtain⟨j,e,q1,q2,q⟩:=q1
 subst e
 cases r1 with
 | cons r rr =>
  cases rr
  obtain⟨t,rfl⟩:=r
  exact call_range_1 (B2 I1 (by omega) (by omega) q1 q2 (by simpa using q))
def MG(wi:TI)(g:TG)(tb:TS):TS:=fun D σ H=>wi σ H fun J H1=>∃W:Nat->Nat->St->Hp->Prop,(∃m,W 0 m σ H1)/\∀i m σ H,W i m σ H ->
 (J.stop i H/\D.nx σ H)\/(J.go i H/\∃N:St->Hp->Prop,(∀σ' H',N σ' H'->∃m',m' < m/\W (i+1) m' σ' H')/\∀x H',J.yld i H x H'->g x σ H' fun σ2 H2=>tb { D with nx:=N,ct:=N,bk:=D.nx } σ2 H2)
def mO(fp:List Addr)(h:Heap):List (Addr×Obj):=fp.filterMap fun b=>(h.get? b).map fun o=>(b,o)
theorem dD(hb:b∈fp)(e:h.get? b=some o):(b,o)∈mO fp h:=List.mem_filterMap.mpr ⟨b,hb,by rw[e];rfl⟩
theorem Ba(hp:p∈mO fp h):p.1∈fp/\h.get? p.1=some p.2:=by
 obtain⟨b,hb,e⟩:=List.mem_filterMap.mp hp
 cases q:h.get? b with
 | none=>rw[q] at e;cases e
 | some o =>
  rw[q] at e
  have e':(b,o)=p:=xD e
  subst e'
  exact⟨hb,q⟩
theorem Inv.pinned(I:Inv X pins σ H s)(hf:∀b∈fp,cx X pins H b)(ho:∀b∈fp,∃o,s.heap.get? b=some o/\∀v,o.data≠.cell v):Inv X (pins++mO fp s.heap) σ H s :=
 I.pins_of fun p hp=>(List.mem_append.mp hp).elim (fun z=>I.pin p (yE _ z)) fun z=>by
  obtain⟨hb,e⟩:=Ba z
  obtain⟨f0,f1,f2,_⟩:=hf p.1 hb
  obtain⟨o,e',d⟩:=ho p.1 hb
  rw[e] at e';cases e'
  exact⟨e,f0,f1,f2,d⟩
theorem Inv.unpinned(I:Inv X (pins++pl) σ H s):Inv X pins σ H s:=I.pins_of fun p hp=>I.pin p (yE _ (qJ _ hp))
theorem Jh{pos:Pos}(hp:PassesOwn (model X.prog X.w) X.A X.env X.xe)(hc:X.calm=true)(hi:PI X tg iter wi)(hg:PG X tg g)(hb:xu X body tb)
  (hs:∀x,foldedSetIterable iter X.env x=pure x:=by intro _;rfl):PS X (.For tg iter body [] pos) (MG wi g tb):=by
 intro pins s σ H D I h
 refine wpAny_For (bW (hi pins s σ H _ I h) fun v s1 h1=>bW h1 fun itv s2 h2=>?_) hs
 obtain⟨it,fp,tn,J,H2,e,I2,T,st2,f2,W,⟨m0,w0⟩,turn⟩:=h2
 subst e
 have stat:∀ {H':Hp},(∀b∈fp,H' b=none)->∀b∈fp,cx X pins H' b:=fun hn b hb=>⟨hn b hb,(f2 b hb).2⟩
 refine codeAny_forLoop_any (fun n s'=>∃i σ' H',Inv X pins σ' H' s'/\tn i s'.heap/\(∀b∈fp,H' b=none)/\W i n σ' H') ?_ m0 ⟨0,σ,H2,I2,st2,fun b hb=>(f2 b hb).1,w0⟩
 rintro n s3 ⟨i,σ3,H3,I3,st3,fr3,w3⟩
 rcases turn i n σ3 H3 w3 with ⟨stop,qn⟩|⟨go,N,hN,step⟩
 ·refine jJ hp (bW (T.done X rfl rfl rfl hc i pins s3 σ3 H3 X.xe I3 (stat fr3) st3 stop) fun r s4 ⟨hr,I4⟩=>?_)
  subst hr
  exact vP ⟨σ3,H3,I4,qn⟩
 ·refine jJ hp (bW (T.item X rfl rfl rfl hc i pins s3 σ3 H3 X.xe I3 (stat fr3) st3 go) fun r s4 ⟨u,hr,h4⟩=>?_)
  subst hr
  refine jJ hp (bW h4 fun _ s5 ⟨x,H5,I5,r5,y5,st5,fr5⟩=>?_)
  have I5':=I5.pinned (stat fr5) (T.obj _ _ st5)
  refine jJ hp (bW (hg _ s5 σ3 H5 x u _ I5' r5 (step x H5 y5)) fun _ s6 ⟨σ6,H6,I6,q6⟩=>?_)
  refine jJ hp (bW (hb _ s6 σ6 H6 _ I6 q6) fun f s7 q7=>?_)
  have again:∀ {σ7:St}{H7:Hp},Inv X (pins++mO fp s5.heap) σ7 H7 s7->N σ7 H7->∃m,m < n/\∃i σ' H',Inv X pins σ' H' s7/\tn i s7.heap/\(∀b∈fp,H' b=none)/\W i m σ' H':=fun {σ7 H7} I7 n7=>by
   obtain⟨m',hm,w7⟩:=hN σ7 H7 n7
   refine⟨m',hm,i+1,σ7,H7,I7.unpinned,T.keep _ _ _ st5 fun b hb o e=>(I7.pin (b,o) (yE _ (yE _ (dD hb e)))).1,fun b hb=>?_,w7⟩
   obtain⟨o,e,d⟩:=T.obj _ _ st5 b hb
   exact (I7.pin (b,o) (yE _ (yE _ (dD hb e)))).2.1
  cases f with
  | next=>obtain⟨σ7,H7,I7,n7⟩:=q7;exact again I7 n7
  | cont=>obtain⟨σ7,H7,I7,n7⟩:=q7;exact again I7 n7
  | brk=>obtain⟨σ7,H7,I7,q7⟩:=q7;exact⟨σ7,H7,I7.unpinned,q7⟩
  | ret v=>obtain⟨x7,σ7,H7,I7,r7,q7⟩:=q7;exact⟨x7,σ7,H7,I7.unpinned,r7,q7⟩
end
abbrev R2:=V->V->Hp->VK->Prop
def gz(X:Cx)(f:Value->Value->Sem Value)(r:R2):Prop :=
 ∀ (pins:List (Addr×Obj)) (s:Shared) (σ:St) (H:Hp) (x y:V) (v u:Value) (Q:VK),Inv X pins σ H s->RelV x v->RelV y u->r x y H Q ->
  wpAny (model X.prog X.w) X.A (f v u) (EP X pins σ Q) X.xe s
def MQ(X:Cx)(f:Value->Sem Value)(r:V->Hp->VK->Prop):Prop :=
 ∀ (pins:List (Addr×Obj)) (s:Shared) (σ:St) (H:Hp) (x:V) (v:Value) (Q:VK),Inv X pins σ H s->RelV x v->r x H Q ->
  wpAny (model X.prog X.w) X.A (f v) (EP X pins σ Q) X.xe s
def du(X:Cx)(f:Value)(r:List V->Hp->VK->Prop):Prop :=
 ∀ (pins:List (Addr×Obj)) (s:Shared) (σ:St) (H:Hp) (xs:List V) (us:List Value) (Q:VK),Inv X pins σ H s->aF xs us->r xs H Q ->
  wpAny (model X.prog X.w) X.A (call f us) (EP X pins σ Q) X.xe s
def Ky(r:R2)(ta tb:TE):TE:=fun σ H Q=>ta σ H fun x H1=>tb σ H1 fun y H2=>r x y H2 Q
def Ny(r:V->Hp->VK->Prop)(ta:TE):TE:=fun σ H Q=>ta σ H fun x H1=>r x H1 Q
def rI(C:Int->Int->Prop)(g:Int->Int->V):R2:=fun x y H Q=>∃i j,x=.int i/\y=.int j/\C i j/\Q (g i j) H
def E9(g:Int->Int->V):R2:=fun x y H Q=>∃i j,x=.int i/\y=.int j/\Q (g i j) H
def rU(g:Int->V):V->Hp->VK->Prop:=fun x H Q=>∃i,x=.int i/\Q (g i) H
section
theorem JR(ha:PE X a ta)(hb:PE X b tb){pins:List (Addr×Obj)}{σ:St}{R:V->V->Hp->Prop}(I:Inv X pins σ H s)
  (h:ta σ H fun x H1=>tb σ H1 fun y H2=>R x y H2) {Q:Value->Shared->Prop}{f:Value->Value->Sem Value}
  (hf:∀v u s2 x y H2,Inv X pins σ H2 s2->RelV x v->RelV y u->R x y H2->wpAny (model X.prog X.w) X.A (f v u) Q X.xe s2) :
  wpAny (model X.prog X.w) X.A (eval a X.env) (fun v s₁=>wpAny (model X.prog X.w) X.A (eval b X.env) (fun u s₂=>wpAny (model X.prog X.w) X.A (f v u) Q X.xe s₂) X.xe s₁) X.xe s:=by
 refine bW (ha pins s σ H _ I h) fun v s1 ⟨x,H1,I1,r1,q1⟩=>?_
 refine bW (hb pins s1 σ H1 _ I1 q1) fun u s2 ⟨y,H2,I2,r2,q2⟩=>?_
 exact hf v u s2 x y H2 I2 r1 r2 q2
theorem G6(ho:gz X (binaryOp op) r)(ha:PE X a ta)(hb:PE X b tb):PE X (.BinOp a op b pos) (Ky r ta tb):=by
 intro pins s σ H Q I h
 exact wpAny_BinOp (JR ha hb I h fun v u s2 x y H2 I2 rx ry q=>ho pins s2 σ H2 x y v u Q I2 rx ry q)
theorem Lh(ho:MQ X (unaryOp op) r)(ha:PE X a ta):PE X (.UnaryOp op a pos) (Ny r ta):=by
 intro pins s σ H Q I h
 exact UnaryOp_ (bW (ha pins s σ H _ I h) fun v s1 ⟨x,H1,I1,r1,q1⟩=>ho pins s1 σ H1 x v Q I1 r1 q1)
theorem My{f:Value->Value->Sem Value}{C:Int->Int->Prop}{g:Int->Int->Int}
  (rule:∀ (i j:Int) (t u:Tok) (s:Shared) (Q:Value->Shared->Prop) (E:Value->Shared->Prop),C i j->Q (.int (g i j) s.toks) { s with toks:=s.toks+1 }->wpAny (model X.prog X.w) X.A (f (.int i t) (.int j u)) Q E s) :
  gz X f (rI C fun i j=>.int (g i j)):=by
 intro pins s σ H x y v u Q I rx ry h
 obtain⟨i,j,rfl,rfl,hc,q⟩:=h
 obtain⟨t,rfl⟩:=rx
 obtain⟨t',rfl⟩:=ry
 exact rule i j t t' s _ _ hc ⟨.int (g i j),H,I.tok _,⟨_,rfl⟩,q⟩
theorem KR{f:Value->Value->Sem Value}{g:Int->Int->Int}
  (rule:∀ (i j:Int) (t u:Tok) (s:Shared) (Q:Value->Shared->Prop) (E:Value->Shared->Prop),Q (.int (g i j) s.toks) { s with toks:=s.toks+1 }->wpAny (model X.prog X.w) X.A (f (.int i t) (.int j u)) Q E s) :
  gz X f (E9 fun i j=>.int (g i j)):=by
 intro pins s σ H x y v u Q I rx ry h
 obtain⟨i,j,rfl,rfl,q⟩:=h
 obtain⟨t,rfl⟩:=rx
 obtain⟨t',rfl⟩:=ry
 exact rule i j t t' s _ _ ⟨.int (g i j),H,I.tok _,⟨_,rfl⟩,q⟩
theorem J8{f:Value->Value->Sem Value}{g:Int->Int->Bool}
  (rule:∀ (i j:Int) (t u:Tok) (s:Shared) (Q:Value->Shared->Prop) (E:Value->Shared->Prop),Q (.bool (g i j)) s->wpAny (model X.prog X.w) X.A (f (.int i t) (.int j u)) Q E s) :
  gz X f (E9 fun i j=>.bl (g i j)):=by
 intro pins s σ H x y v u Q I rx ry h
 obtain⟨i,j,rfl,rfl,q⟩:=h
 obtain⟨t,rfl⟩:=rx
 obtain⟨t',rfl⟩:=ry
 exact rule i j t t' s _ _ ⟨.bl (g i j),H,I,rfl,q⟩
def Fp(i j:Int):Prop:=0 < j/\j < 1073741824
def su(i j:Int):Prop:=(-(2 ^ 64) < i/\i < 2 ^ 64)\/(-(2 ^ 64) < j/\j < 2 ^ 64)
theorem su.ok(h:su i j):IntMulOk i j:=by
 rcases h with ⟨h1,h2⟩|⟨h1,h2⟩
 ·exact .of_left (intBits_le_64 h1 h2)
 ·exact .of_right (intBits_le_64 h1 h2)
theorem Jg:gz X (binaryOp .Add) (E9 fun i j=>.int (i+j)):=KR fun _ _ _ _ _ _ _ q=>add_int q
theorem HW:gz X (binaryOp .Sub) (E9 fun i j=>.int (i - j)):=KR fun _ _ _ _ _ _ _ q=>sub_int q
theorem HP:gz X (binaryOp .Mult) (rI su fun i j=>.int (i * j)):=My fun _ _ _ _ _ _ _ hc q=>mul_int q hc.ok
theorem GO:gz X (binaryOp .FloorDiv) (rI Fp fun i j=>.int (i / j)):=My fun i j _ _ _ _ _ hc q=>by
 have h1:(0:Int) < j:=hc.1
 have h2:j < 1073741824:=hc.2
 exact floordiv_int (by omega) (by rw[Int.fdiv_eq_ediv_of_nonneg i (by omega)];exact q) (.inl (PyProof.noPylong_small (by omega)))
theorem Ih:gz X (binaryOp .Mod) (rI (fun _ j=>0 < j) fun i j=>.int (i % j)):=My fun i j _ _ _ _ _ hc q=>by
 have h1:(0:Int) < j:=hc
 exact mod_int' (by omega) (by rw[Int.fmod_eq_emod_of_nonneg i (by omega)];exact q)
theorem M7{f:Value->Sem Value}{g:Int->Int}
  (rule:∀ (i:Int) (t:Tok) (s:Shared) (Q:Value->Shared->Prop) (E:Value->Shared->Prop),Q (.int (g i) s.toks) { s with toks:=s.toks+1 }->wpAny (model X.prog X.w) X.A (f (.int i t)) Q E s) :
  MQ X f (rU fun i=>.int (g i)):=by
 intro pins s σ H x v Q I rx h
 obtain⟨i,rfl,q⟩:=h
 obtain⟨t,rfl⟩:=rx
 exact rule i t s _ _ ⟨.int (g i),H,I.tok _,⟨_,rfl⟩,q⟩
theorem IL:MQ X (unaryOp .USub) (rU fun i=>.int (-i)):=M7 fun _ _ _ _ _ q=>neg_int q
end
section
theorem CK(I:Inv X pins σ H s)(q:Q (.bl k) H)(e:k=k'):EP X pins σ Q (.bool k') s:=by
 subst e
 exact⟨.bl k,H,I,rfl,q⟩
theorem Ef:gz X (compareOp .Lt) (E9 fun i j=>.bl (decide (i < j))):=J8 fun _ _ _ _ _ _ _ q=>lt_int q
theorem BX:gz X (compareOp .LtE) (E9 fun i j=>.bl (decide (i<=j))):=J8 fun _ _ _ _ _ _ _ q=>le_int q
theorem Hl:gz X (compareOp .Gt) (E9 fun i j=>.bl (decide (j < i))):=J8 fun _ _ _ _ _ _ _ q=>gt_int q
theorem BV:gz X (compareOp .Is) (fun x y H Q=>y=.non/\Q (.bl (decide (x=.non))) H):=by
 intro pins s σ H x y v u Q I rx ry h
 obtain⟨rfl,q⟩:=h
 cases ry
 refine is_none_gen (CK I q ?_)
 cases x<;>first
  | (cases rx;rfl)
  | (obtain⟨t,rfl⟩:=rx;rfl)
theorem zd:gz X (compareOp .IsNot) (fun x y H Q=>y=.non/\Q (.bl (!decide (x=.non))) H):=by
 intro pins s σ H x y v u Q I rx ry h
 obtain⟨rfl,q⟩:=h
 cases ry
 refine isnot_none_gen (CK I q ?_)
 cases x<;>first
  | (cases rx;rfl)
  | (obtain⟨t,rfl⟩:=rx;rfl)
theorem gz.or(h:gz X f r)(h':gz X f r'):gz X f (fun x y H Q=>r x y H Q\/r' x y H Q):=by
 intro pins s σ H x y v u Q I rx ry q
 rcases q with q|q
 ·exact h pins s σ H x y v u Q I rx ry q
 ·exact h' pins s σ H x y v u Q I rx ry q
theorem di(b:Expr)(h:op≠.In:=by decide)(h2:op≠.NotIn:=by decide):behindInMarks op b=false:=by
 have e1:(op == CmpOp.In)=false:=by cases op<;>first|rfl|exact absurd rfl h
 have e2:(op == CmpOp.NotIn)=false:=by cases op<;>first|rfl|exact absurd rfl h2
 cases b<;>simp[behindInMarks,e1,e2]
theorem Gy(ho:gz X (compareOp op) r)(ha:PE X a ta)(hb:PE X b tb)(hm:behindInMarks op b=false):PE X (.Compare a [op] [b] pos) (Ky r ta tb):=by
 intro pins s σ H Q I h
 exact wpAny_Compare1 (JR ha hb I h fun v u s2 x y H2 I2 rx ry q=>ho pins s2 σ H2 x y v u Q I2 rx ry q) hm
def Ho(t:TE):TT:=fun σ H Q=>t σ H fun x H'=>∃k,x=.bl k/\Q k H'
theorem FH(ho:gz X (compareOp op) r)(ha:PE X a ta)(hb:PE X b tb)(hm:behindInMarks op b=false):PT X (.Compare a [op] [b] pos) (Ho (Ky r ta tb)):=by
 intro pins s σ H Q I h
 refine wpAny_isTrue_Compare1 (bW (ha pins s σ H _ I h) fun v s1 ⟨x,H1,I1,r1,q1⟩=>bW (hb pins s1 σ H1 _ I1 q1) fun u s2 ⟨y,H2,I2,r2,q2⟩ =>
  bW (ho pins s2 σ H2 x y v u _ I2 r1 r2 q2) fun c s3 ⟨z,H3,I3,r3,k,e,q3⟩=>?_) hm
 subst e
 cases r3
 exact xW ⟨H3,I3,q3⟩
def vn(r r':R2)(ta tb tc:TE):TE:=fun σ H Q=>ta σ H fun x H1=>tb σ H1 fun y H2=>r x y H2 fun z H3=>∃k,z=.bl k /\
 (if k=true then tc σ H3 fun w' H4=>r' y w' H4 Q else Q (.bl false) H3)
theorem DH(ho:gz X (compareOp op) r)(ho':gz X (compareOp op') r')(ha:PE X a ta)(hb:PE X b tb)(hc:PE X c tc)
  (hm:lastMarks [op,op'] [b,c]=false:=by with_unfolding_all rfl):PE X (.Compare a [op,op'] [b,c] pos) (vn r r' ta tb tc):=by
 intro pins s σ H Q I h
 refine Compare_chain (bW (ha pins s σ H _ I h) fun v s1 ⟨x,H1,I1,r1,q1⟩=>chain_link (bW (hb pins s1 σ H1 _ I1 q1) fun u s2 ⟨y,H2,I2,r2,q2⟩ =>
  bW (ho pins s2 σ H2 x y v u _ I2 r1 r2 q2) fun d s3 ⟨z,H3,I3,r3,k,e,q3⟩=>?_)) hm
 subst e
 cases r3
 refine xW ?_
 cases k with
 | false=>exact ite_ff ⟨.bl false,H3,I3,rfl,q3⟩
 | true=>exact ite_tt (chain_last (bW (hc pins s3 σ H3 _ I3 q3) fun w' s4 ⟨z',H4,I4,r4,q4⟩=>ho' pins s4 σ H4 y z' u w' Q I4 r2 r4 q4))
theorem DZ(ho:gz X (compareOp op) r)(ho':gz X (compareOp op') r')(ha:PE X a ta)(hb:PE X b tb)(hc:PE X c tc)
  (hm:lastMarks [op,op'] [b,c]=false:=by with_unfolding_all rfl):PT X (.Compare a [op,op'] [b,c] pos) (Ho (vn r r' ta tb tc)):=by
 intro pins s σ H Q I h
 refine isTrue_chain (bW (ha pins s σ H _ I h) fun v s1 ⟨x,H1,I1,r1,q1⟩=>test_link (bW (hb pins s1 σ H1 _ I1 q1) fun u s2 ⟨y,H2,I2,r2,q2⟩ =>
  bW (ho pins s2 σ H2 x y v u _ I2 r1 r2 q2) fun d s3 ⟨z,H3,I3,r3,k,e,q3⟩=>?_)) hm
 subst e
 cases r3
 refine xW ?_
 cases k with
 | false =>
  obtain⟨k',e',q'⟩:=q3
  cases e'
  exact ite_ff ⟨H3,I3,q'⟩
 | true =>
  refine ite_tt (test_last (bW (hc pins s3 σ H3 _ I3 q3) fun w' s4 ⟨z',H4,I4,r4,q4⟩=>bW (ho' pins s4 σ H4 y z' u w' _ I4 r2 r4 q4) fun d' s5 ⟨z2,H5,I5,r5,k2,e2,q5⟩=>?_))
  subst e2
  cases r5
  exact xW ⟨H5,I5,q5⟩
theorem oH:(sizeLine:Nat) < 2 ^ 63:=by rw[qU];decide
theorem vals1(r:aF [x] us):∃u,us=[u]/\RelV x u:=by
 cases r with
 | cons r1 r2=>cases r2;exact⟨_,rfl,r1⟩
theorem vals2(r:aF [x,y] us):∃u w',us=[u,w']/\RelV x u/\RelV y w':=by
 cases r with
 | cons r1 r2 =>
  cases r2 with
  | cons r3 r4=>cases r4;exact⟨_,_,rfl,r1,r3⟩
end
section
variable {K:W.Frag}
end
section
end
section
end
section
end
section
end
structure dW(k:Nat)(A:Around):Prop where
 hd:A.handled=none
 dp:A.depth+3 * k+5 < recursionLimit
 un:A.units+16 * k+200 < cLine
theorem dW.mono(r:dW k A)(h:j<=k):dW j A:=⟨r.hd,by have:=r.dp;omega,by have:=r.un;omega⟩
theorem dW.deeper(r:dW (k+1) A)(env:Env):dW k (A.deeper env) :=
 ⟨r.hd,by have:=r.dp;show A.depth+1+3 * k+5 < _;omega,by have:=r.un;show A.units+3+16 * k+200 < _;omega⟩
theorem dW.in1(r:dW (k+1) A):dW k A.in1 :=
 ⟨r.hd,by have:=r.dp;show A.depth+3 * k+5 < _;omega,by have:=r.un;show A.units+1+16 * k+200 < _;omega⟩
theorem dW.depth(r:dW k A):A.depth < recursionLimit:=by have:=r.dp;omega
theorem dW.units(r:dW k A):A.units+64 < cLine:=by have:=r.un;omega
theorem dW.units0(r:dW k A):A.units < cLine:=by have:=r.un;omega
def Mc:TA:=fun _ H Q=>Q [] H
def KJ(ta:TE)(tr:TA):TA:=fun σ H Q=>ta σ H fun x H1=>tr σ H1 fun xs H2=>Q (x::xs) H2
section
theorem ft:PA X [] Mc:=fun _ _ _ _ H Q I h=>Calls.spliced_nil ⟨[],H,I,.nil,h⟩
theorem cJ(ha:PE X e te)(hr:PA X es t)(hs:starEach (e::es) X.env=(false,eval e X.env)::starEach es X.env:=by rfl):PA X (e::es) (KJ te t):=by
 intro pos pins s σ H Q I h
 rw[hs]
 show wpAny _ _ (spliced ((false,eval e X.env)::backTo pos (starEach es X.env))) _ _ s
 refine Calls.spliced_cons (bW (ha pins s σ H _ I h) fun u s1 ⟨x,H1,I1,r1,q1⟩=>?_)
 exact bW (hr pos pins s1 σ H1 _ I1 q1) fun us s2 ⟨xs,H2,I2,r2,q2⟩=>⟨x::xs,H2,I2,.cons r1 r2,q2⟩
def Mo(t:TA):TE:=fun σ H Q=>t σ H fun xs H1=>xs.length<=sizeLine/\∀p,H1 p=none->Q (.ref p) (upd H1 p (.tup xs))
def L0(t:TA):TE:=fun σ H Q=>t σ H fun xs H1=>xs.length<=sizeLine/\∀p,H1 p=none->Q (.ref p) (upd H1 p (.lst xs))
theorem Ir{x1}(h:PA X es t):PE X (.Tuple es x1 pos) (Mo t):=by
 intro pins s σ H Q I hq
 refine wpAny_Tuple_spliced (bW (h pos pins s σ H _ I hq) fun us s1 ⟨xs,H1,I1,r,z,q⟩=>⟨by rw[<- r.length];exact z,?_⟩)
 have hf:H1 s1.heap.objs.size=none:=I1.hok.fresh (yM _)
 refine⟨.ref s1.heap.objs.size,upd H1 s1.heap.objs.size (.tup xs),I1.laid (t':=s1.toks) (fun b u e=>zU _ e) (yM _) ?_,rfl,q _ hf⟩
 exact⟨z,us,r,⟨_,zX _ rfl,rfl,_,rfl⟩,_,zX _ rfl,rfl⟩
theorem JV(h:PA X es t):PE X (.List es pos) (L0 t):=by
 intro pins s σ H Q I hq
 refine wpAny_List_spliced (bW (h pos pins s σ H _ I hq) fun us s1 ⟨xs,H1,I1,r,z,q⟩=>⟨by rw[<- r.length];exact z,?_⟩)
 have hf:H1 s1.heap.objs.size=none:=I1.hok.fresh (yM _)
 refine⟨.ref s1.heap.objs.size,upd H1 s1.heap.objs.size (.lst xs),I1.laid (t':=s1.toks) (fun b u e=>zU _ e) (yM _) ?_,rfl,q _ hf⟩
 exact⟨z,us,0,r,zX _ rfl⟩
end
abbrev Sp:=List V->Hp->VK->XK->Prop
abbrev Ha:=List Env->Hp->Shared->XK->Value->Shared->Prop
structure FF(P:Program)(w:World)(K:W.Frag)(mg:Str->Option Value)(base:Heap)(A:Around)(outer:List Env)(s:Shared)(H:Hp):Prop where
 frames:A.frames=some outer
 mod:Mod K mg base
 bs:∀b o,base.get? b=some o->s.heap.get? b=some o/\H b=none
 bsz:base.objs.size<=s.heap.objs.size
 funs:s.heap.FunFrames base outer
 frf:∀b∈Cy outer,H b=none
 hok:nJ P w H s.heap
 bare:AllBare s.gens
def CE(outer:List Env)(P:Program)(w:World)(H:Hp)(s:Shared)(Q:VK)(u:Value)(s':Shared):Prop :=
 ∃v H',s'.os=s.os/\AllBare s'.gens/\Un (Cy outer) [] H H' s.heap s'.heap/\nJ P w H' s'.heap/\RelV v u/\Q v H'
def CR(CX:Ha)(outer:List Env)(P:Program)(w:World)(H:Hp)(s:Shared)(Q:VK)(E:XK)(r:Result)(s':Shared):Prop :=
 match r with
 | .ok (.ret u)=>CE outer P w H s Q u s'
 | .ok _=>False
 | .error e=>CX outer H s E e s'
structure oD(P:Program)(w:World)(K:W.Frag)(mg:Str->Option Value)(base:Heap)(CX:Ha)(k:Nat)(f:Addr)(fd:FuncData)(ps:List Str)(sp:Sp):Prop where
 len:∀vs H Q E,sp vs H Q E->vs.length=ps.length
 run:∀ (A:Around) (outer:List Env) (s:Shared) (H:Hp) (args:Args) (us:List Value) (vs:List V) (Q:VK) (E:XK),dW k A->FF P w K mg base A outer s H->BindsTo s fd args (ps.zip us)->aF vs us->sp vs H Q E ->
  codeAny (model P w) A (.call (.ref f) args) (CR CX outer P w H s Q E) s
theorem oD.mono{K:W.Frag}(F:oD P w K mg base CX j f fd ps sp)(h:j<=k) :
  oD P w K mg base CX k f fd ps sp:=⟨F.len,fun A outer s H args us vs Q E hr=>F.run A outer s H args us vs Q E (hr.mono h)⟩
section
theorem Inv.env0(I:Inv X pins σ H s):FF X.prog X.w X.K X.mg X.base X.A X.stack s H :=
 ⟨I.ok.frames,I.ok.mod,I.bs,yD I.ok.bsz I.sz,I.stack,I.stkFree,I.hok,I.bare⟩
theorem Inv.after(I:Inv X pins σ H s)(h:CE X.stack X.prog X.w H s Q u s'):EP X pins σ Q u s':=by
 obtain⟨v,H',os,bare,un,hok,r,q⟩:=h
 obtain⟨hh,g,d,t,os'⟩:=s'
 obtain rfl:os'=s.os:=os
 exact⟨v,H',I.call (h':=hh) (g':=g) (d':=d) (t':=t) (ch:=[]) un hok bare (fun b z=>absurd z (by simp)),r,q⟩
end
def KF(sp:Sp)(dvs:List V)(E:XK)(t:TA):TE:=fun σ H Q=>t σ H fun vs H1=>sp (vs++dvs) H1 Q E
def Binds(K:W.Frag)(fd:FuncData)(ps:List Str)(ds:List Value):Prop :=
 ∀ (s:Shared) (us:List Value),K.In s.heap->(us++ds).length=ps.length->BindsTo s fd ⟨us,[]⟩ (ps.zip (us++ds))
theorem Binds.all{K:W.Frag}(h:∀us:List Value,us.length=ps.length->bindArgs fd ⟨us,[]⟩=pure (ps.zip us)):Binds K fd ps []:=fun s us _ hl=>by
 rw[qF] at hl ⊢
 exact .of_eq (h us hl)
def wY(CX:Ha)(X:Cx)(E:XK):Prop:=∀ (pins:List (Addr×Obj)) (σ:St) (H:Hp) (s:Shared) (e:Value) (s':Shared),Inv X pins σ H s->CX X.stack H s E e s'->X.xe e s'
section
theorem J7(F:oD X.prog X.w X.K X.mg X.base CX k f fd ps sp)(hr:dW k X.A)(hb:Binds X.K fd ps ds)(hd:aF dvs ds)(hx:wY CX X E)
  (I:Inv X pins σ H s) (r:aF vs us) (h:sp (vs++dvs) H Q E):wpAny (model X.prog X.w) X.A (call (.ref f) us) (EP X pins σ Q) X.xe s:=by
 have r2:aF (vs++dvs) (us++ds):=r.append hd
 have hl:(us++ds).length=ps.length:=by rw[<- r2.length];exact F.len _ _ _ _ h
 refine wpAny_call (jR (F.run X.A X.stack s H ⟨us,[]⟩ (us++ds) (vs++dvs) Q E hr I.env0 (hb s us I.kIn hl) r2 h) fun r s' hq=>?_)
 cases r with
 | error e=>exact hx pins σ H s e s' I hq
 | ok fl =>
  cases fl with
  | ret u=>exact I.after hq
  | next=>exact False.elim hq
  | brk=>exact False.elim hq
  | cont=>exact False.elim hq
theorem Fv(F:oD X.prog X.w X.K X.mg X.base CX k f fd ps sp)(hr:dW k X.A)(hg:Gl X x)(hm:X.mg x=some (.ref f))(hk:W.keepIn X.K (.ref f)=true)(hb:Binds X.K fd ps ds)(hd:aF dvs ds)(hx:wY CX X E)
  (ha:PA X (e::es) t) (hdb:(x == ("__debug__":Str))=false:=by decide) (he:starEach (e::es) X.env=(false,eval e X.env)::starEach es X.env:=by rfl) (hpl:(backTo pos (starEach es X.env)).any (·.1)=false:=by rfl) :
  PE X (.Call (.Name x p) (e::es) [] pos) (KF sp dvs E t):=by
 intro pins s σ H Q I h
 refine qY (AE I hg hm ?_ hdb)
 refine W.callWith_K (h₀:=X.base) I.ok.mod.kin hk (bW (ha pos pins s σ H _ I h) fun us s1 ⟨vs,H1,I1,r,q⟩=>⟨I1.kIn,?_⟩) he hpl
 exact J7 F hr hb hd hx I1 r q
end
section
end
structure dP(N P:List Str)(sc:Scope):Prop where
 kind:sc.kind=.function
 co:sc.isCoroutine=false
 gen:sc.isGenerator=false
 nd:N.Nodup
 pre:N.take P.length=P
 par:∀x∈P,sc.names.lookup x=some .local \/ sc.names.lookup x=some .cell
 nofree:∀y∈sc.names,y.2≠.free
theorem qc{kindOf:Str->Option NameKind}:∀ {binds:List (Str×Value)}{m:Str->Option Value},(∀v,(x,v)∉binds)->bindL kindOf binds m x=m x
 | [],_,_=>rfl
 | (n,v)::r,m,h=>by
  unfold bindL
  rw[qc fun w hw=>h w (zC _ hw)]
  split
  ·have:x≠n:=by rintro rfl;exact h v zE
   simp[this]
  ·rfl
theorem qw{kindOf:Str->Option NameKind}:∀ {binds:List (Str×Value)}{m:Str->Option Value},(∀v,(x,v)∉binds)->bindC kindOf binds m x=m x
 | [],_,_=>rfl
 | (n,v)::r,m,h=>by
  unfold bindC
  rw[qw fun w hw=>h w (zC _ hw)]
  split
  ·rfl
  ·have:x≠n:=by rintro rfl;exact h v zE
   simp[this]
theorem pR{kindOf:Str->Option NameKind}:∀ {P:List Str}{vs:List Value}{i:Nat}{m:Str->Option Value},P.Nodup->P[i]?=some x->vs[i]?=some v->kindOf x=some .local ->
  bindL kindOf (P.zip vs) m x=some v
 | [],_,_,_,_,h,_,_=>by simp at h
 | _::_,[],_,_,_,_,h,_=>by simp at h
 | p::P,w::vs,0,m,nd,h1,h2,hk=>by
  simp at h1 h2;subst h1;subst h2
  show bindL kindOf ((p,w)::P.zip vs) m p=_
  unfold bindL
  rw[qc fun v hv=>(List.nodup_cons.mp nd).1 (vS hv).1,yL hk]
  simp
 | p::P,w::vs,i+1,m,nd,h1,h2,hk=>by
  show bindL kindOf ((p,w)::P.zip vs) m x=_
  unfold bindL
  exact pR (i:=i) (List.nodup_cons.mp nd).2 (by simpa using h1) (by simpa using h2) hk
theorem qt{kindOf:Str->Option NameKind}:∀ {P:List Str}{vs:List Value}{i:Nat}{m:Str->Option Value},P.Nodup->P[i]?=some x->vs[i]?=some v->kindOf x≠some .local ->
  bindC kindOf (P.zip vs) m x=some v
 | [],_,_,_,_,h,_,_=>by simp at h
 | _::_,[],_,_,_,_,h,_=>by simp at h
 | p::P,w::vs,0,m,nd,h1,h2,hk=>by
  simp at h1 h2;subst h1;subst h2
  show bindC kindOf ((p,w)::P.zip vs) m p=_
  unfold bindC
  rw[qw fun v hv=>(List.nodup_cons.mp nd).1 (vS hv).1,yN hk]
  simp
 | p::P,w::vs,i+1,m,nd,h1,h2,hk=>by
  show bindC kindOf ((p,w)::P.zip vs) m x=_
  unfold bindC
  exact qt (i:=i) (List.nodup_cons.mp nd).2 (by simpa using h1) (by simpa using h2) hk
def start(N:List Str)(vs:List V):St:=vs.map some++List.replicate (N.length - vs.length) none
def Bf(CX:Ha)(P:Program)(w:World)(K:W.Frag)(mg:Str->Option Value)(base:Heap)(N:List Str)(qual:Str)(scope:Scope)(f:Addr)(cd:Value)(A:Around)(outer:List Env)(s:Shared)(H:Hp)(E:XK):Cx where
 prog:=P
 w:=w
 K:=K
 mg:=mg
 base:=base
 A:=A.deeper (envOfC qual scope s.heap.objs.size f cd)
 N:=N
 s₀:=s
 H₀:=H
 env:=envOfC qual scope s.heap.objs.size f cd
 outer:=outer
 stack:=envOfC qual scope s.heap.objs.size f cd::outer
 ex:=[]
 calm:=true
 fn:=fun _=>true
 pn:=[]
 xe:=fun e s'=>wpAny (model P w) (A.deeper (envOfC qual scope s.heap.objs.size f cd)) (leaving (envOfC qual scope s.heap.objs.size f cd) e) (fun _ s''=>CX outer H s E e s'') (fun e' s''=>CX outer H s E e' s'') s'
theorem oe{sc:Scope}{n:Nat}(h:sc.names.lookup x=some .cell):∃c,(cellsFrom n sc.names []).lookup x=some c:=by
 have q:=W.cellsFrom_some sc.names n [] (.inl h)
 exact Option.isSome_iff_exists.mp q
theorem Bh{CX:Ha}{K:W.Frag}{mg:Str->Option Value}{ps:List Str}{scope:Scope}{cd:Value}{A:Around}{outer:List Env}{s:Shared}{E:XK}{us:List Value}{vs:List V}
  (S:dP N ps scope) (hd:A.handled=none) (e0:FF P w K mg base A outer s H) (hl:vs.length=ps.length) (r:aF vs us)
  (x:InCallC s s.heap.objs.size (bindL (envOfC qual scope s.heap.objs.size f cd).kindOf (ps.zip us) fun _=>none) (cellsFrom (s.heap.objs.size+1) scope.names []) (bindC (envOfC qual scope s.heap.objs.size f cd).kindOf (ps.zip us) fun _=>none) s1) :
  Inv (Bf CX P w K mg base N qual scope f cd A outer s H E) [] (start N vs) H s1:=by
 have hpl:ps.length<=N.length:=by have:=jC List.length S.pre;rw[jV] at this;omega
 obtain⟨h1,tk,rfl,hk⟩:=x.done
 have noA:∀b:Addr,b∉(Bf CX P w K mg base N qual scope f cd A outer s H E).ex:=fun b z=>absurd (show b∈([]:List Addr) from z) (by simp)
 refine⟨⟨e0.mod,S.kind,rfl,rfl,yM _,fun y z c h1 h2=>?_,fun y hy=>?_,fun y c _ h=>?_,fun _=>hd,Around.frames_deeper e0.frames,.inr ⟨rfl,rfl⟩,fun b z=>absurd z (noA b),e0.bs,e0.bsz,fun b _ _=>noA b,fun b z=>absurd z (noA b),e0.funs,e0.frf⟩,
  rfl,e0.bare,Un.kept hk,⟨_,x.toInCall.ns,fun i y v h1 h2 h3=>?_⟩,fun y c h=>⟨_,x.cell y c h⟩,e0.hok.fresh (yM _),fun y c h=>?_,fun p hp=>absurd (show p∈([]:List (Addr×Obj)) from hp) (by simp),e0.hok.kept hk,?_⟩
 ·exact name_of_addr x.apart (jZ h1) (jZ h2)
 ·have hy:scope.names.lookup y=some .cell\/scope.names.lookup y=some .free:=hy
  rcases hy with hy|hy
  ·exact oe hy
  ·exact absurd rfl (S.nofree _ (jZ hy))
 ·exact jS (x.above y c (jZ h))
 ·have hi:i < vs.length:=by
   unfold start at h2
   by_cases hi:i < vs.length
   ·exact hi
   ·rw[yT (by simpa using hi)] at h2
    rw[yX] at h2
    split at h2<;>cases h2
  have ha:vs[i]?=some v:=by
   unfold start at h2
   rw[yS (by simpa using hi),zO] at h2
   cases e:vs[i]? with
   | none=>rw[e] at h2;cases h2
   | some a=>rw[e] at h2;cases h2;rfl
  obtain⟨u,hu,rv⟩:=r.get ha
  have hp:ps[i]?=some y:=by
   rw[<- S.pre,List.getElem?_take_of_lt (by omega)];exact h1
  have ndP:ps.Nodup:=by rw[<- S.pre];exact S.nd.sublist (List.take_sublist _ _)
  refine⟨u,rv,?_⟩
  rcases S.par y (qB hp) with k|k
  ·exact .inl ⟨k,pR ndP hp hu k⟩
  ·obtain⟨c,e⟩:=oe (n:=s.heap.objs.size+1) k
   refine .inr ⟨.inl k,c,e,?_⟩
   have q:=x.cell y c e
   rw[qt ndP hp hu (by show scope.names.lookup y≠_;rw[k];decide)] at q
   exact q
 ·exact e0.hok.fresh (jS (x.above y c (jZ h)))
 ·unfold start
  show _=N.length
  rw[zN,zD,xM]
  omega
theorem Kh{K:W.Frag}{kV:Value}
  {osl:Array (Option Value)}{N ps:List Str}{sp:Sp}(lk:K.lookup f=some ⟨oc,od,.func (W.fnOf name qual params body scope dV kV doc pm an cdv ct),osl⟩) (hcd:W.codeIn K cdv qual=true) (S:dP N ps scope)
  (len:∀vs H Q E,sp vs H Q E->vs.length=ps.length)
  (hbody:∀ (A:Around) (outer:List Env) (s:Shared) (H:Hp) (vs:List V) (Q:VK) (E:XK),dW k (A.deeper (envOfC qual scope s.heap.objs.size f cdv))->sp vs H Q E ->
   ∃t,xu (Bf CX P w K mg base N qual scope f cdv A outer s H E) body t/\t { nx:=fun _ H'=>Q .non H',rt:=Q } (start N vs) H) :
  oD P w K mg base CX (k+1) f (W.fnOf name qual params body scope dV kV doc pm an cdv ct) ps sp:=by
 refine⟨len,fun A outer s H args us vs Q E hr e0 hb r hsp=>?_⟩
 have hl:=len _ _ _ _ hsp
 have KX:K.In s.heap:=e0.mod.kin.keeps fun b o e=>(e0.bs b o e).1
 have lim:s.heap.NoLimit:=e0.mod.nolimit.keeps fun b o e=>(e0.bs b o e).1
 have hkind:∀y∈ps.zip us,scope.names.lookup y.1=some .local \/ (scope.names.lookup y.1=some .cell/\((cellsFrom (s.heap.objs.size+1) scope.names []).lookup y.1).isSome=true):=fun ⟨n,v⟩ hy=>by
  rcases S.par n (vS hy).1 with q|q
  ·exact .inl q
  ·exact .inr ⟨q,W.cellsFrom_some _ _ _ (.inl q)⟩
 refine codeAny_call_function hr.depth (KX _ _ lk) rfl S.co S.gen rfl (W.codeRec_of KX hcd) (hb _ _ _ _ ?_)
 refine wpAny_newFunctionEnv_cells S.kind hkind fun env he s1 x=>?_
 subst he
 refine⟨lim.keeps x.toInCall.keep,codeAny_func ?_⟩
 obtain⟨t,ht,hq⟩:=hbody A outer s H vs Q E (hr.deeper _) hsp
 have I:Inv (Bf CX P w K mg base N qual scope f cdv A outer s H E) [] (start N vs) H s1:=Bh S hr.hd e0 hl r x
 refine xA (ht [] s1 (start N vs) H _ I hq) (fun fl s' hs=>?_) fun e s' hs=>hs
 have fin:∀ {σ':St}{H':Hp}{v:V}{u:Value},Inv (Bf CX P w K mg base N qual scope f cdv A outer s H E) [] σ' H' s'->RelV v u->Q v H'->CE outer P w H s Q u s' :=
  fun {σ' H' v u} J rv q=>⟨v,H',J.os,J.bare,J.base,J.hok,rv,q⟩
 cases fl with
 | ret u =>
  obtain⟨v,σ',H',J,rv,q⟩:=hs
  exact fin J rv q
 | next =>
  obtain⟨σ',H',J,q⟩:=hs
  exact fin (v:=V.non) (u:=Value.none) J rfl q
 | brk =>
  obtain⟨_,_,_,q⟩:=hs
  exact False.elim q
 | cont =>
  obtain⟨_,_,_,q⟩:=hs
  exact False.elim q
section
variable {id T:String}
def LP(r:List V->Hp->VK->Prop)(t:TA):TE:=fun σ H Q=>t σ H fun vs H1=>r vs H1 Q
theorem jc(hc:du X (.builtin id) r)(hg:Gl X x)(hm:X.mg x=none)(hv:bootBuiltins x=some (.builtin id))(ha:PA X (e::es) t)(hn:x≠"__name__":=by decide)(hdb:(x == ("__debug__":Str))=false:=by decide)
  (he:starEach (e::es) X.env=(false,eval e X.env)::starEach es X.env:=by rfl) (hpl:(backTo pos (starEach es X.env)).any (·.1)=false:=by rfl):PE X (.Call (.Name x p) (e::es) [] pos) (LP r t):=by
 intro pins s σ H Q I h
 refine qY (k7 I hg hm hv ?_ hn hdb)
 exact PyProof.Rows.callWith_builtin1 (bW (ha pos pins s σ H _ I h) fun us s1 ⟨vs,H1,I1,r1,q1⟩=>hc pins s1 σ H1 vs us Q I1 r1 q1) he hpl
theorem mN(hc:du X (.type T) r)(hg:Gl X x)(hm:X.mg x=none)(hv:bootBuiltins x=some (.type T))(ha:PA X (e::es) t)(hn:x≠"__name__":=by decide)(hdb:(x == ("__debug__":Str))=false:=by decide)
  (he:starEach (e::es) X.env=(false,eval e X.env)::starEach es X.env:=by rfl) (hpl:(backTo pos (starEach es X.env)).any (·.1)=false:=by rfl):PE X (.Call (.Name x p) (e::es) [] pos) (LP r t):=by
 intro pins s σ H Q I h
 refine qY (k7 I hg hm hv ?_ hn hdb)
 exact qS (bW (ha pos pins s σ H _ I h) fun us s1 ⟨vs,H1,I1,r1,q1⟩=>hc pins s1 σ H1 vs us Q I1 r1 q1) he hpl
end
end L2
namespace HT
open PySem PyProof.Rows
def lexLt:List Int->List Int->Bool
 | [],[]=>false
 | [],_::_=>true
 | _::_,[]=>false
 | x::xs,y::ys=>if x=y then lexLt xs ys else decide (x < y)
theorem cA(x y:Int)(xs ys:List Int):lexLt (x::xs) (y::ys)=if x=y then lexLt xs ys else decide (x < y):=rfl
theorem pD:lexLt [] []=false:=rfl
theorem oP(y:Int)(ys:List Int):lexLt [] (y::ys)=true:=rfl
theorem o7(x:Int)(xs:List Int):lexLt (x::xs) []=false:=rfl
theorem Dm(A:Around)(s:Shared)(a:Int)(t:Tok)(c:Int)(u:Tok):∃e,SeqAt.EqAt A s (.int a t) (.int c u) e/\(e=true↔a=c) :=
 ⟨(a == c),SeqAt.EqAt.int_int a t c u,by simp⟩
theorem BW(A:Around)(s:Shared)(a:Int)(t:Tok)(c:Int)(u:Tok)(prog:Program)(w:World)(E:Value->Shared->Prop)(Q:Value->Shared->Prop)(h:Q (.bool (decide (a < c))) s) :
  wpAny (model prog w) A (richCompare .Lt (.int a t) (.int c u)) Q E s :=
 (PyProof.Rows.lt_int h:wpAny (model prog w) A (compareOp .Lt (.int a t) (.int c u)) Q E s)
section
open PySem.SeqAt
open PySem.AutoSeq1 (wpAny_loadPart')
open PySem.MeetsSeq PySem.MeetsSeq2 PySem.MeetsSeq3
theorem pJ(l b:Addr)(items items2:Array Value)(n n2:Nat)(dd dd2:Option Addr)(sl sl2:Array (Option Value))(ns ms:List Int)(hi:IntsAre items.toList ns)(hj:IntsAre items2.toList ms) :
  Meets (Builtin.«tuple.__lt__» ⟨[.ref l,.ref b],[]⟩)
   (fun _ R s=>s.heap.get? l=some { cls:=.type "tuple",dict:=dd,data:=.seq items n,slots:=sl }/\s.heap.get? b=some { cls:=.type "tuple",dict:=dd2,data:=.seq items2 n2,slots:=sl2 } /\
    R (.ok (.ret (.bool (lexLt ns ms)))) s) :=
 .of_wp fun prog w A R s h=>by
  obtain⟨hp,g,d,tk,os⟩:=s;obtain⟨hl,hb,h⟩:=h
  have f2:=AutoSeq1.sub_tuple_tuple
  have z1:items.size=ns.length:=by rw[<- hi.length];simp
  have z2:items2.size=ms.length:=by rw[<- hj.length];simp
  wp_walk using wpAny_loadPart' hl,wpAny_loadPart' hb,wpAny_forIn_list _ (fun rest b s'=>b.1=none/\s'=⟨hp,g,d,tk,os⟩/\∃ (vs ws:List Value) (ns' ms':List Int),rest=vs.zip ws /\
   IntsAre vs ns'/\IntsAre ws ms'/\ns'.length+items2.size=ms'.length+items.size/\R (.ok (.ret (.bool (lexLt ns' ms')))) ⟨hp,g,d,tk,os⟩) _
  case turn =>
   rintro⟨y,x⟩ rest b s' ⟨hb',rfl,vs,ws,ns',ms',hz,hvi,hwi,hlen,hR⟩
   cases hvi with
   | nil=>rw[List.zip_nil_left] at hz;cases hz
   | cons a t hvi' =>
    cases hwi with
    | nil=>rw[List.zip_nil_right] at hz;cases hz
    | cons c u hwi' =>
     rw[List.zip_cons_cons] at hz
     injection hz with hyx hrest
     injection hyx with hy hx
     subst hy hx
     rw[cA] at hR
     simp only[zL] at hlen
     obtain⟨e,he,hiff⟩:=Dm A.in1 ⟨hp,g,d,tk,os⟩ a t c u
     refine zV (he prog w _ _ ?_)
     cases e with
     | true =>
      rw[yL (hiff.mp rfl)] at hR
      wp_walk
      exact⟨rfl,rfl,_,_,_,_,hrest,hvi',hwi',by omega,hR⟩
     | false =>
      rw[yN (fun q=>absurd (hiff.mpr q) yZ)] at hR
      have hri:=BW A.in1 ⟨hp,g,d,tk,os⟩ a t c u prog w
      wp_walk using hri
      exact⟨_,rfl,by simpa using hR⟩
  case fin =>
   rintro⟨b1,b2⟩ s' ⟨hb',rfl,vs,ws,ns',ms',hz,hvi,hwi,hlen,hR⟩
   simp only at hb'
   subst hb'
   have hv:lexLt ns' ms'=decide (items.size < items2.size):=by
    cases hvi with
    | nil =>
     cases hwi with
     | nil =>
      simp only[xK] at hlen
      rw[pD]
      exact (zZ (by omega)).symm
     | cons c u hw =>
      simp only[xK,zL] at hlen
      rw[oP]
      exact (yA (by omega)).symm
    | cons a t hv =>
     cases hwi with
     | nil =>
      simp only[xK,zL] at hlen
      rw[o7]
      exact (zZ (by omega)).symm
     | cons c u hw =>
      rw[List.zip_cons_cons] at hz
      cases hz
   rw[hv] at hR
   wp_walk
   exact⟨_,rfl,by simpa [Builtin.Tuple.tupleCompareSizes] using hR⟩
  case h =>
   exact⟨rfl,rfl,items.toList,items2.toList,ns,ms,rfl,hi,hj,by omega,h⟩
end
section
theorem o4{items:Array Value}(hl:IsTup s.heap l items)(hb:IsTup s.heap b items2)(hi:IntsAre items.toList ns)(hj:IntsAre items2.toList ms)
  (hu:A.units < cLine) (h:Q (.bool (lexLt ns ms)) s):wpAny (model prog w) A (compareOp .Lt (.ref l) (.ref b)) Q E s:=by
 obtain⟨⟨cls,dd,data,sl⟩,ho,hc,n,hd⟩:=id hl
 obtain⟨⟨cls2,dd2,data2,sl2⟩,ho2,hc2,n2,hd2⟩:=id hb
 simp only at hc hd hc2 hd2
 subst hc hd hc2 hd2
 exact richCompare_meets_room (op:=.Lt) ⟨_,ho,rfl⟩ ⟨_,ho2,rfl⟩ PySem.F.slot_tuple_lt PySem.F.entry_tuple_lt (PySem.F.args_tuple_lt_2 _ _) (pJ l b items items2 n n2 dd dd2 sl sl2 ns ms hi hj)
  ⟨ho,ho2,show Value.bool (lexLt ns ms)≠Value.notImplemented/\Q (.bool (lexLt ns ms)) s from ⟨(fun x=>nomatch x),h⟩⟩ hu
theorem Ga(ht:IsTup s.heap t vs.toArray)(hb:IsTup s.heap b ws.toArray)(hv:vs≠[])
  (h1:ws=[]->Q (.ref t) s) (h2:ws≠[]->Q (.ref s.heap.objs.size) { s with heap:=s.heap.push { cls:=.type "tuple",data:=.seq (vs++ws).toArray } })
  (hsz:vs.length+ws.length<=sizeLine):wpAny (model prog w) A (binaryOp .Add (.ref t) (.ref b)) Q E s:=by
 obtain⟨⟨cls,dd,data,sl⟩,ho,hc,n,hd⟩:=id ht
 obtain⟨⟨cls2,dd2,data2,sl2⟩,ho2,hc2,n2,hd2⟩:=id hb
 simp only at hc hd hc2 hd2
 subst hc hd hc2 hd2
 have e:vs.toArray++ws.toArray=(vs++ws).toArray:=by simp
 by_cases hw:ws=[]
 ·exact wL ⟨_,ho,rfl⟩ ⟨_,ho2,rfl⟩ noFill_tuple_add seq_tuple_add vM vH (vF _ _)
   (tuple_addW1 t b vs.toArray ws.toArray n n2 dd dd2 sl sl2 (by simpa using hv) (by simp[hw])) ⟨ho,ho2,h1 hw⟩
 ·refine wL ⟨_,ho,rfl⟩ ⟨_,ho2,rfl⟩ noFill_tuple_add seq_tuple_add vM vH (vF _ _)
   (tuple_addW2 t b vs.toArray ws.toArray n n2 dd dd2 sl sl2 (by simpa using hv) (by simpa using hw) (by rw[zH,zH];exact hsz)) ⟨ho,ho2,?_⟩
  rw[e]
  exact h2 hw
def cZ(n d:Nat):Option Int->Nat
 | none=>d
 | some v=>if v < 0 then (v+(n:Int)).toNat else min v.toNat n
theorem tY(n d:Nat):cZ n d none=d:=rfl
theorem zh(n d k:Nat):cZ n d (some (k:Int))=min k n:=by
 show (if (k:Int) < 0 then ((k:Int)+(n:Int)).toNat else min (k:Int).toNat n)=min k n
 rw[yN (by omega),yG]
theorem IW(n d:Nat)(hd:d<=n)(o:Option Int):cZ n d o<=n:=by
 cases o with
 | none=>exact hd
 | some v =>
  show (if v < 0 then (v+(n:Int)).toNat else min v.toNat n)<=n
  by_cases hv:v < 0
  ·rw[yL hv];omega
  ·rw[yN hv];exact Nat.min_le_right _ _
theorem yp(v:Int)(n d:Nat):(if v < 0 then max (v+(n:Int)) 0 else min v (n:Int))=((cZ n d (some v):Nat):Int):=by
 show (if v < 0 then max (v+(n:Int)) 0 else min v (n:Int))=(((if v < 0 then (v+(n:Int)).toNat else min v.toNat n):Nat):Int)
 by_cases hv:v < 0
 ·simp only[yL hv];omega
 ·simp only[yN hv];omega
theorem v7(lo hi:Option Int)(n:Nat):Builtin.Slice.sliceAdjust lo hi 1 (n:Int)=(((cZ n 0 lo:Nat):Int),((cZ n n hi:Nat):Int)):=by
 have h1:¬ ((1:Int) < 0):=by omega
 unfold Builtin.Slice.sliceAdjust
 simp only[h1,qP]
 refine Prod.ext ?_ ?_
 ·cases lo with
  | none=>rfl
  | some v=>exact yp v n 0
 ·cases hi with
  | none=>rfl
  | some v=>exact yp v n n
theorem xc(i j:Nat):Builtin.Slice.slicePlaces (i:Int) (j:Int) 1=j - i:=by
 unfold Builtin.Slice.slicePlaces
 have h1:(1:Int) > 0:=by omega
 simp only[h1,xH,Int.ediv_one]
 split<;>omega
theorem o9(p:IsPart v o)(h:Q o s):wpAny (model prog w) A (Builtin.Slice.slicePartIndex v) Q E s:=by
 cases p with
 | none=>exact slicePart_none h
 | int i t=>exact slicePart_int h
theorem gF{vl:Value}{lo hi:Option Int}{n:Nat}{Q:Int×Int×Nat->Shared->Prop}(hs:s.heap.IsSliceOf sl vl vu .none)(pl:IsPart vl lo)(pu:IsPart vu hi)
  (h:Q (((cZ n 0 lo:Nat):Int),1,cZ n n hi - cZ n 0 lo) s):wpAny (model prog w) A (Builtin.Slice.sliceApplied (.ref sl) (pure (n:Int))) Q E s:=by
 obtain⟨os,hos,hcs,hds⟩:=id hs
 unfold Builtin.Slice.sliceApplied Builtin.Slice.sliceFields
 refine zV (zV (qT hos hds (x:=vl) rfl (zV (qT hos hds (x:=vu) rfl (zV (qT hos hds (x:=.none) rfl (zW ?_)))))))
 refine zV (slicePart_none ?_)
 show wpAny _ _ (if ((1:Int) == 0)=true then _ else _) _ _ s
 rw[yN (by decide)]
 refine zV (o9 pl (zV (o9 pu (zV (zW ?_)))))
 show wpAny _ _ (match Builtin.Slice.sliceAdjust lo hi 1 (n:Int) with|(lo,hi)=>pure (lo,(1:Int),Builtin.Slice.slicePlaces lo hi 1)) _ _ s
 rw[v7 lo hi n]
 show wpAny _ _ (pure (((cZ n 0 lo:Nat):Int),(1:Int),Builtin.Slice.slicePlaces ((cZ n 0 lo:Nat):Int) ((cZ n n hi:Nat):Int) 1)) _ _ s
 rw[xc]
 exact zW h
theorem DB(xs:Array Value)(i k:Nat):((List.range k).filterMap fun (m:Nat)=>xs[((i:Int)+(m:Int) * 1).toNat]?).toArray=((xs.toList.drop i).take k).toArray:=by
 have e:(fun (m:Nat)=>xs[((i:Int)+(m:Int) * 1).toNat]?)=fun m=>xs[i+m]?:=by
  funext m
  have:((i:Int)+(m:Int) * 1).toNat=i+m:=by omega
  rw[this]
 rw[e]
 have:=pick_run xs i k
 rw[List.filterMap_map] at this
 have e2:((fun x=>xs[x]?) ∘ fun x=>i+x)=fun m=>xs[i+m]?:=rfl
 rw[e2] at this
 rw[this]
theorem lN{items:Array Value}{vl:Value}{lo:Option Int}(ht:IsTup s.heap t items)(hs:s.heap.IsSliceOf sl vl vu .none)(pl:IsPart vl lo)(pu:IsPart vu hi)
  (hw:¬ (cZ items.size 0 lo=0/\cZ items.size items.size hi=items.size))
  (h:Q (.ref s.heap.objs.size) { s with heap:=s.heap.push { cls:=.type "tuple",data:=.seq ((items.toList.drop (cZ items.size 0 lo)).take (cZ items.size items.size hi - cZ items.size 0 lo)).toArray } })
  (hsz:items.size<=sizeLine):wpAny (model prog w) A (getItem (.ref t) (.ref sl)) Q E s:=by
 have htake:sizeOk (.seq ((items.toList.drop (cZ items.size 0 lo)).take (cZ items.size items.size hi - cZ items.size 0 lo)).toArray):=by
  show ((items.toList.drop (cZ items.size 0 lo)).take (cZ items.size items.size hi - cZ items.size 0 lo)).toArray.size<=sizeLine
  rw[zH,jV,qH,wC]
  omega
 have hj:cZ items.size items.size hi<=items.size:=IW _ _ (yM _) hi
 obtain⟨os,hos,hcs,hds⟩:=id hs
 have hTs:s.TypeIs (.ref sl) "slice":=⟨os,hos,hcs⟩
 unfold getItem
 try with_reducible refine xX ?_
 first|refine zV (zW ?_)|skip
 refine zV (wpAny_sequenceKey ht.typeIs (by decide) ?_)
 refine zV (qC (name:=Str.ofString "__getitem__") ht.typeIs jF
  (qV jF ht.typeIs entry_tuple_getitem ?_ (args_tuple_getitem _ _)))
 show wpAny _ _ (Builtin.Tuple.tupleItemsOf (.ref t) >>= _) _ _ s
 refine zV (tupleItemsOf_ ht ?_)
 refine zV (wJ hTs ?_)
 rw[yL (by decide)]
 refine zV (gF hs pl pu ?_)
 have hno:¬ ((((cZ items.size 0 lo:Nat):Int) == 0&&(1:Int) == 1&&(cZ items.size items.size hi - cZ items.size 0 lo) == items.size)=true):=by
  intro q
  rw[zF,zF] at q
  have q1:((cZ items.size 0 lo:Nat):Int)=0:=eq_of_beq q.1.1
  have q2:cZ items.size items.size hi - cZ items.size 0 lo=items.size:=eq_of_beq q.2
  exact hw ⟨by omega,by omega⟩
 show wpAny _ _ (if (((cZ items.size 0 lo:Nat):Int) == 0&&(1:Int) == 1&&(cZ items.size items.size hi - cZ items.size 0 lo) == items.size)=true then _ else _) _ _ s
 rw[yN hno,DB]
 first
  | exact zV (m:=Builtin.Tuple.tupleExact _) (qL (zW ⟨_,rfl,zW h⟩) htake)
  | exact zV (m:=Builtin.Tuple.tupleExact _) (qL (zV (zW (zW ⟨_,rfl,zW h⟩))) htake)
  | exact zV (zV (m:=Builtin.Tuple.tupleExact _) (qL (zW (zW ⟨_,rfl,zW h⟩)) htake))
  | exact zV (zV (m:=Builtin.Tuple.tupleExact _) (qL (zW ⟨_,rfl,zW h⟩) htake))
end
end HT
namespace L2
open PySem PySem.Spec PyProof.Rows
abbrev TO:=St->Hp->(Option Int->Hp->Prop)->Prop
def PO(X:Cx)(e:Option Expr)(t:TO):Prop :=
 ∀ (pins:List (Addr×Obj)) (s:Shared) (σ:St) (H:Hp) (Q:Option Int->Hp->Prop),Inv X pins σ H s->t σ H Q ->
  wpAny (model X.prog X.w) X.A (evalPart e X.env) (fun u s'=>∃o H',Inv X pins σ H' s'/\IsPart u o/\Q o H') X.xe s
def GE:TO:=fun _ H Q=>Q none H
def KH(t:TE):TO:=fun σ H Q=>t σ H fun x H1=>∃i,x=.int i/\Q (some i) H1
theorem intsAre_of:∀ {us:List Value},aF (ns.map V.int) us->IntsAre us ns:=by
 induction ns with
 | nil=>intro us r;rw[yU] at r;cases r;exact .nil
 | cons n ns ih =>
  intro us r
  rw[zI] at r
  cases r with
  | cons r1 r2 =>
   obtain⟨t,e⟩:=r1
   subst e
   exact .cons n t (ih r2)
section
variable {lo hi:Option Expr}
theorem FO:PO X none GE:=by
 intro pins s σ H Q I h
 rw[evalPart_none]
 exact zW ⟨none,H,I,.none,h⟩
theorem F8(h:PE X e te):PO X (some e) (KH te):=by
 intro pins s σ H Q I hw
 rw[evalPart_some]
 refine bW (h pins s σ H _ I hw) fun u s1 ⟨x,H1,I1,r1,q1⟩=>?_
 obtain⟨i,rfl,q⟩:=q1
 obtain⟨t,rfl⟩:=r1
 exact⟨some i,H1,I1,.int i t,q⟩
def Hm(X:Cx)(r:V->Option Int->Option Int->Hp->VK->Prop):Prop :=
 ∀ (pins:List (Addr×Obj)) (s:Shared) (σ:St) (H:Hp) (x:V) (v vl vu:Value) (lo hi:Option Int) (sl:Addr) (Q:VK),Inv X pins σ H s->RelV x v->s.heap.IsSliceOf sl vl vu .none->IsPart vl lo->IsPart vu hi->r x lo hi H Q ->
  ∃T id,typeLookup (.type T) "__getitem__"=pure (some (.builtin id))/\s.TypeIs v T/\wpAny (model X.prog X.w) X.A (getItem v (.ref sl)) (EP X pins σ Q) X.xe s
theorem Hm.or(h:Hm X r)(h':Hm X r'):Hm X (fun x lo hi H Q=>r x lo hi H Q\/r' x lo hi H Q):=by
 intro pins s σ H x v vl vu lo hi sl Q I rx hs pl pu q
 rcases q with q|q
 ·exact h pins s σ H x v vl vu lo hi sl Q I rx hs pl pu q
 ·exact h' pins s σ H x v vl vu lo hi sl Q I rx hs pl pu q
def Nw(r:V->Option Int->Option Int->Hp->VK->Prop)(te:TE)(tl th:TO):TE:=fun σ H Q=>te σ H fun x H1=>tl σ H1 fun l H2=>th σ H2 fun u H3=>r x l u H3 Q
theorem Do(hr:Hm X r)(he:PE X e te)(hl:PO X lo tl)(hu:PO X hi th):PE X (.Subscript e (.Slice lo hi none p2) pos) (Nw r te tl th):=by
 intro pins s σ H Q I h
 refine Subscript_ (bW (he pins s σ H _ I h) fun v s1 ⟨x,H1,I1,r1,q1⟩=>?_)
 refine wpAny_Slice (bW (hl pins s1 σ H1 _ I1 q1) fun vl s2 ⟨l,H2,I2,pl,q2⟩=>bW (hu pins s2 σ H2 _ I2 q2) fun vu s3 ⟨u,H3,I3,pu,q3⟩=>?_)
 rw[evalPart_none]
 refine zW ?_
 have I4:Inv X pins σ H3 { s3 with heap:=s3.heap.push { cls:=.type "slice",data:=.fields #[vl,vu,.none] } }:=I3.kept (t':=s3.toks) fun b ob q=>zU _ q
 obtain⟨T,id,hT,ht,hg⟩:=hr pins { s3 with heap:=s3.heap.push { cls:=.type "slice",data:=.fields #[vl,vu,.none] } } σ H3 x v vl vu l u s3.heap.objs.size Q I4 r1 (Heap.IsSliceOf.new ..) pl pu q3
 show wpAny (model X.prog X.w) X.A (subscriptTail e (.Slice lo hi none p2) v (.ref s3.heap.objs.size)) (EP X pins σ Q) X.xe { s3 with heap:=s3.heap.push { cls:=.type "slice",data:=.fields #[vl,vu,.none] } }
 exact tail_any (ops:=[.ref s3.heap.objs.size,v]) ht hT hg (by with_unfolding_all rfl)
def Fj(xs:List V)(lo hi:Option Int):List V:=(xs.drop (HT.cZ xs.length 0 lo)).take (HT.cZ xs.length xs.length hi - HT.cZ xs.length 0 lo)
theorem tG(xs:List V)(lo hi:Option Int):(Fj xs lo hi).length<=xs.length:=by
 unfold Fj
 rw[jV,qH]
 omega
def MC(K:W.Frag):V->Option Int->Option Int->Hp->VK->Prop:=fun x lo hi H Q=>∃a xs,x=.ref a/\gK K H a xs /\
 ¬ (HT.cZ xs.length 0 lo=0/\HT.cZ xs.length xs.length hi=xs.length)/\∀p,H p=none->Q (.ref p) (upd H p (.tup (Fj xs lo hi)))
theorem IP:Hm X (MC X.K):=by
 intro pins s σ H x v vl vu lo hi sl Q I rx hs pl pu h
 obtain⟨a,xs,rfl,hx,hw,q⟩:=h
 cases rx
 obtain⟨its,r,ht,hz⟩:=I.tuple hx
 have hlen:its.toArray.size=xs.length:=by rw[zH];exact r.length.symm
 refine⟨"tuple",_,PyProof.Rows.slot_tuple_getitem.lookup,ht.typeIs,?_⟩
 refine HT.lN ht hs pl pu (by rw[hlen];exact hw) ?_ (by rw[hlen];exact hz)
 rw[hlen]
 refine⟨.ref s.heap.objs.size,_,I.laid (t':=s.toks) (o:=.tup (Fj xs lo hi)) (fun b ob q=>zU _ q) (yM _) ?_,rfl,q _ (I.hok.fresh (yM _))⟩
 exact⟨yD (tG xs lo hi) hz,_,(r.drop (HT.cZ xs.length 0 lo)).take (HT.cZ xs.length xs.length hi - HT.cZ xs.length 0 lo),n5.new _ _⟩
def Mq(K:W.Frag):R2:=fun x y H Q=>∃a b ns ms,x=.ref a/\y=.ref b/\gK K H a (ns.map V.int)/\gK K H b (ms.map V.int)/\Q (.bl (HT.lexLt ns ms)) H
theorem sv(hu:X.A.units < cLine):gz X (compareOp .Lt) (Mq X.K):=by
 intro pins s σ H x y v u Q I rx ry h
 obtain⟨a,b,ns,ms,rfl,rfl,ha,hb,q⟩:=h
 cases rx
 cases ry
 obtain⟨its,r1,p1,_⟩:=I.tuple ha
 obtain⟨its2,r2,p2,_⟩:=I.tuple hb
 have i1:IntsAre its.toArray.toList ns:=intsAre_of r1
 have i2:IntsAre its2.toArray.toList ms:=intsAre_of r2
 exact HT.o4 p1 p2 i1 i2 hu ⟨.bl (HT.lexLt ns ms),H,I,rfl,q⟩
def KI(K:W.Frag):R2:=fun x y H Q=>∃a b xs ys,x=.ref a/\y=.ref b/\gK K H a xs/\gK K H b ys/\xs≠[]/\xs.length+ys.length<=sizeLine /\
 (ys=[]->Q (.ref a) H)/\(ys≠[]->∀p,H p=none->Q (.ref p) (upd H p (.tup (xs++ys))))
theorem aF.nil_iff(r:aF xs us):us=[]↔xs=[]:=by
 cases r with
 | nil=>simp
 | cons _ _=>simp
theorem FD:gz X (binaryOp .Add) (KI X.K):=by
 intro pins s σ H x y v u Q I rx ry h
 obtain⟨a,b,xs,ys,rfl,rfl,ha,hb,hx,hz,q1,q2⟩:=h
 cases rx
 cases ry
 obtain⟨its,r1,p1,_⟩:=I.tuple ha
 obtain⟨its2,r2,p2,_⟩:=I.tuple hb
 refine HT.Ga p1 p2 (fun z=>hx (r1.nil_iff.mp z)) (fun z=>⟨.ref a,H,I,rfl,q1 (r2.nil_iff.mp z)⟩) (fun z=>?_) (by rw[<- r1.length,<- r2.length];exact hz)
 refine⟨.ref s.heap.objs.size,_,I.laid (t':=s.toks) (o:=.tup (xs++ys)) (fun b ob q=>zU _ q) (yM _) ?_,rfl,q2 (fun w=>z (r2.nil_iff.mpr w)) _ (I.hok.fresh (yM _))⟩
 exact⟨by rw[zN];exact hz,_,r1.append r2,n5.new _ _⟩
end
def EW(n:Nat)(i:Int):Option Nat:=if 0<=i then (if i < n then some i.toNat else none) else if -(n:Int)<=i then some (i+n).toNat else none
def rM(xs:List α)(i:Int):Option α:=(EW xs.length i).bind fun j=>xs[j]?
theorem yx(h:EW n i=some j):seqIndex? i n=some j/\j < n/\-(n:Int)<=i/\i < n:=by
 unfold EW at h
 by_cases h0:0<=i
 ·rw[yL h0] at h
  by_cases h1:i < n
  ·rw[yL h1] at h
   have e:i.toNat=j:=xD h
   exact⟨by rw[seqIndex_of h0 h1,e],by omega,by omega,h1⟩
  ·rw[yN h1] at h;cases h
 ·rw[yN h0] at h
  by_cases h1:-(n:Int)<=i
  ·rw[yL h1] at h
   have e:(i+n).toNat=j:=xD h
   exact⟨by rw[seqIndex_neg (by omega) h1,e],by omega,h1,by omega⟩
  ·rw[yN h1] at h;cases h
theorem rE(h:rM xs i=some v):∃j,seqIndex? i xs.length=some j/\xs[j]?=some v/\j < xs.length/\-(xs.length:Int)<=i/\i < xs.length:=by
 unfold rM at h
 cases e:EW xs.length i with
 | none=>rw[e] at h;cases h
 | some j =>
  rw[e] at h
  obtain⟨h1,h2,h3,h4⟩:=yx e
  exact⟨j,h1,h,h2,h3,h4⟩
theorem sF{α:Type}{xs:List α}{j:Nat}{v:α}(h:xs[j]?=some v):rM xs (j:Int)=some v:=by
 have hj:j < xs.length:=(List.getElem?_eq_some_iff.mp h).1
 have e:EW xs.length (j:Int)=some j:=by
  unfold EW
  rw[yL (by omega),yL (by omega)];simp
 unfold rM;rw[e];exact h
def sk(b:Expr):Prop:=∀o i,subscripted b false o i=operate [o,i] (getItem o i)
def EY(X:Cx)(r:R2):Prop :=
 ∀ (value slice:Expr) (pins:List (Addr×Obj)) (s:Shared) (σ:St) (H:Hp) (x y:V) (v u:Value) (Q:VK),Inv X pins σ H s->RelV x v->RelV y u->r x y H Q ->
  subscripted slice false v u=operate [v,u] (getItem v u)->wpAny (model X.prog X.w) X.A (subscriptTail value slice v u) (EP X pins σ Q) X.xe s
def M5(X:Cx)(id:String)(r:V->List V->Hp->VK->Prop):Prop :=
 ∀ (pins:List (Addr×Obj)) (s:Shared) (σ:St) (H:Hp) (x:V) (xs:List V) (v:Value) (us:List Value) (Q:VK),Inv X pins σ H s->RelV x v->aF xs us->r x xs H Q ->
  wpAny (model X.prog X.w) X.A (call (.builtin id) (v::us)) (EP X pins σ Q) X.xe s
section
theorem EY.or(h:EY X r)(h':EY X r'):EY X (fun x y H Q=>r x y H Q\/r' x y H Q):=by
 intro value slice pins s σ H x y v u Q I rx ry q hs
 rcases q with q|q
 ·exact h value slice pins s σ H x y v u Q I rx ry q hs
 ·exact h' value slice pins s σ H x y v u Q I rx ry q hs
theorem KO(hr:EY X r)(ha:PE X a ta)(hb:PE X b tb)(hs:sk b):PE X (.Subscript a b pos) (Ky r ta tb):=by
 intro pins s σ H Q I h
 exact Subscript_ (JR ha hb I h fun v u s2 x y H2 I2 rx ry q=>hr a b pins s2 σ H2 x y v u Q I2 rx ry q (hs _ _))
def K9(K:W.Frag):R2:=fun x y H Q=>∃p xs i v,x=.ref p/\y=.int i/\gn K H p xs/\rM xs i=some v/\Q v H
def Ki(K:W.Frag):R2:=fun x y H Q=>∃p xs i v,x=.ref p/\y=.int i/\gK K H p xs/\rM xs i=some v/\Q v H
def Kp:R2:=fun x y H Q=>∃z i c,x=.str z/\y=.int i/\z.length<=sizeLine/\rM z.cps.toList i=some c/\Q (.str ⟨#[c]⟩) H
theorem FS:EY X (K9 X.K):=by
 intro value slice pins s σ H x y v u Q I rx ry h hs
 obtain⟨p,xs,i,z,rfl,rfl,hq,he,q⟩:=h
 cases rx
 obtain⟨t,rfl⟩:=ry
 obtain⟨its,r,pl,hz⟩:=I.list hq
 obtain⟨j,h1,h2,h3,h4,h5⟩:=rE he
 obtain⟨w,ew,rw'⟩:=r.get h2
 have hl:=r.length
 have hn:=oH
 have fin:EP X pins σ Q w s:=⟨z,H,I,rw',q⟩
 by_cases h0:0<=i
 ·have hj:i.toNat=j:=by
   rw[seqIndex_of h0 h5] at h1
   exact xD h1
  exact item_listR pl.isList h0 (by omega) (by rw[hj];simpa using ew) fin hs
 ·have hj:(i+(its.toArray.size:Int)).toNat=j:=by
   rw[seqIndex_neg (by omega) h4] at h1
   rw[zH,<- hl]
   exact xD h1
  exact subscriptTail_builtinR (x:=w) pl.isList.typeIs slot_list_getitem.lookup
   (wpAny_getItem_list_neg (Q:=fun r s'=>r=w/\EP X pins σ Q r s') pl.isList (by omega) (by rw[zH]<;>omega) (by omega) (by rw[hj];simpa using ew) ⟨rfl,fin⟩) hs
theorem oS:EY X (Ki X.K):=by
 intro value slice pins s σ H x y v u Q I rx ry h hs
 obtain⟨p,xs,i,z,rfl,rfl,hq,he,q⟩:=h
 cases rx
 obtain⟨t,rfl⟩:=ry
 obtain⟨its,r,pl,hz⟩:=I.tuple hq
 obtain⟨j,h1,h2,h3,h4,h5⟩:=rE he
 obtain⟨w,ew,rw'⟩:=r.get h2
 have hl:=r.length
 have hn:=oH
 have fin:EP X pins σ Q w s:=⟨z,H,I,rw',q⟩
 exact subscriptTail_builtinR (x:=w) pl.typeIs slot_tuple_getitem.lookup
  (getItem_tuple (j:=j) (Q:=fun r s'=>r=w/\EP X pins σ Q r s') pl (by omega) (by omega) (by rw[zH,<- hl];exact h1) (by simpa using ew) ⟨rfl,fin⟩) hs
theorem Jf:EY X Kp:=by
 intro value slice pins s σ H x y v u Q I rx ry h hs
 obtain⟨z,i,c,rfl,rfl,hz,he,q⟩:=h
 obtain⟨t,rfl⟩:=rx
 obtain⟨t',rfl⟩:=ry
 obtain⟨j,h1,h2,h3,h4,h5⟩:=rE he
 have hl:z.cps.toList.length=z.length:=by simp[Str.length]
 rw[hl] at h1 h4 h5
 have hn:=oH
 exact tail_any (typeIs_str s z t) slot_str_getitem.lookup (getItem_str (c:=c) (by
  have e1:decide (i < -(2 ^ 63:Int))=false:=zZ (by omega)
  have e2:decide (i >= 2 ^ 63)=false:=zZ (by omega)
  rw[e1,e2,Bool.or_false]) (by rw[h1];simpa using h2) ⟨.str ⟨#[c]⟩,H,I.tok _,⟨_,rfl⟩,q⟩) hs
def M0(K:W.Frag):R2:=fun x y H Q=>K9 K x y H Q\/Ki K x y H Q\/Kp x y H Q
theorem JO:EY X (M0 X.K):=FS.or (oS.or Jf)
theorem vp(its:List Value)(n j:Nat)(u:Value):Obj.mapSeq (·.setIfInBounds j u) { cls:=.type "list",data:=.seq its.toArray n }={ cls:=.type "list",data:=.seq (its.set j u).toArray n }:=by
 simp[Obj.mapSeq]
theorem Inv.lst(I:Inv X pins σ H s)(h:H p=some (.lst xs)) :
  ∃ (its:List Value) (n:Nat),aF xs its/\s.heap.get? p=some { cls:=.type "list",data:=.seq its.toArray n }/\xs.length<=sizeLine:=by
 obtain⟨z,its,n,r,e⟩:=I.hok p _ h
 exact⟨its,n,r,e,z⟩
theorem Inv.lstUpd{ys:List V}{its its':List Value}{n n':Nat}{f:Obj->Obj}(I:Inv X pins σ H s)(h:H p=some (.lst xs))
  (ho:s.heap.get? p=some { cls:=.type "list",data:=.seq its.toArray n }) (hf:f { cls:=.type "list",data:=.seq its.toArray n }={ cls:=.type "list",data:=.seq its'.toArray n' }) (r:aF ys its') (hz:ys.length<=sizeLine) (t:Nat) :
  Inv X pins σ (upd H p (.lst ys)) { s with heap:=s.heap.update p f,toks:=t }:=by
 have e:(s.heap.update p f).get? p=some { cls:=.type "list",data:=.seq its'.toArray n' }:=by
  rw[Heap.get?_update_self f ho (by rw[hf]<;>rfl),hf]
 refine I.write (x:=p) (e:=p) (by rw[h];trivial) (.inl rfl) (fun b u hb q=>(xN _ _ (jM hb)).trans q) ⟨_,e⟩ ?_
 exact⟨hz,its',n',r,e⟩
def Ku:V->V->V->Hp->(Hp->Prop)->Prop:=fun o i v H Q=>∃p xs k j,o=.ref p/\i=.int k/\H p=some (.lst xs)/\EW xs.length k=some j/\Q (upd H p (.lst (xs.set j v)))
theorem set_list:Le X Ku:=by
 intro pins s σ H o i v ov iv u Q I ro ri rv h
 obtain⟨p,xs,k,j,rfl,rfl,hp,hj,q⟩:=h
 cases ro
 obtain⟨t,rfl⟩:=ri
 obtain⟨its,n,r,ho,hz⟩:=I.lst hp
 obtain⟨h1,h2,h3,h4⟩:=yx hj
 have hl:=r.length
 have hn:=oH
 have I':Inv X pins σ (upd H p (.lst (xs.set j v))) { s with heap:=s.heap.update p (Obj.mapSeq (·.setIfInBounds j u)) } :=
  I.lstUpd hp ho (vp its n j u) (r.set rv j) (by rw[yC];exact hz) s.toks
 by_cases h0:0<=k
 ·have hk:k.toNat=j:=by
   rw[seqIndex_of h0 h4] at h1
   exact xD h1
  exact W.ki_setAt ho h0 (by omega) (by rw[zH,<- hl];exact h4) (by rw[hk];exact⟨_,I',q⟩)
 ·have hk:(k+(its.toArray.size:Int)).toNat=j:=by
   rw[seqIndex_neg (by omega) h3] at h1
   rw[zH,<- hl]
   exact xD h1
  exact W.ki_setBack ho (by omega) (by rw[zH,<- hl];exact h3) (by omega) (by rw[hk];exact⟨_,I',q⟩)
theorem rW:du X (.builtin "len") (fun xs H Q=>∃p ys,xs=[.ref p]/\(gn X.K H p ys\/gK X.K H p ys)/\Q (.int ys.length) H):=by
 intro pins s σ H xs us Q I r h
 obtain⟨p,ys,rfl,hq,q⟩:=h
 obtain⟨u,rfl,rx⟩:=vals1 r
 cases rx
 have hn:=oH
 rcases hq with hq|hq
 ·obtain⟨its,r',pl,hz⟩:=I.list hq
  have hlen:=r'.length
  exact Calls.call_len_list pl.isList (by simp only[zH]<;>omega) ⟨.int ys.length,H,I.tok _,⟨s.toks+1,by rw[zH,hlen]⟩,q⟩
 ·obtain⟨its,r',pl,hz⟩:=I.tuple hq
  have hlen:=r'.length
  exact len_tuple pl (by simp only[zH]<;>omega) ⟨.int ys.length,H,I.tok _,⟨s.toks+1,by rw[zH,hlen]⟩,q⟩
theorem pK:du X (.type "tuple") (fun xs H Q=>∃p ys,xs=[.ref p]/\((gn X.K H p ys/\∀l,H l=none->Q (.ref l) (upd H l (.tup ys)))\/(gK X.K H p ys/\Q (.ref p) H))):=by
 intro pins s σ H xs us Q I r h
 obtain⟨p,ys,rfl,h⟩:=h
 obtain⟨u,rfl,rx⟩:=vals1 r
 cases rx
 rcases h with ⟨hq,q⟩|⟨hq,q⟩
 ·obtain⟨its,r',pl,hz⟩:=I.list hq
  have hlen:=r'.length
  refine call_tuple_list pl.isList (fun h' kp=>?_) (by simp only[zH]<;>omega)
  have I1:Inv X pins σ H { s with heap:=h' }:=I.kept (t':=s.toks) kp
  have I2:Inv X pins σ (upd H h'.objs.size (.tup ys)) { s with heap:=h'.push { cls:=.type "tuple",data:=.seq its.toArray } } :=
   I1.laid (t':=s.toks) (fun b o e=>zU _ e) (yM _) (show dv X.prog X.w _ _ _ (.tup ys) from ⟨hz,its,r',n5.new _ _⟩)
  exact⟨.ref h'.objs.size,_,I2,rfl,q _ (I1.hok.fresh (yM _))⟩
 ·obtain⟨its,r',pl,hz⟩:=I.tuple hq
  exact call_tuple_same pl ⟨.ref p,H,I,rfl,q⟩
def M4(K:W.Frag)(T:String)(x:V)(H:Hp):Prop:=match x with
 | .str _=>T="str"
 | .int _=>T="int"
 | .ref p=>(T="list"/\∃xs,gn K H p xs)\/(T="tuple"/\∃xs,gK K H p xs) \/
   (T="dict"/\((∃kvs,H p=some (.dK kvs))\/∃kvs,H p=some (.dT kvs)))\/(T="set"/\∃S n,H p=some (.set S n))
 | _=>False
theorem IF(I:Inv X pins σ H s)(r:RelV x v)(ty:M4 X.K T x H) :
  s.TypeIs v T/\∀a,v=.ref a->∃ob,s.heap.get? a=some ob/\ob.dict=none:=by
 cases x with
 | str z =>
  obtain⟨t,rfl⟩:=r
  cases (show T="str" from ty)
  exact⟨typeIs_str s z t,fun _ e=>nomatch e⟩
 | int i =>
  obtain⟨t,rfl⟩:=r
  cases (show T="int" from ty)
  exact⟨typeIs_int s i t,fun _ e=>nomatch e⟩
 | ref p =>
  cases r
  rcases ty with ⟨rfl,xs,hq⟩|⟨rfl,xs,hq⟩|⟨rfl,hk⟩|⟨rfl,S,n,hk⟩
  ·obtain⟨its,_,pl,_⟩:=I.list hq
   refine⟨pl.isList.typeIs,fun a e=>?_⟩
   cases e
   obtain⟨o,n,e,c,hd,_⟩:=pl
   exact⟨o,e,hd⟩
  ·rcases hq with hq|⟨o,its,n,hk,hc,hd,_⟩
   ·obtain⟨_,_,_,⟨o,e1,e2,_⟩,o2,e3,e4⟩:=hq.ok I.hok
    exact⟨⟨o,e1,e2⟩,fun a e=>by cases e;exact⟨o2,e3,e4⟩⟩
   ·exact⟨⟨o,I.kIn p o hk,hc⟩,fun a e=>by cases e;exact⟨o,I.kIn _ o hk,hd⟩⟩
  ·have z:∃o,s.heap.get? p=some o/\o.ExactDict:=by
    rcases hk with ⟨kvs,hk⟩|⟨kvs,hk⟩
    ·obtain⟨_,_,_,_,o,_,_,e,ex,_⟩:=I.hok p _ hk
     exact⟨o,e,ex⟩
    ·obtain⟨_,_,_,_,o,_,_,e,ex,_⟩:=I.hok p _ hk
     exact⟨o,e,ex⟩
   obtain⟨o,e,ex⟩:=z
   refine⟨⟨o,e,ex.1⟩,fun a e2=>?_⟩
   cases e2
   exact⟨o,e,ex.2.1⟩
  ·obtain⟨o,_,_,_,e,ex,_⟩:=I.hok p _ hk
   refine⟨⟨o,e,ex.1⟩,fun a e2=>?_⟩
   cases e2
   exact⟨o,e,ex.2.1⟩
 | _=>exact False.elim ty
def Ng(K:W.Frag)(T:String)(r:V->List V->Hp->VK->Prop)(to:TE)(t:TA):TE:=fun σ H Q=>to σ H fun x H1=>M4 K T x H1/\t σ H1 fun xs H2=>r x xs H2 Q
variable {T id:String}
theorem uO(pa:PlainAttrs T)(slot:Slot T name id)(hty:typeOf (.builtin id)=pure (.type "method_descriptor"))(hm:M5 X id r)(ho:PE X o to)(ha:PA X (e::es) t)
  (hbase:attributeBase o name X.env (eval o X.env)=eval o X.env:=by rfl)
  (hfew:((backTo cpos (starEach (e::es) X.env)).all (fun x=>!x.1)&&(backToKw cpos (keywordEach [] X.env)).all (fun x=>x.1.isSome)
   &&decide ((e::es).length+([]:List Keyword).length+(if ([]:List Keyword).isEmpty then 0 else 1) < 30))=true:=by rfl)
  (hline:(apos.endLine == cpos.line)=true:=by rfl) (hs:starEach (e::es) X.env=(false,eval e X.env)::starEach es X.env:=by rfl) (hplain:(backTo cpos (starEach es X.env)).any (·.1)=false:=by rfl) :
  PE X (.Call (.Attribute o name apos) (e::es) [] cpos) (Ng X.K T r to t):=by
 intro pins s σ H Q I h
 refine wpAny_Call_method_late hbase hfew hline rfl (bW (ho pins s σ H _ I h) fun v s1 ⟨x,H1,I1,r1,ty,q1⟩=>?_)
 obtain⟨h1,h2⟩:=IF I1 r1 ty
 refine⟨T,id,pa,slot,hty,h1,h2,?_⟩
 have hA:=ha cpos pins s1 σ H1 _ I1 q1
 rw[hs] at hA ⊢
 refine Calls.callWith_builtin (by show (false||(backTo cpos (starEach es X.env)).any (·.1))=false;rw[hplain]<;>rfl) (Calls.evalArgs_plain ?_)
 exact bW hA fun us s2 ⟨vs,H2,I2,r2,q2⟩=>hm pins s2 σ H2 x vs v us Q I2 r1 r2 q2
/- xs.append(e),list.index on a module's tuple .. are M5 facts of 06m -/
end
def LA(X:Cx)(id:String)(r:V->List V->Hp->VK->Prop):Prop :=
 ∀ (pins:List (Addr×Obj)) (s:Shared) (σ:St) (H:Hp) (x:V) (xs:List V) (v:Value) (us:List Value) (Q:VK),Inv X pins σ H s->RelV x v->aF xs us->r x xs H Q ->
  wpAny (model X.prog X.w) X.A (call (.builtin id) (v::us)) (EP X pins σ Q) X.xe s
theorem aF.one:∀ {x:V}{us:List Value},aF [x] us->∃u,us=[u]/\RelV x u
 | _,_,.cons r .nil=>⟨_,rfl,r⟩
theorem aF.two:∀ {x y:V}{us:List Value},aF [x,y] us->∃u v,us=[u,v]/\RelV x u/\RelV y v
 | _,_,_,.cons r (.cons q .nil)=>⟨_,_,rfl,r,q⟩
theorem aF.rep(h:aF xs us):∀k:Nat,aF (List.replicate k xs).flatten (List.replicate k us).flatten
 | 0=>.nil
 | k+1=>by
  rw[xE,xE,qM,qM]
  exact aF.append h (aF.rep h k)
theorem foldl_rep(its:List Value):∀ (k:Nat) (acc:List Value),
  List.foldl (fun x1 x2=>x1++x2) acc.toArray (List.replicate k its.toArray)=(acc++(List.replicate k its).flatten).toArray
 | 0,acc=>by simp
 | k+1,acc=>by
  have e:acc.toArray++its.toArray=(acc++its).toArray:=by simp
  have e2:(acc++its)++(List.replicate k its).flatten=acc++(List.replicate (k+1) its).flatten:=by
   rw[xE,qM,List.append_assoc]
  rw[<- e2,<- foldl_rep its k (acc++its),<- e,xE,yI]
section
variable {xs ys zs:List V}
theorem Inv.lset{its its':List Value}{n:Nat}{f:Array Value->Array Value}{t':Nat}(I:Inv X pins σ H s)(hH:H l=some (.lst xs))
  (e:s.heap.get? l=some { cls:=.type "list",data:=.seq its.toArray n }) (hf:f its.toArray=its'.toArray) (hv:aF ys its') (hz:ys.length<=sizeLine) :
  Inv X pins σ (upd H l (.lst ys)) { s with heap:=s.heap.update l (Obj.mapSeq f),toks:=t' }:=by
 have q:=PySem.IsL.update e f
 rw[hf] at q
 refine I.write (x:=l) (e:=l) (by rw[hH];exact trivial) (.inl rfl) (fun b' u hb hu=>(xN s.heap (Obj.mapSeq f) (jM hb)).trans hu) ⟨_,q⟩ ?_
 exact⟨hz,its',_,hv,q⟩
theorem Inv.lnew{t':Nat}(I:Inv X pins σ H s)(hv:aF ys its)(hz:ys.length<=sizeLine) :
  Inv X pins σ (upd H s.heap.objs.size (.lst ys)) { s with heap:=s.heap.push { cls:=.type "list",data:=.seq its.toArray },toks:=t' } :=
 I.laid (fun _ _ q=>zU _ q) (yM _) ⟨hz,its,0,hv,zX _ rfl⟩
theorem Inv.fresh(I:Inv X pins σ H s):H s.heap.objs.size=none:=I.hok.fresh (yM _)
theorem Inv.lstM(I:Inv X pins σ H s)(hH:H l=some (.lst xs)):xs.length<=sizeLine/\∃ (its:List Value) (n:Nat),aF xs its/\xs.length=its.length/\s.heap.get? l=some { cls:=.type "list",data:=.seq its.toArray n }:=by
 obtain⟨z,its,n,r,e⟩:=I.hok l _ hH
 exact⟨z,its,n,r,r.length,e⟩
theorem D9(h:n<=sizeLine):Builtin.List.listTooLong n=false:=by
 unfold Builtin.List.listTooLong
 exact zZ (by omega)
end
section
def F7:V->List V->Hp->VK->Prop:=fun x vs H Q=>∃l xs y,x=.ref l/\vs=[y]/\H l=some (.lst xs)/\xs.length < sizeLine/\Q .non (upd H l (.lst (xs++[y])))
theorem qb:LA X "list.append" F7:=by
 intro pins s σ H x vs v us Q I rx rv h
 obtain⟨l,xs,y,rfl,rfl,hH,hz,q⟩:=h
 cases rx
 obtain⟨u,rfl,ru⟩:=rv.one
 obtain⟨z,its,n,r,hl,e⟩:=I.lstM hH
 refine qX F.slot_list_append ⟨_,e,rfl⟩ F.entry_list_append (F.args_list_append_2 _ _) (PySem.list_append l its.toArray n u (by rw[zH];omega)) ⟨e,?_⟩
 refine⟨.non,_,I.lset (its':=its++[u]) hH e (by simp) (r.append (.cons ru .nil)) ?_,rfl,q⟩
 rw[zN,xC]
 omega
def GX:V->List V->Hp->VK->Prop:=fun x vs H Q=>∃l b xs zs,x=.ref l/\vs=[.ref b]/\H l=some (.lst xs)/\H b=some (.lst zs)/\xs.length+zs.length<=sizeLine/\Q .non (upd H l (.lst (xs++zs)))
theorem A4:LA X "list.extend" GX:=by
 intro pins s σ H x vs v us Q I rx rv h
 obtain⟨l,b,xs,zs,rfl,rfl,hH,hB,hz,q⟩:=h
 cases rx
 obtain⟨u,rfl,ru⟩:=rv.one
 cases ru
 obtain⟨z,its,n,r,hl,e⟩:=I.lstM hH
 obtain⟨z2,its2,n2,r2,hl2,e2⟩:=I.lstM hB
 have hsz:its.toArray.size+its2.toArray.size<=sizeLine:=by rw[zH,zH];omega
 have hlong:¬ (!its.toArray.isEmpty&&Builtin.List.listTooLong (its.toArray.size+its2.toArray.size))=true:=by
  rw[D9 hsz,kX]
  exact yZ
 refine qX F.slot_list_extend ⟨_,e,rfl⟩ F.entry_list_extend (F.args_list_extend_2 _ _)
  (AutoSeq1.list_extend_list_list_0 l its.toArray n b its2.toArray n2 hlong (by rw[zH];omega) (by omega)) ⟨e,e2,?_⟩
 refine⟨.non,_,I.lset (its':=its++its2) hH e (by simp) (r.append r2) ?_,rfl,q⟩
 rw[zN]
 omega
theorem len_rep(xs:List α)(k:Nat):(List.replicate k xs).flatten.length=k * xs.length:=by
 induction k with
 | zero=>simp
 | succ k ih=>rw[xE,qM,zN,ih,Nat.succ_mul,Nat.add_comm]
end
section
end
section
end
end L2
namespace Att
open PySem PySem.W PySem.Calls PyProof.Rows
theorem ints_of_wellAll:∀ (ns:List Int) (vs:List Value),WellAll P h vs (ns.map WData.int)->IntsAre vs ns:=by
 intro ns
 induction ns with
 | nil =>
  intro vs w
  rw[yU] at w
  cases w
  exact .nil
 | cons n ns ih =>
  intro vs w
  rw[zI] at w
  cases w with
  | cons a b =>
   cases a
   exact .cons _ _ (ih _ b)
theorem script_of{l:OpenLaw}{n:Nat}(hn:l.most=some n){P:Params}{h:Heap}{args:List WData}{vals:List Value}
  (hpre:l.row.toRowW.claim.pre args=true) (hwl:WellAll P h vals args) :
  ∃a vs ns,vals=[Value.ref a]/\args=[WData.list (ns.map WData.int)]/\h.get? a=some { cls:=.type "list",data:=.seq vs.toArray }/\IntsAre vs ns/\ns.length<=n:=by
 have hsh:WShape.hasAll [] args [.list .int]=true:=(pre_splitW hpre).1
 have hc:l.pre.holds [] { args:=args }=true:=(pre_splitW hpre).2
 obtain⟨d,r,rfl,h1,h2⟩:=hasAllW_cons hsh
 obtain rfl:=hasAllW_nil h2
 obtain⟨xs,rfl,h3⟩:=hasW_list h1
 obtain⟨ns,rfl⟩:=items_int h3
 have hlen:ns.length<=n:=by
  unfold OpenLaw.pre at hc
  have h4:(WTm.not (.lt (.lit (.int (n:Int))) (.len (.arg 0)))).holds [] { args:=[.list (ns.map .int)] }=true:=by
   have h4:=(holds_andW hc).1
   rw[hn] at h4
   exact h4
  have h5:=condW_of h4 (w_not (w_lt w_lit (w_len_list (w_arg rfl))))
  rw[zD] at h5
  refine Nat.le_of_not_lt fun q=>?_
  have q':(n:Int) < ((ns.length:Nat):Int):=by omega
  first
   | (rw[yA q'] at h5;exact absurd h5 (by decide))
   | (simp at h5;omega)
 cases hwl with
 | cons w1 w2 =>
  cases w2
  cases w1 with
  | list ho hall=>exact⟨_,_,ns,rfl,rfl,ho,ints_of_wellAll ns _ hall,hlen⟩
theorem post_true(l:OpenLaw)(args:List WData):l.row.toRowW.claim.post args (.bool true) args=true :=
 postW_of (r:=l.row.toRowW) (X:=(true == true))
  (show WShape.has [] (.bool true) .bool=true by first|rfl|decide|simp[WShape.has,WShape.arms,WShape.armsAll])
  (show (WTm.eq .res (.lit (.bool true))).value [] { args:=args,res:=some (.bool true),after:=args }=some (.bool (true == true)) from w_eq_bool (w_res rfl) w_lit) rfl
theorem attach_call{l:OpenLaw}{n:Nat}{q:Program}{loose:List Str}{XP:(Str->Option Value)->Heap->Prop}{YP:World->Heap->Prop}{d:DefRec}
  (hn:l.most=some n) (hdf:d.params.defaults=[])
  (call:∀ (w:World) (s₀ s₁:Shared) (mg mb:Str->Option Value) (fa:Addr) (o:Obj) (pm cd doc:Value) (a:Addr) (vs:List Value) (ns:List Int),
   Ground q loose [] XP w s₀ mg mb s₁.heap->YP w s₁.heap ->
   s₁.heap.get? fa=some o->o.data=.func (docDef d.name d.params d.body d.scope pm cd doc)->s₁.heap.CodeRec cd d.name->mg d.name=some (.ref fa) ->
   s₁.heap.get? a=some { cls:=.type "list",data:=.seq vs.toArray }->IntsAre vs ns->ns.length<=n->s₁.gens=#[] ->
   codeAny (model l.prog w) callerA (.call (.ref fa) ⟨[.ref a],[]⟩) (fun r s'=>r=.ok (.ret (.bool true))/\OldK s₁.heap s'.heap/\s'.os=s₁.os/\AllBare s'.gens) s₁) :
  WalkO q loose XP YP l.row.toRowW d [] (fun f vs=>PySem.call f vs):=by
 intro w s₀ s₁ mg mb G Y fa o pm cd doc dV kV ho hd hcd hD hmg hg args vals as hpre hlay hrd hwl hlo
 obtain rfl:dV=.none:=Dflts.none hD hdf
 obtain rfl:kV=.none:=Dflts.noKw hD
 obtain⟨a,vs,ns,rfl,rfl,hobj,hints,hlen⟩:=script_of hn hpre hwl
 refine enter_call (jR (call w s₀ s₁ mg mb fa o pm cd doc a vs ns G Y ho (fd_plain hd) hcd hmg hobj hints hlen hg) fun r s' hq=>?_)
 obtain⟨rfl,h2,h3,h4⟩:=hq
 exact⟨.inl ⟨.bool true,.bool true,[],rfl,fun _=>rfl,.bool true,post_true l _,fun _=>⟨List.Pairwise.nil,fun _ hm=>(nomatch hm)⟩⟩,h2,h3,h4⟩
section
variable {K:Frag}
end
end Att
namespace L2
open PySem PySem.Spec PyProof.Rows
theorem gc:∀ {vs:List Value}{ns:List Int},IntsAre vs ns->aF (ns.map V.int) vs
 | _,_,.nil=>.nil
 | _,_,.cons n t h=>.cons ⟨t,rfl⟩ (gc h)
abbrev Kb:Ha:=fun _ _ _ _ _ _=>False
abbrev E0:XK:=fun _ _ _=>False
theorem KZ:wY Kb X E0:=fun _ _ _ _ _ _ _ h=>h.elim
structure FA(K:W.Frag)(x qual:Str)(st:Stmt)(f:Addr)(fd:FuncData):Prop where
 ex:∃ (oc:Value) (od:Option Addr) (kV doc pm:Value) (an:Option Addr) (cdv ct:Value) (osl:Array (Option Value)),
  fd=W.fnOf x qual (eM st) (bK st) (aD st) .none kV doc pm an cdv ct/\K.lookup f=some ⟨oc,od,.func fd,osl⟩/\W.codeIn K cdv qual=true
 kp:W.keepIn K (.ref f)=true
section
variable {K:W.Frag}
theorem FA.binds{st:Stmt}(F:FA K x qual st f fd)
  (h:∀ (kV doc pm:Value) (an:Option Addr) (cdv ct:Value) (us:List Value),us.length=ps.length->bindArgs (W.fnOf x qual (eM st) (bK st) (aD st) .none kV doc pm an cdv ct) ⟨us,[]⟩=pure (ps.zip us)):Binds K fd ps []:=by
 obtain⟨oc,od,kV,doc,pm,an,cdv,ct,osl,rfl,lk,hcd⟩:=F.ex
 exact .all (h kV doc pm an cdv ct)
theorem sJ{st:Stmt}{kV:Value}(l:K.lookup f=some ⟨oc,od,.func (W.fnOf x qual (eM st) (bK st) (aD st) .none kV doc pm an cdv ct),osl⟩)
  (c:W.codeIn K cdv qual=true) (k:W.keepIn K (.ref f)=true):FA K x qual st f (W.fnOf x qual (eM st) (bK st) (aD st) .none kV doc pm an cdv ct):=⟨⟨oc,od,kV,doc,pm,an,cdv,ct,osl,rfl,l,c⟩,k⟩
end
section
end
theorem tQ{A B:Prop}(h:B):if false=true then A else B:=by
 rw[yN yZ]
 exact h
theorem uA{A B:Prop}(h:A):if true=true then A else B:=by
 rw[yL rfl]
 exact h
def aQ(H H':Hp):Prop:=∀b o,H b=some o->H' b=some o
theorem aQ.refl(H:Hp):aQ H H:=fun _ _ h=>h
theorem aQ.trans(a:aQ H H1)(b:aQ H1 H2):aQ H H2:=fun c o h=>b c o (a c o h)
theorem aQ.free(e:aQ H H')(h:H' l=Option.none):H l=Option.none:=by
 cases q:H l with
 | none=>rfl
 | some o =>
  rw[e l o q] at h
  cases h
theorem aQ.seq{K:W.Frag}(e:aQ H H')(h:gn K H a xs):gn K H' a xs:=by
 rcases h with (h|⟨o,h⟩)|h
 ·exact .inl (.inl (e _ _ h))
 ·exact .inl (.inr ⟨o,e _ _ h⟩)
 ·exact .inr h
theorem bI:∀ (names:List (Str×NameKind)) (n:Nat) (acc:List (Str×Addr)),cellsFrom n names acc=cellsFrom n names []++acc
 | [],_,_=>rfl
 | (name,kind)::r,n,acc=>by
  unfold cellsFrom
  split
  ·rw[bI r (n+1) ((name,n)::acc),bI r (n+1) [(name,n)]]
   simp
  ·exact bI r n acc
theorem iw:∀ {l m:List (Str×α)},(l++m).lookup x=some c->l.lookup x=some c\/(l.lookup x=none/\m.lookup x=some c)
 | [],_,h=>.inr ⟨rfl,h⟩
 | (k,v)::r,m,h=>by
  have ih:=@iw α x c r m
  rw[xF,yB] at h
  rw[yB]
  cases e:x == k with
  | true=>rw[e] at h;exact .inl h
  | false=>rw[e] at h;exact ih h
theorem iA:∀ {l m:List (Str×α)},l.lookup x=some c->(l++m).lookup x=some c
 | [],_,h=>by cases h
 | (k,v)::r,m,h=>by
  have ih:=@iA α x c r m
  rw[yB] at h
  rw[xF,yB]
  cases e:x == k with
  | true=>rw[e] at h;exact h
  | false=>rw[e] at h;exact ih h
theorem gw:∀ {l m:List (Str×α)},l.lookup x=none->(l++m).lookup x=m.lookup x
 | [],_,_=>rfl
 | (k,v)::r,m,h=>by
  have ih:=@gw α x r m
  rw[yB] at h
  rw[xF,yB]
  cases e:x == k with
  | true=>rw[e] at h;cases h
  | false=>rw[e] at h;exact ih h
theorem fH:∀ (names:List (Str×NameKind)) (n:Nat) (x:Str) (c:Addr),(x,c)∈cellsFrom n names []->(x,NameKind.cell)∈names
 | [],_,_,_,h=>by cases h
 | (name,kind)::r,n,x,c,h=>by
  unfold cellsFrom at h
  split at h
  ·rename_i hk
   rw[bI] at h
   rcases List.mem_append.mp h with h|h
   ·exact zC _ (fH r _ x c h)
   ·have:(x,c)=(name,n):=by simpa using h
    cases this
    have:kind=.cell:=by simpa using hk
    subst this
    exact zE
  ·exact zC _ (fH r n x c h)
def dU(env:Env):List (Str×NameKind)->List (Str×Addr)->List (Str×Addr)
 | [],acc=>acc
 | (n,k)::r,acc=>if k == .free then dU env r ((n,(env.cells.lookup n).getD 0)::acc) else dU env r acc
theorem kg(env:Env):∀ (names:List (Str×NameKind)) (acc:List (Str×Addr)),(∀x∈names,x.2=.free->∃c,env.cells.lookup x.1=some c) ->
  (forIn names acc (fun (p:Str×NameKind) (cs:List (Str×Addr))=>(if p.2 == .free then (do let a <- cellOf env p.1;pure (.yield ((p.1,a)::cs))) else pure (.yield cs):Sem (ForInStep (List (Str×Addr))))))=pure (dU env names acc)
 | [],acc,_=>rfl
 | (n,k)::r,acc,h=>by
  rw[List.forIn_cons]
  have hr:=fun x hx=>h x (zC _ hx)
  unfold dU
  by_cases hk:k=.free
  ·obtain⟨c,hc⟩:=h (n,k) zE hk
   subst hk
   have e1:cellOf env n=pure c:=by
    have hc':env.cells.lookup n=some c:=hc
    unfold cellOf;rw[hc']
   have hc':env.cells.lookup n=some c:=hc
   simp only[beq_self_eq_true,xH,e1,pure_bind,hc',qG]
   exact kg env r _ hr
  ·have hb:(k == NameKind.free)=false:=by simpa using hk
   simp only[hb,yO,qP,pure_bind]
   exact kg env r _ hr
theorem k4{env:Env}(h:∀x∈scope.names,x.2=.free->∃c,env.cells.lookup x.1=some c):closureFor scope env=pure (dU env scope.names []):=by
 have:=kg env scope.names [] h
 unfold closureFor
 exact (bind_pure _).trans this
theorem jh{env:Env}:∀ {names:List (Str×NameKind)}{acc:List (Str×Addr)},(∀x∈names,x.2=.free->∃c,env.cells.lookup x.1=some c)->(∀x c,(x,c)∈acc->env.cells.lookup x=some c) ->
  ∀x c,(x,c)∈dU env names acc->env.cells.lookup x=some c
 | [],acc,_,ha,x,c,hm=>ha x c hm
 | (n,k)::r,acc,h,ha,x,c,hm=>by
  unfold dU at hm
  have hr:=fun x hx=>h x (zC _ hx)
  split at hm
  ·rename_i hk
   have hk':k=.free:=by simpa using hk
   obtain⟨c',hc⟩:=h (n,k) zE hk'
   have hc:env.cells.lookup n=some c':=hc
   refine jh hr (fun y d hy=>?_) x c hm
   rcases List.mem_cons.mp hy with e|hy
   ·cases e;rw[hc];rfl
   ·exact ha y d hy
  ·exact jh hr ha x c hm
theorem eW{env:Env}:∀ {names:List (Str×NameKind)}{acc:List (Str×Addr)}{x:Str},(names.lookup x=some .free\/∃c,acc.lookup x=some c)->∃c,(dU env names acc).lookup x=some c
 | [],acc,x,h=>by
  rcases h with h|h
  ·cases h
  ·exact h
 | (n,k)::r,acc,x,h=>by
  unfold dU
  split
  ·rename_i hk
   refine eW ?_
   rcases h with h|⟨c,h⟩
   ·rw[yB] at h
    cases e:x == n with
    | true=>exact .inr ⟨_,by rw[yB,e]⟩
    | false=>rw[e] at h;exact .inl h
   ·refine .inr ?_
    rw[yB]
    cases e:x == n with
    | true=>exact⟨_,rfl⟩
    | false=>exact⟨c,h⟩
  ·rename_i hk
   refine eW ?_
   rcases h with h|h
   ·rw[yB] at h
    cases e:x == n with
    | true =>
     rw[e] at h
     cases h
     exact absurd rfl hk
    | false=>rw[e] at h;exact .inl h
   ·exact .inr h
theorem lO{env:Env}:∀ {names:List (Str×NameKind)}{x:Str}{k:NameKind},names.lookup x=some k ->
  (names.map fun (n,k)=>if (k == NameKind.free&&env.scope.kind == .function&&env.kindOf n == some .cell) then (n,NameKind.cell) else (n,k)).lookup x=some (if (k == NameKind.free&&env.scope.kind == .function&&env.kindOf x == some .cell) then NameKind.cell else k)
 | [],_,_,h=>by cases h
 | (n,k)::r,x,k',h=>by
  have ih:=@lO env r x k'
  rw[zI]
  dsimp only
  cases hx:x == n with
  | true =>
   have e:x=n:=by simpa using hx
   subst e
   rw[yB,hx] at h
   cases h
   split<;>simp[yB, *]
  | false =>
   rw[yB,hx] at h
   have ih:=ih h
   split
   ·rw[yB,hx];exact ih
   ·rw[yB,hx];exact ih
theorem ni{env:Env}:∀ {names:List (Str×NameKind)}{x:Str},names.lookup x=none ->
  (names.map fun (n,k)=>if (k == NameKind.free&&env.scope.kind == .function&&env.kindOf n == some .cell) then (n,NameKind.cell) else (n,k)).lookup x=none
 | [],_,h=>rfl
 | (n,k)::r,x,h=>by
  have ih:=@ni env r x
  rw[zI]
  dsimp only
  cases hx:x == n with
  | true=>rw[yB,hx] at h;cases h
  | false =>
   rw[yB,hx] at h
   split
   ·rw[yB,hx];exact ih h
   ·rw[yB,hx];exact ih h
def d5(X:Cx)(scope:Scope)(C:Addr):Env :=
 { scope:=relabel scope X.env,locals:=C,globals:=X.env.globals,cells:=cellsFrom (C+1) scope.names (dU X.env scope.names []),qual:=X.env.qual,func:=none,code:=X.env.code,frame:=X.env.frame,builtins:=X.env.builtins }
def aR(X:Cx)(scope:Scope)(N:List Str)(fp:List Addr)(s:Shared)(H:Hp):Cx :=
 { X with N:=N,s₀:=s,H₀:=H,env:=d5 X scope s.heap.objs.size,outer:=X.stack,ex:=fp,fn:=fun x=>decide (scope.names.lookup x=some .cell),pn:=[],xe:=fun _ _=>False }
theorem wu{M:Model}{A:Around}{E:Value->Shared->Prop}{globals:Addr}{cl:List (Str×Addr)}{qual:Str}{env:Env}
  (hQ:∀h',h'.Ns s.heap.objs.size (fun _=>none)->(∀b o,s.heap.get? b=some o->h'.get? b=some o)->CellsOk h' (s.heap.objs.size+1) (cellsFrom (s.heap.objs.size+1) scope.names []) ->
   Q { scope:=scope,locals:=s.heap.objs.size,globals:=globals,cells:=cellsFrom (s.heap.objs.size+1) scope.names cl,qual:=qual,func:=none,code:=env.code,frame:=env.frame,builtins:=env.builtins } { s with heap:=h' }) :
  wpAny M A (newFunctionEnv scope globals cl [] qual none .none (some env)) Q E s:=by
 simp only[newFunctionEnv,Option.isSome_some,xH]
 refine zV (wpAny_alloc ?_)
 refine zV (wpAny_layCells _ (fun name kind cells=>by cases hkc:kind == NameKind.cell<;>simp[hkc]) _ _ _ _ ?_)
 have ok:=cellsFrom_ok scope.names (s.heap.push { cls:=.type "dict",data:=.dict #[] }) (s.heap.objs.size+1) [] ⟨fun _ _ hm=>(nomatch hm),List.Pairwise.nil⟩ (by rw[xJ];exact yM _)
 rw[xJ] at ok
 rw[show ({ s with heap:=s.heap.push { cls:=.type "dict",data:=.dict #[] } }:Shared).heap.objs.size=s.heap.objs.size+1 from xJ ..]
 rw[List.forIn_nil]
 refine zV (zW (zW ?_))
 exact hQ _ ((Heap.Ns.new s.heap (.type "dict")).keeps (pushCells_keeps _ _)) (fun b o e=>pushCells_keeps _ _ b o (zU _ e)) ok
section
variable {X:Cx}{pins:List (Addr×Obj)}{σ σ':St}{H:Hp}{s:Shared}{fp:List Addr}{scope:Scope}{N:List Str}{h4:Heap}
theorem jb(ok:X.Ok)(hfree:∀x∈scope.names,x.2=.free->X.env.kindOf x.1=some .cell\/X.env.kindOf x.1=some .free):∀x∈scope.names,x.2=.free->∃c,X.env.cells.lookup x.1=some c :=
 fun x hx hk=>ok.has x.1 (hfree x hx hk)
theorem mE(h:scope.names.lookup x=some k):(d5 X scope C).kindOf x=some k\/(k=.free/\(d5 X scope C).kindOf x=some .cell):=by
 have q:=lO (env:=X.env) h
 have q':(d5 X scope C).kindOf x=some (if (k == NameKind.free&&X.env.scope.kind == .function&&X.env.kindOf x == some .cell) then NameKind.cell else k):=q
 rw[q']
 split
 ·rename_i hc
  have:k=.free:=by
   simp only[zF,vK] at hc
   exact hc.1.1
  exact .inr ⟨this,rfl⟩
 ·exact .inl rfl
theorem jy(h:(d5 X scope C).kindOf x=some k):scope.names.lookup x=some k\/(k=.cell/\scope.names.lookup x=some .free):=by
 cases e:scope.names.lookup x with
 | none =>
  have q:(d5 X scope C).kindOf x=none:=ni (env:=X.env) e
  rw[q] at h;cases h
 | some k' =>
  rcases mE (X:=X) (C:=C) e with q|⟨q,q'⟩
  ·rw[q] at h;cases h;exact .inl rfl
  ·rw[q'] at h;cases h;subst q;exact .inr ⟨rfl,rfl⟩
theorem Ca(I:Inv X pins σ H s)(hf:∀b∈fp,cx X pins H b)(hfl:∀b∈fp,b < s.heap.objs.size)(hk:scope.kind=.function)
  (hfree:∀x∈scope.names,x.2=.free->X.env.kindOf x.1=some .cell\/X.env.kindOf x.1=some .free)
  (hns:h4.Ns s.heap.objs.size (fun _=>none)) (hkeep:∀b o,s.heap.get? b=some o->h4.get? b=some o) (hco:CellsOk h4 (s.heap.objs.size+1) (cellsFrom (s.heap.objs.size+1) scope.names []))
  (hdup:∀ {x:Str},(x,NameKind.cell)∈scope.names->(x,NameKind.free)∈scope.names->False) (hcap:∀ (i:Nat) (x:Str) (v:V),N[i]?=some x->σ'[i]?=some (some v)->scope.names.lookup x=some .free/\∃j:Nat,X.N[j]?=some x/\σ[j]?=some (some v)) (hlen:σ'.length=N.length) (t':Nat) :
  Inv (aR X scope N fp s H) [] σ' H { s with heap:=h4,toks:=t' }:=by
 have hcl:=jb I.ok hfree
 have clx:∀x c,(dU X.env scope.names []).lookup x=some c->X.env.cells.lookup x=some c:=fun x c e=>jh hcl (fun _ _ z=>by cases z) x c (mem_of_lookup e)
 have look:∀x c,(d5 X scope s.heap.objs.size).cells.lookup x=some c->(x,c)∈cellsFrom (s.heap.objs.size+1) scope.names []\/X.env.cells.lookup x=some c:=fun x c e=>by
  have e:(cellsFrom (s.heap.objs.size+1) scope.names (dU X.env scope.names [])).lookup x=some c:=e
  rw[bI] at e
  rcases iw e with q|⟨_,q⟩
  ·exact .inl (mem_of_lookup q)
  ·exact .inr (clx x c q)
 have old:∀x c,X.env.cells.lookup x=some c->c < s.heap.objs.size:=fun x c e=>let ⟨_,q⟩:=I.cell x c e;q.lt
 have new:∀x c,(x,c)∈cellsFrom (s.heap.objs.size+1) scope.names []->s.heap.objs.size < c:=fun x c e=>(hco.empty x c e).2
 refine⟨⟨I.ok.mod,?_,I.ok.glob,I.ok.blt,yM _,?_,?_,?_,I.ok.hd,I.ok.frames,.inl rfl,?_,I.bs,yD I.ok.bsz I.sz,?_,?_,I.stack,I.stkFree⟩,rfl,I.bare,Un.kept hkeep,⟨_,hns,?_⟩,?_,I.hok.fresh (yM _),?_,
  fun p hp=>absurd (show p∈([]:List (Addr×Obj)) from hp) (by simp),I.hok.kept hkeep,hlen⟩
 ·show (relabel scope X.env).kind=_
  exact hk
 ·intro x y c e1 e2
  rcases look x c e1 with a|a<;>rcases look y c e2 with b|b
  ·exact name_of_addr hco.apart a b
  ·exact absurd (wM (new x c a) (old y c b)) (qE _)
  ·exact absurd (wM (new y c b) (old x c a)) (qE _)
  ·exact I.ok.inj x y c a b
 ·intro x hx
  show ∃c,(cellsFrom (s.heap.objs.size+1) scope.names (dU X.env scope.names [])).lookup x=some c
  refine Option.isSome_iff_exists.mp (W.cellsFrom_some _ _ _ ?_)
  rcases hx with hx|hx
  ·rcases jy hx with q|⟨_,q⟩
   ·exact .inl q
   ·exact .inr (Option.isSome_iff_exists.mpr (eW (.inl q)))
  ·rcases jy hx with q|⟨q,_⟩
   ·exact .inr (Option.isSome_iff_exists.mpr (eW (.inl q)))
   ·cases q
 ·intro x c hfn e
  have hfn:scope.names.lookup x=some .cell:=yQ hfn
  have e:(cellsFrom (s.heap.objs.size+1) scope.names (dU X.env scope.names [])).lookup x=some c:=e
  obtain⟨c',hc'⟩:=oe (n:=s.heap.objs.size+1) hfn
  rw[bI,iA hc'] at e
  cases e
  exact jS (new x c (mem_of_lookup hc'))
 ·intro b hb
  refine⟨yR (hfl b hb),fun x c e z=>?_⟩
  rcases look x c e with a|a
  ·exact absurd (wM (new x c a) (by rw[z];exact hfl b hb)) (qE _)
  ·exact (hf b hb).2.2.2.2.1 x c a z
 ·intro b o e hb
  obtain⟨f0,f1,f2,f3,f4,f5⟩:=hf b hb
  rcases f3 with z|z
  ·exact I.ok.noex b o e z
  ·exact absurd (zP (zY (I.ok.bs b o e).1) z) (qE _)
 ·intro b hb hz
  obtain⟨f0,f1,f2,f3,f4,f5⟩:=hf b hb
  rcases List.mem_cons.mp (I.stkSub b hz) with z|z
  ·exact f1 z
  ·exact f2 z
 ·intro i x v e1 e2 e3
  obtain⟨hfr,j,hj,hv⟩:=hcap i x v e1 e2
  have hm:(x,NameKind.free)∈scope.names:=mem_of_lookup hfr
  obtain⟨m,hn,hl⟩:=I.loc
  have kx:=hfree _ hm rfl
  obtain⟨u,ru,lk⟩:=hl j x v hj hv (kx.elim (fun k=>.inr (.inl k)) fun k=>.inr (.inr k))
  refine⟨u,ru,.inr ⟨?_,?_⟩⟩
  ·rcases mE (X:=X) (C:=s.heap.objs.size) hfr with q|⟨_,q⟩
   ·exact .inr q
   ·exact .inl q
  ·rcases lk with ⟨k,_⟩|⟨_,c,ec,ic⟩
   ·have k:X.env.kindOf x=some .local:=k
    rcases kx with k'|k'<;>· rw[k] at k';cases k'
   ·obtain⟨c',hc'⟩:=eW (env:=X.env) (acc:=[]) (.inl hfr)
    have e':=clx x c' hc'
    rw[ec] at e'
    cases e'
    refine⟨c,?_,ic.keeps hkeep⟩
    show (cellsFrom (s.heap.objs.size+1) scope.names (dU X.env scope.names [])).lookup x=some c
    rw[bI]
    cases eo:(cellsFrom (s.heap.objs.size+1) scope.names []).lookup x with
    | none=>rw[gw eo];exact hc'
    | some d =>
     have hcm:=fH _ _ _ _ (mem_of_lookup eo)
     exact (hdup hcm hm).elim
 ·intro x c e
  rcases look x c e with a|a
  ·exact⟨_,(hco.empty x c a).1⟩
  ·obtain⟨v,q⟩:=I.cell x c a
   exact⟨v,q.keeps hkeep⟩
 ·intro x c e
  rcases look x c e with a|a
  ·exact I.hok.fresh (jS (new x c a))
  ·exact I.freeC x c a
end
abbrev ug(ifs:List Expr)(env:Env):Sem Bool:=forIn ifs true fun c r=>if r=true then do let ok <- isTrue c env (eval c env);pure (ForInStep.yield ok) else pure (ForInStep.yield r)
def Kg(X:Cx)(ifs:List Expr)(t:TT):Prop :=
 ∀ (pins:List (Addr×Obj)) (s:Shared) (σ:St) (H:Hp) (Q:Bool->Hp->Prop),Inv X pins σ H s->t σ H Q->wpAny (model X.prog X.w) X.A (ug ifs X.env) (TP X pins σ Q) X.xe s
theorem FK:Kg X [] (fun _ H Q=>Q true H):=fun _ _ _ H _ I h=>wpAny_tests_nil ⟨H,I,h⟩
theorem E4(h:PT X c t):Kg X [c] t:=fun pins s σ H Q I q=>wpAny_tests_one (h pins s σ H Q I q)
theorem rS{R:Result->Shared->Prop}{elt target iter:Expr}{ifs:List Expr}{scope:Scope}{pos:Pos}{acc:Value}{env:Env}(I:Nat->Shared->Prop)
  (turn:∀n s,I n s->wpAny (model prog w) A (pyNext it) (fun r s₁=>match r with
   | none=>R (.ok .next) s₁
   | some v=>wpAny (model prog w) A (letOwnedTupleGo target it v) (fun _ s₁'=>wpAny (model prog w) A (assign target env v) (fun _ s₂ =>
     wpAny (model prog w) A (ug ifs env) (fun ok s₃ =>
      if ok=true then wpAny (model prog w) A (eval elt env) (fun x s₄ =>
       wpAny (model prog w) A (call (.builtin "list.append") [acc,x]) (fun _ s₅=>∃m,m < n/\I m s₅) (fun _ _=>False) s₄) (fun _ _=>False) s₃
      else ∃m,m < n/\I m s₃) (fun _ _=>False) s₂) (fun _ _=>False) s₁') (fun _ _=>False) s₁) (fun _ _=>False) s)
  (n:Nat) (h:I n s) :
  codeAny (model prog w) A (.compLoop (.ListComp elt [⟨target,iter,ifs,0⟩] scope pos) 0 it acc env) R s:=by
 refine codeAny_loop rfl I (fun n s hI=>?_) n h
 show wpAny _ A ((compTurn (.ListComp elt [⟨target,iter,ifs,0⟩] scope pos) 0 it acc env).onRaise (fun x=>do noteFrame x env;theTreesLotGoes x)) _ _ s
 refine wpAny_noted ?_
 rw[compTurn_list]
 refine zV (vD (zV (xA (turn n s hI) (fun r s₁ h₁=>?_) fun _ _ h'=>h'.elim)))
 cases r with
 | none=>exact zW h₁
 | some v =>
  refine zV (xA h₁ (fun _ s₁' h₁'=>?_) fun _ _ h'=>h'.elim)
  refine zV (xA h₁' (fun _ s₂ h₂=>zV (xA h₂ (fun ok s₃ h₃=>?_) fun _ _ h'=>h'.elim)) fun _ _ h'=>h'.elim)
  cases ok with
  | false=>exact zW ⟨rfl,h₃⟩
  | true =>
   exact zV (zV (xA h₃ (fun x s₄ h₄=>zV (xA h₄ (fun _ s₅ h₅=>zW (zW ⟨rfl,h₅⟩)) fun _ _ h'=>h'.elim)) fun _ _ h'=>h'.elim))
def Ax(X:Cx)(pins:List (Addr×Obj))(σ:St)(Q:VK)(acc:Value)(C:Addr)(r:Result)(s5:Shared):Prop :=
 ∃ (D:Addr) (H5:Hp) (m:Str->Option Value),acc=.ref D/\r=.ok .next/\Inv X pins σ H5 s5/\s5.heap.Ns C m/\cx X pins H5 C/\Q (.ref D) H5
def BZ(J:It)(g:TG)(tt:TT)(te:TE)(D:Addr)(σ0:St)(H0:Hp)(Q:VK):Prop :=
 ∃W:Nat->Nat->St->Hp->Prop,(∃m,W 0 m σ0 H0)/\∀i m σ H,W i m σ H ->
  (J.stop i H/\Q (.ref D) H)\/(J.go i H/\∀x H',J.yld i H x H'->g x σ H' fun σ2 H2=>tt σ2 H2 fun b H3 =>
   if b=true then te σ2 H3 fun v H4=>∃ys,H4 D=some (.lst ys)/\ys.length < sizeLine/\∃m',m' < m/\W (i+1) m' σ2 (upd H4 D (.lst (ys++[v])))
   else ∃m',m' < m/\W (i+1) m' σ2 H3)
section
variable {X:Cx}{pins:List (Addr×Obj)}{σ σ':St}{H:Hp}{s:Shared}{scope:Scope}{N:List Str}
 {tg iter elt:Expr}{ifs:List Expr}{pos:Pos}{g:TG}{tt:TT}{te:TE}
theorem pP(hc:X.calm=true)(I:Inv X pins σ H s)(T:Turn X.prog X.w X.K tg J fp it tn)(st:tn 0 s.heap)(hf:∀b∈fp,cx X pins H b)(hk:scope.kind=.function)
  (hfree:∀x∈scope.names,x.2=.free->X.env.kindOf x.1=some .cell\/X.env.kindOf x.1=some .free) (hdup:∀ {x:Str},(x,NameKind.cell)∈scope.names->(x,NameKind.free)∈scope.names->False)
  (hcap:∀ (i:Nat) (x:Str) (v:V),N[i]?=some x->σ'[i]?=some (some v)->scope.names.lookup x=some .free/\∃j:Nat,X.N[j]?=some x/\σ[j]?=some (some v)) (hlen:σ'.length=N.length)
  (hY:∀fp s H,PG (aR X scope N fp s H) tg g/\Kg (aR X scope N fp s H) ifs tt/\PE (aR X scope N fp s H) elt te)
  (hrd:∀D,H D=none->BZ J g tt te D σ' (upd H D (.lst [])) Q) {E:Value->Shared->Prop} :
  wpAny (model X.prog X.w) X.A (newList []) (fun acc s₃=>wpAny (model X.prog X.w) X.A (newFunctionEnv scope X.env.globals (dU X.env scope.names []) [] X.env.qual none .none (some X.env)) (fun cenv s₄ =>
   codeAny (model X.prog X.w) X.A (.compStart (.ListComp elt [⟨tg,iter,ifs,0⟩] scope pos) 0 (.ref it) acc { cenv with scope:=relabel scope X.env }) (Ax X pins σ Q acc cenv.locals) s₄) E s₃) E s:=by
 refine qL ?_
 have hfl:∀b∈fp,b < s.heap.objs.size:=fun b hb=>let ⟨o,e,_⟩:=T.obj _ _ st b hb;zY e
 have I3:=I.lnew (ys:=[]) (its:=[]) (t':=s.toks) .nil (xV _)
 have hD:H s.heap.objs.size=none:=I.fresh
 obtain⟨W,⟨m0,w0⟩,turn⟩:=hrd _ hD
 generalize e3:({ s with heap:=s.heap.push { cls:=.type "list",data:=.seq ([]:List Value).toArray },toks:=s.toks }:Shared)=s3 at I3
 have e3h:s3.heap=s.heap.push { cls:=.type "list",data:=.seq ([]:List Value).toArray }:=by rw[<- e3]
 generalize hH3:upd H s.heap.objs.size (.lst [])=H3 at I3 w0 turn
 have hlt:s.heap.objs.size < s3.heap.objs.size:=by rw[e3h,xJ];exact kM _
 have hk3:∀b o,s.heap.get? b=some o->s3.heap.get? b=some o:=fun b o e=>by rw[e3h];exact zU _ e
 generalize s.heap.objs.size=D at *
 have f3:∀b∈fp,cx X pins H3 b:=fun b hb=>by
  obtain⟨f0,f⟩:=hf b hb
  refine⟨?_,f⟩
  rw[<- hH3,ay (yR (hfl b hb))]
  exact f0
 have st3:tn 0 s3.heap:=T.keep _ _ _ st fun b _ o e=>hk3 b o e
 refine wu fun h4 hns hkp hco=>?_
 dsimp only
 have I4:=Ca (N:=N) (σ':=σ') (fp:=fp) I3 f3 (fun b hb=>wM (hfl b hb) hlt) hk hfree hns hkp hco hdup hcap hlen s3.toks
 have fC:∀H',H' s3.heap.objs.size=none->cx X pins H' s3.heap.objs.size:=fun H' hn=>I3.fpOk (yM _) hn
 obtain⟨hg,htt,hte⟩:=hY fp s3 H3
 have efp:∀b∈fp,∀H':Hp,H' b=none->cx (aR X scope N fp s3 H3) [] H' b:=fun b hb H' hn=>by
  refine⟨hn,(I4.ok.exf b hb).1,I4.ok.exfs b hb,.inl hb,(I4.ok.exf b hb).2,fun p hp=>?_⟩
  cases hp
 have loop:codeAny (model X.prog X.w) X.A (.compLoop (.ListComp elt [⟨tg,iter,ifs,0⟩] scope pos) 0 (.ref it) (.ref D) (d5 X scope s3.heap.objs.size)) (Ax X pins σ Q (.ref D) s3.heap.objs.size) { s3 with heap:=h4 }:=by
  refine rS (fun n s'=>∃i σ' H',Inv (aR X scope N fp s3 H3) [] σ' H' s'/\tn i s'.heap/\(∀b∈fp,H' b=none)/\W i n σ' H') ?_ m0
   ⟨0,σ',H3,I4,T.keep _ _ _ st3 fun b _ o e=>hkp b o e,fun b hb=>(f3 b hb).1,w0⟩
  rintro n s5 ⟨i,σ5,H5,I5,st5,fr5,w5⟩
  rcases turn i n σ5 H5 w5 with ⟨stop,q⟩|⟨go,step⟩
  ·refine bW (T.done (aR X scope N fp s3 H3) rfl rfl rfl hc i [] s5 σ5 H5 _ I5 (fun b hb=>efp b hb H5 (fr5 b hb)) st5 stop) fun r s6 ⟨hr,I6⟩=>?_
   subst hr
   obtain⟨m,hn6,_⟩:=I6.loc
   refine⟨D,H5,m,rfl,rfl,I3.call' I6.os I6.base I6.hok I6.bare (fun b hb=>?_),hn6,fC H5 I6.free,q⟩
   obtain⟨f0,f1,f2,f4,f5,f6⟩:=f3 b hb
   exact⟨f4,f1,f5,f6⟩
  ·refine bW (T.item (aR X scope N fp s3 H3) rfl rfl rfl hc i [] s5 σ5 H5 _ I5 (fun b hb=>efp b hb H5 (fr5 b hb)) st5 go) fun r s6 ⟨u,hr,h6⟩=>?_
   subst hr
   refine bW h6 fun _ s7 ⟨x,H7,I7,r7,y7,st7,fr7⟩=>?_
   have I7':=I7.pinned (fun b hb=>efp b hb H7 (fr7 b hb)) (T.obj _ _ st7)
   have again:∀ {pl:List (Addr×Obj)}{σ9:St}{H9:Hp}{s9:Shared}{n':Nat},Inv (aR X scope N fp s3 H3) ([]++mO fp s7.heap) σ9 H9 s9->W (i+1) n' σ9 H9->∃i σ' H',Inv (aR X scope N fp s3 H3) [] σ' H' s9/\tn i s9.heap/\(∀b∈fp,H' b=none)/\W i n' σ' H':=fun {pl σ9 H9 s9 n'} I9 w9=>by
    refine⟨i+1,σ9,H9,I9.unpinned,T.keep _ _ _ st7 fun b hb o e=>(I9.pin (b,o) (yE _ (yE _ (dD hb e)))).1,fun b hb=>?_,w9⟩
    obtain⟨o,e,d⟩:=T.obj _ _ st7 b hb
    exact (I9.pin (b,o) (yE _ (yE _ (dD hb e)))).2.1
   refine bW (hg _ s7 σ5 H7 x u _ I7' r7 (step x H7 y7)) fun _ s8 ⟨σ8,H8,I8,q8⟩=>?_
   refine bW (htt _ s8 σ8 H8 _ I8 q8) fun ok s9 ⟨H9,I9,q9⟩=>?_
   cases ok with
   | false =>
    rw[yN (by decide)] at q9
    rw[yN (by decide)]
    obtain⟨m',hm,w9⟩:=q9
    exact⟨m',hm,again (pl:=[]) I9 w9⟩
   | true =>
    rw[yL rfl] at q9
    rw[yL rfl]
    refine bW (hte _ s9 σ8 H9 _ I9 q9) fun y s10 ⟨v,H10,I10,r10,ys,hD10,hz,m',hm,w10⟩=>?_
    refine bW (qb (X:=aR X scope N fp s3 H3) _ s10 σ8 H10 (.ref D) [v] (.ref D) [y] (fun _ H'=>W (i+1) m' σ8 H') I10 rfl (.cons r10 .nil) ⟨D,ys,v,rfl,rfl,hD10,hz,w10⟩) fun _ s11 ⟨_,H11,I11,_,w11⟩=>?_
    exact⟨m',hm,again (pl:=[]) I11 w11⟩
 exact codeAny_compStart_list loop (T.self _ 0 _ _ _ (T.keep _ _ _ st3 fun b _ o e=>hkp b o e) loop)
end
def EM(wi:TI)(g:TG)(tt:TT)(te:TE)(caps:St->St):TE:=fun σ H Q=>wi σ H fun J H1=>∀D,H1 D=none->BZ J g tt te D (caps σ) (upd H1 D (.lst [])) Q
structure gV(X:Cx)(scope:Scope)(N:List Str)(caps:St->St):Prop where
 kind:scope.kind=.function
 free:∀x∈scope.names,x.2=.free->X.env.kindOf x.1=some .cell\/X.env.kindOf x.1=some .free
 dup:∀ {x:Str},(x,NameKind.cell)∈scope.names->(x,NameKind.free)∈scope.names->False
 loc:∀x∈scope.names,x.2=.local -> scope.names.lookup x.1=some .local
 cap:∀ (σ:St) (i:Nat) (x:Str) (v:V),N[i]?=some x->(caps σ)[i]?=some (some v)->scope.names.lookup x=some .free/\∃j:Nat,X.N[j]?=some x/\σ[j]?=some (some v)
 len:∀σ:St,(caps σ).length=N.length
section
variable {X:Cx}{scope:Scope}{N:List Str}{caps:St->St}{tg iter elt:Expr}{ifs:List Expr}{pos:Pos}{wi:TI}{g:TG}{tt:TT}{te:TE}
theorem FW(hc:X.calm=true)(S:gV X scope N caps)(hi:PI X tg iter wi)
  (hY:∀fp s H,PG (aR X scope N fp s H) tg g/\Kg (aR X scope N fp s H) ifs tt/\PE (aR X scope N fp s H) elt te)
  (hs:∀x,foldedSetIterable iter X.env x=pure x:=by intro _;rfl):PE X (.ListComp elt [⟨tg,iter,ifs,0⟩] scope pos) (EM wi g tt te caps):=by
 intro pins s σ H Q I h
 rw[eval_ListComp]
 refine wpAny_comprehension_free (use:=none) rfl hs (k4 (jb I.ok S.free)) S.kind S.loc (bW (hi pins s σ H _ I h) fun v s1 h1=>bW h1 fun itv s2 h2=>?_)
 obtain⟨it,fp,tn,J,H2,e,I2,T,st2,f2,rd⟩:=h2
 subst e
 refine bW (pP (iter:=iter) (pos:=pos) (E:=X.xe) hc I2 T st2 f2 S.kind S.free S.dup (S.cap σ) (S.len σ) hY rd) fun acc s3 h3=>bW h3 fun cenv s4 h4=>?_
 refine jR h4 fun r s5 h5=>?_
 obtain⟨D,H5,m,rfl,rfl,I5,hn,fC,q⟩:=h5
 refine⟨m,hn,fun h' sb=>?_⟩
 obtain⟨f0,f1,f2',f3,f4,f5⟩:=fC
 exact⟨.ref D,H5,I5.turned (t':=s5.toks) (fun b o hb e=>(sb.2 b hb).trans e) f0 f1 f3 f4 f5,rfl,q⟩
theorem Fo(hc:X.calm=true)(S:gV X scope N caps)(hi:PI X tg iter wi)
  (hY:∀fp s H,PG (aR X scope N fp s H) tg g/\Kg (aR X scope N fp s H) ifs tt/\PE (aR X scope N fp s H) elt te)
  (hN:X.N.Nodup) (hiy:X.N[i]?=some y) (hy:X.env.scope.names.lookup y=some .local)
  (hsw:swapsWith (.ListComp elt [⟨tg,iter,ifs,0⟩] scope pos) (some (.Name y py)) spos.line X.env=pure true)
  (hs:∀x,foldedSetIterable iter X.env x=pure x:=by intro _;rfl):PS X (.Assign [.Name y py] (.ListComp elt [⟨tg,iter,ifs,0⟩] scope pos) spos) (Ct (EM wi g tt te caps) (tm i)):=by
 intro pins s σ H D I h
 rw[exec_Assign_Name_used _ _ _ _ hsw]
 refine zV (vD (zV ?_))
 show wpAny _ X.A (do let _ <- comprehension (.ListComp elt [⟨tg,iter,ifs,0⟩] scope pos) scope X.env _ (newList []) false (eval iter X.env) (some (assign (.Name y py) X.env))) _ _ s
 refine zV (xA (wpAny_comprehension_free (use:=some (assign (.Name y py) X.env)) (Q:=fun _ s'=>SP X pins D .next s') rfl hs (k4 (jb I.ok S.free)) S.kind S.loc
  (bW (hi pins s σ H _ I h) fun v s1 h1=>bW h1 fun itv s2 h2=>?_)) (fun _ s' hq=>zW (zW hq)) fun _ _ e=>e)
 obtain⟨it,fp,tn,J,H2,e,I2,T,st2,f2,rd⟩:=h2
 subst e
 refine bW (pP (iter:=iter) (pos:=pos) (E:=X.xe) hc I2 T st2 f2 S.kind S.free S.dup (S.cap σ) (S.len σ) hY rd) fun acc s3 h3=>bW h3 fun cenv s4 h4=>?_
 refine jR h4 fun r s5 h5=>?_
 obtain⟨D',H5,m,rfl,rfl,I5,hn,fC,q⟩:=h5
 show wpAny _ X.A (assign (.Name y py) X.env (.ref D')) _ _ _
 refine wpAny_assign_Name (qj (v:=.ref D') I5 hN hiy (.inl hy) rfl (fun s6 I6 ⟨a,sa,ha⟩=>?_) (.inr hy))
 obtain⟨f0,f1,f2',f3,f4,f5⟩:=fC
 have hne:cenv.locals≠a:=by
  rcases ha with z|z
  ·rw[z];exact f1
  ·exact fun w=>f4 y a z w.symm
 refine⟨m,hn.sameBut sa hne,fun h' sb=>?_⟩
 exact⟨_,H5,I6.turned (t':=s6.toks) (fun b o hb e=>(sb.2 b hb).trans e) f0 f1 f3 f4 f5,q⟩
end
abbrev Me(X:Cx)(qual:Str)(scope:Scope)(f c L:Addr):Env:=W.envX qual scope L f (.ref c) (dU X.env scope.names [])
def j7(X:Cx)(A:Around)(qual:Str)(scope:Scope)(N:List Str)(f c:Addr)(s:Shared)(H:Hp):Cx where
 prog:=X.prog
 w:=X.w
 K:=X.K
 mg:=X.mg
 base:=X.base
 A:=A.deeper (Me X qual scope f c s.heap.objs.size)
 N:=N
 s₀:=s
 H₀:=H
 env:=Me X qual scope f c s.heap.objs.size
 outer:=X.stack
 stack:=Me X qual scope f c s.heap.objs.size::X.stack
 ex:=[]
 fn:=fun _=>false
 calm:=true
 pn:=[]
 xe:=fun _ _=>False
section
theorem F0(I:Inv X pins σ H s)(hd:A.handled=none)(hA:A.frames=some X.stack)(S:gV X scope N caps)(hnc:∀x∈scope.names,x.2≠.cell)(hN0:N[0]?=some p)(hp:scope.names.lookup p=some .local)(hNd:N.Nodup)(r:RelV v u)
  (hns:h1.Ns s.heap.objs.size (fun x=>[(p,u)].reverse.lookup x)) (hkeep:∀b o,s.heap.get? b=some o->h1.get? b=some o) (t':Nat) :
  Inv (j7 X A qual scope N f c s H) [] ((caps σ).set 0 (some v)) H { s with heap:=h1,toks:=t' }:=by
 have hcl:=jb I.ok S.free
 have clx:∀x c,(dU X.env scope.names []).lookup x=some c->X.env.cells.lookup x=some c:=fun x c e=>jh hcl (fun _ _ z=>by cases z) x c (mem_of_lookup e)
 have noA:∀b:Addr,b∉(j7 X A qual scope N f c s H).ex:=fun b z=>absurd (show b∈([]:List Addr) from z) (by simp)
 refine⟨⟨I.ok.mod,S.kind,rfl,rfl,yM _,fun x y d e1 e2=>I.ok.inj x y d (clx x d e1) (clx y d e2),fun x hx=>?_,fun x d z=>?_,fun _=>hd,Around.frames_deeper hA,.inr ⟨rfl,rfl⟩,fun b z=>absurd z (noA b),I.bs,yD I.ok.bsz I.sz,fun b _ _=>noA b,fun b z=>absurd z (noA b),I.stack,I.stkFree⟩,
  rfl,I.bare,Un.kept hkeep,⟨_,hns,fun i x w e1 e2 e3=>?_⟩,fun x d e=>?_,I.hok.fresh (yM _),fun x d e=>I.freeC x d (clx x d e),fun q hq=>absurd (show q∈([]:List (Addr×Obj)) from hq) (by simp),I.hok.kept hkeep,?_⟩
 ·rcases hx with hx|hx
  ·exact absurd rfl (hnc _ (mem_of_lookup (show scope.names.lookup x=some .cell from hx)))
  ·exact eW (.inl hx)
 ·cases z
 ·cases i with
  | zero =>
   have e1:N[0]?=some x:=e1
   rw[hN0] at e1
   cases e1
   have hl:0 < (caps σ).length:=by rw[S.len];exact (List.getElem?_eq_some_iff.mp hN0).1
   rw[vO hl] at e2
   cases e2
   exact⟨u,r,.inl ⟨hp,by simp⟩⟩
  | succ i =>
   have e2':(caps σ)[i+1]?=some (some w):=by
    rw[kP (by omega)] at e2;exact e2
   obtain⟨hfr,j,hj,hv⟩:=S.cap σ (i+1) x w e1 e2'
   have hm:(x,NameKind.free)∈scope.names:=mem_of_lookup hfr
   obtain⟨m,hn,hl⟩:=I.loc
   have kx:=S.free _ hm rfl
   obtain⟨u',ru,lk⟩:=hl j x w hj hv (kx.elim (fun k=>.inr (.inl k)) fun k=>.inr (.inr k))
   refine⟨u',ru,.inr ⟨.inr hfr,?_⟩⟩
   rcases lk with ⟨k,_⟩|⟨_,c',ec,ic⟩
   ·have k:X.env.kindOf x=some .local:=k
    rcases kx with k'|k'<;>· rw[k] at k';cases k'
   ·obtain⟨c'',hc'⟩:=eW (env:=X.env) (acc:=[]) (.inl hfr)
    have e':=clx x c'' hc'
    rw[ec] at e'
    cases e'
    exact⟨c',hc',ic.keeps hkeep⟩
 ·obtain⟨w,q⟩:=I.cell x d (clx x d e)
  exact⟨w,q.keeps hkeep⟩
 ·rw[yC];exact S.len σ
theorem Et(I:Inv X pins σ H s)(hr:dW (k+1) A)(hA:A.frames=some X.stack)(S:gV X scope N caps)(hnc:∀x∈scope.names,x.2≠.cell)
  (hN0:N[0]?=some p) (hp:scope.names.lookup p=some .local) (hNd:N.Nodup) (hco:scope.isCoroutine=false) (hgen:scope.isGenerator=false)
  (hf:s.heap.get? f=some (W.kla_obj name qual params body scope (dU X.env scope.names []) pm c ctv)) (hcod:H c=some (.cod qual)) (hb:bindArgs (W.kla_fn name qual params body scope (dU X.env scope.names []) pm (.ref c) ctv) ⟨[u],[]⟩=pure [(p,u)])
  (r:RelV v u) (hY:PE (j7 X A qual scope N f c s H) body te) (q:te ((caps σ).set 0 (some v)) H Q) :
  wpAny (model X.prog X.w) A (call (.ref f) [u]) (EP X pins σ Q) (fun _ _=>False) s:=by
 have hcd:s.heap.CodeRec (.ref c) qual:=I.hok c _ hcod
 refine wpAny_call (W.kla_callFunE hr.depth hf rfl hco hgen rfl hcd ?_)
 rw[hb]
 refine zW (wpAny_newFunctionEnv hnc (fun y hy=>?_) (fun h1 hns hsb=>⟨?_,?_⟩) S.kind)
 ·rw[List.mem_singleton.mp hy];exact hp
 ·exact I.nolimit.fresh _ hsb
 ·have hk1:∀b o,s.heap.get? b=some o->h1.get? b=some o:=fun b o e=>hsb.extBut b o (yR (zY e)) (zU _ e)
  have I1:=F0 (qual:=qual) (f:=f) (c:=c) I hr.hd hA S hnc hN0 hp hNd r hns hk1 (s.toks+[(p,u)].length)
  refine W.kla_codeExpr (xA (hY [] _ _ H Q I1 q) (fun w s' ⟨v',H',I',r',q'⟩=>?_) fun e s' h=>False.elim h)
  exact⟨v',H',I.call' I'.os I'.base I'.hok I'.bare (fun b z=>absurd (show b∈([]:List Addr) from z) (by simp)),r',q'⟩
end
theorem vz{pos:Pos}(l:List Value)(h:TriplesOk l)(e:codeAmong pos' (l++[rawInt pos.line,rawInt pos.col,c])=some v):codeAmong pos' l=some v\/v=c:=by
 fun_induction TriplesOk l with
 | case1 =>
  simp only[xO,codeAmong,rawInt] at e
  split at e
  ·cases e;exact .inr rfl
  ·cases e
 | case2 a t b u x rest ih =>
  simp only[xF,codeAmong] at e ⊢
  split at e
  ·rename_i hc;rw[yL hc];exact .inl e
  ·rename_i hc;rw[yN hc];exact ih h e
 | case3 l h1 h2=>exact h.elim
section
theorem Eo(I:Inv X pins σ H s)(S:gV X scope N caps)(hq:X.env.qual++"<lambda>"=qual)(hcode:X.env.code=.ref c)(C:W.CodeHd X.base c P)(hT:H P=some (.tab qual))(hB:LM X.mg X.base)
  (hdef:defaultsOf params X.env=([],[]))
  (h:∀ (f c':Addr) (pm ctv:Value) (s':Shared) (H':Hp),Inv X pins σ H' s'->s'.heap.get? f=some (W.kla_obj "<lambda>" qual params body scope (dU X.env scope.names []) pm c' ctv)->H' f=none->H' c'=some (.cod qual)->aQ H H'->cx X pins H' f->(∀b,H' b≠none->H b≠none\/H' b=some (.cod qual))->Q (.ref f) s') :
  wpAny (model X.prog X.w) X.A (eval (.Lambda params body scope lpos) X.env) Q X.xe s:=by
 have hcl:=k4 (jb I.ok S.free)
 have hCs:=C.keeps I.bk
 have hg:s.heap.Ns mainGlobals X.mg:=by
  obtain⟨o,es,ep,e,r⟩:=I.ok.mod.glob
  exact⟨o,es,ep,I.bk _ _ e,r⟩
 have hPn:X.base.get? P=none:=by
  cases e:X.base.get? P with
  | none=>rfl
  | some o=>rw[(I.bs P o e).2] at hT;cases hT
 obtain⟨ps,hP,ht,hco⟩:=I.hok P _ hT
 have hb:s.heap.BuiltinsAt X.mg P:=by
  obtain⟨bm,o,b1,b2,b3,b4,b5⟩:=hB
  exact⟨bm,o,b1,b2,b3,(fun z=>by rw[z,hPn] at b4;cases b4),I.bk _ _ b4,b5⟩
 refine W.kla_eval hdef ?_
 rw[hq]
 cases hf:codeAmong lpos ps.toList with
 | some cv =>
  obtain⟨c',rfl,hc'⟩:=hco lpos cv hf
  refine W.kla_makeFunctionHit hcl I.ok.glob hg hcode hCs hP ht hf hb fun ctv h' tk kp hz=>?_
  have kp2:∀b o,s.heap.get? b=some o->(h'.push (W.kla_obj "<lambda>" qual params body scope (dU X.env scope.names []) ((X.mg "__name__").getD .none) c' ctv)).get? b=some o:=fun b o e=>zU _ (kp b o e)
  have hn:H h'.objs.size=none:=I.hok.fresh hz
  exact h _ c' _ ctv _ H (I.kept (t':=tk) kp2) (zX _ rfl) hn hc' (.refl _) (I.fpOk hz hn) fun b z=>.inl z
 | none =>
  have hgP:mainGlobals≠P:=fun z=>by
   obtain⟨o,es,ep,e,r⟩:=I.ok.mod.glob
   rw[z,hPn] at e;cases e
  refine W.kla_makeFunction hcl I.ok.glob hg hcode hCs hP ht hf hgP hb fun c' ctv h' tk hx hc1 hc2 hcr hP'=>?_
  have hn:H c'=none:=I.hok.fresh hc1
  have hz:s.heap.objs.size<=h'.objs.size:=jS (qZ hc1 hc2)
  have nP:∀ {b:Addr}{u:HO},H b=some u->(∀q,u≠.tab q)->b≠P:=fun {b u} e hne z=>by subst z;rw[hT] at e;cases e;exact hne _ rfl
  have kp:∀b o,b≠P->s.heap.get? b=some o->(h'.push (W.kla_obj "<lambda>" qual params body scope (dU X.env scope.names []) ((X.mg "__name__").getD .none) c' ctv)).get? b=some o:=fun b o hb e=>zU _ (hx b o hb e)
  have hPc:P≠c':=fun z=>by rw[<- z,hT] at hn;cases hn
  have up:∀b u,H b=some u->upd H c' (.cod qual) b=some u:=fun b u e=>by rw[ay (aM e hn)];exact e
  have un:Un X.fs [] H (upd H c' (.cod qual)) s.heap (h'.push (W.kla_obj "<lambda>" qual params body scope (dU X.env scope.names []) ((X.mg "__name__").getD .none) c' ctv)):=by
   refine⟨fun b o e n _ _=>kp b o (fun z=>by rw[z,hT] at n;cases n) e,fun b o e n _ _=>⟨o.slots,kp b o (fun z=>by rw[z,hT] at n;cases n) e⟩,fun b o e n _=>?_,fun b o e _=>?_,fun b xs e=>up b _ e,fun b o u e=>up b _ e,⟨fun b u e _=>up b u e,fun b q ps' e z=>?_⟩⟩
   ·rw[ay (yR (zP (zY e) hc1))];exact n
   ·by_cases hb:b=P
    ·subst hb;exact⟨_,zU _ hP'⟩
    ·exact⟨o,kp b o hb e⟩
   ·by_cases hb:b=P
    ·subst hb
     rw[hP] at z
     cases z
     exact⟨_,zU _ hP'⟩
    ·exact⟨#[],by rw[Array.append_empty];exact kp b _ hb z⟩
  have hok:nJ X.prog X.w (upd H c' (.cod qual)) (h'.push (W.kla_obj "<lambda>" qual params body scope (dU X.env scope.names []) ((X.mg "__name__").getD .none) c' ctv)):=by
   intro b u e
   by_cases hbc:b=c'
   ·subst hbc
    rw[aJ] at e
    cases e
    obtain⟨c0,oc,vs,t,e0,e1,r⟩:=hcr
    exact⟨c0,oc,vs,t,e0,zU _ e1,r⟩
   ·rw[ay hbc] at e
    by_cases hb:b=P
    ·subst hb
     rw[hT] at e
     cases e
     refine⟨_,zU _ hP',?_,fun pos v hv=>?_⟩
     ·have:=TriplesOk_snoc lpos.line lpos.col (.ref c') ps.toList ht
      simpa using this
     ·have hv':codeAmong pos (ps.toList++[rawInt lpos.line,rawInt lpos.col,.ref c'])=some v:=by simpa using hv
      rcases vz ps.toList ht hv' with z|z
      ·obtain⟨c0,z1,z2⟩:=hco pos v z
       exact⟨c0,z1,up _ _ z2⟩
      ·exact⟨c',z,aJ⟩
    ·exact (I.hok b u e).stay (fun d o hd eo=>kp d o (by
      rcases hd with rfl|hd
      ·exact hb
      ·exact nP hd fun q z=>by cases z) eo) (fun d hd=>up d _ hd) fun d o hd _=>up d _ hd
  have I':=I.un (t':=tk) un hok
  have hnf:upd H c' (.cod qual) h'.objs.size=none:=by
   rw[ay (jI hc2)];exact I.hok.fresh hz
  refine h _ c' _ ctv _ _ I' (zX _ rfl) hnf aJ up (I.fpOk hz hnf) fun b z=>?_
  by_cases hbc:b=c'
  ·subst hbc;exact .inr aJ
  ·rw[ay hbc] at z;exact .inl z
end
end L2
namespace Dl
open PySem L2 PySem.Spec PyProof.Rows
abbrev D:=PyData
mutual
def Rep(K:W.Frag)(H:Hp):D->V->Prop
 | .none,v=>v=.non
 | .bool b,v=>v=.bl b
 | .int i,v=>v=.int i
 | .str x,v=>v=.str x
 | .tuple ds,v=>∃a vs,v=.ref a/\gK K H a vs/\aq K H ds vs
 | .list ds,v=>∃a vs,v=.ref a/\gn K H a vs/\aq K H ds vs
 | .dict _,_=>False
def aq(K:W.Frag)(H:Hp):List D->List V->Prop
 | [],vs=>vs=[]
 | d::ds,vs=>∃v r,vs=v::r/\Rep K H d v/\aq K H ds r
end
theorem aA{K:W.Frag}(e:aQ H H')(h:gK K H a xs):gK K H' a xs:=by
 rcases h with (h|⟨o,h⟩)|h
 ·exact .inl (.inl (e _ _ h))
 ·exact .inl (.inr ⟨o,e _ _ h⟩)
 ·exact .inr h
mutual
theorem Rep.mono{K:W.Frag}{H H':Hp}(e:aQ H H'):∀ {d:D}{v:V},Rep K H d v->Rep K H' d v
 | .none,_,h=>h
 | .bool _,_,h=>h
 | .int _,_,h=>h
 | .str _,_,h=>h
 | .tuple ds,_,h=>by
  simp only[Rep] at h ⊢
  obtain⟨a,vs,rfl,q,r⟩:=h
  exact⟨a,vs,rfl,aA e q,aq.mono e r⟩
 | .list ds,_,h=>by
  simp only[Rep] at h ⊢
  obtain⟨a,vs,rfl,q,r⟩:=h
  exact⟨a,vs,rfl,e.seq q,aq.mono e r⟩
 | .dict _,_,h=>h
theorem aq.mono{K:W.Frag}{H H':Hp}(e:aQ H H'):∀ {ds:List D}{vs:List V},aq K H ds vs->aq K H' ds vs
 | [],_,h=>h
 | d::ds,_,h=>by
  simp only[aq] at h ⊢
  obtain⟨v,r,rfl,a,b⟩:=h
  exact⟨v,r,rfl,Rep.mono e a,aq.mono e b⟩
end
section
variable {K:W.Frag}
theorem aq.nil:aq K H [] []:=by simp[aq]
theorem aq.cons(a:Rep K H d v)(b:aq K H ds vs):aq K H (d::ds) (v::vs):=by
 simp only[aq];exact⟨v,vs,rfl,a,b⟩
theorem aq.cons_inv(h:aq K H (d::ds) vs):∃v r,vs=v::r/\Rep K H d v/\aq K H ds r:=by simpa only[aq] using h
theorem aq.nil_inv(h:aq K H [] vs):vs=[]:=by simpa only[aq] using h
theorem aq.length:∀ {ds:List D}{vs:List V},aq K H ds vs->vs.length=ds.length
 | [],_,h=>by rw[h.nil_inv];rfl
 | d::ds,_,h=>by obtain⟨v,r,rfl,_,b⟩:=h.cons_inv;simp[aq.length b]
theorem aq.get:∀ {ds:List D}{vs:List V}{i:Nat}{v:V},aq K H ds vs->vs[i]?=some v->∃d,ds[i]?=some d/\Rep K H d v
 | [],_,i,v,h,e=>by rw[h.nil_inv] at e;simp at e
 | d::ds,_,i,v,h,e=>by
  obtain⟨v',r,rfl,a,b⟩:=h.cons_inv
  cases i with
  | zero=>simp at e;subst e;exact⟨d,rfl,a⟩
  | succ i=>simp at e;obtain⟨d',h1,h2⟩:=aq.get b e;exact⟨d',by simpa using h1,h2⟩
theorem aq.getD:∀ {ds:List D}{vs:List V}{i:Nat}{d:D},aq K H ds vs->ds[i]?=some d->∃v,vs[i]?=some v/\Rep K H d v
 | [],_,i,d,h,e=>by simp at e
 | d::ds,_,i,d',h,e=>by
  obtain⟨v',r,rfl,a,b⟩:=h.cons_inv
  cases i with
  | zero=>simp at e;subst e;exact⟨v',rfl,a⟩
  | succ i=>simp at e;obtain⟨v,h1,h2⟩:=aq.getD b e;exact⟨v,by simpa using h1,h2⟩
theorem aq.append:∀ {ds es:List D}{vs us:List V},aq K H ds vs->aq K H es us->aq K H (ds++es) (vs++us)
 | [],_,_,_,h,g=>by rw[h.nil_inv];exact g
 | d::ds,_,_,_,h,g=>by obtain⟨v,r,rfl,a,b⟩:=h.cons_inv;exact aq.cons a (aq.append b g)
theorem aq.take:∀ {ds:List D}{vs:List V}(n:Nat),aq K H ds vs->aq K H (ds.take n) (vs.take n)
 | [],_,n,h=>by rw[h.nil_inv];simp[aq]
 | d::ds,_,0,h=>by simp[aq]
 | d::ds,_,n+1,h=>by obtain⟨v,r,rfl,a,b⟩:=h.cons_inv;exact aq.cons a (aq.take n b)
theorem aq.drop:∀ {ds:List D}{vs:List V}(n:Nat),aq K H ds vs->aq K H (ds.drop n) (vs.drop n)
 | [],_,n,h=>by rw[h.nil_inv];simp[aq]
 | d::ds,_,0,h=>h
 | d::ds,_,n+1,h=>by obtain⟨v,r,rfl,a,b⟩:=h.cons_inv;exact aq.drop n b
end
structure cw(HF H HF' H':Hp):Prop where
 hh:aQ H H'
 ff:aQ HF HF'
 fh:aQ HF' H'
 nw:∀a o,HF' a=some o->HF a=some o\/H a=none
theorem cw.refl(s:aQ HF H):cw HF H HF H:=⟨.refl _,.refl _,s,fun _ _ e=>.inl e⟩
theorem cw.trans(a:cw HF H HF1 H1)(b:cw HF1 H1 HF2 H2):cw HF H HF2 H2 :=
 ⟨a.hh.trans b.hh,a.ff.trans b.ff,b.fh,fun x o e=>(b.nw x o e).elim (fun z=>a.nw x o z) fun z=>.inr (a.hh.free z)⟩
theorem da(h:H p=none):aQ H (upd H p o):=fun b u e=>by rw[ay (aM e h)];exact e
theorem cw.new(s:aQ HF H)(h:H p=none):cw HF H (upd HF p o) (upd H p o):=by
 have hf:HF p=none:=s.free h
 refine⟨da h,da hf,fun b u e=>?_,fun b u e=>?_⟩
 ·by_cases hb:b=p
  ·subst hb;rw[aJ] at e ⊢;exact e
  ·rw[ay hb] at e ⊢;exact s b u e
 ·by_cases hb:b=p
  ·subst hb;exact .inr h
  ·rw[ay hb] at e;exact .inl e
theorem cw.own(s:aQ HF H)(h:H p=none):cw HF H HF (upd H p o) :=
 ⟨da h,.refl _,fun b u e=>by rw[ay (aM (s b u e) h)];exact s b u e,fun _ _ e=>.inl e⟩
theorem cw.freeze(g:cw HF H HF1 H1)(h:H p=none)(h1:H1 p=some o)(hf:HF1 p=none):cw HF H (upd HF1 p o) H1 :=
 ⟨g.hh,g.ff.trans (da hf),fun b u e=>by
  by_cases hb:b=p
  ·subst hb;rw[aJ] at e;rw[h1,<- e]
  ·rw[ay hb] at e;exact g.fh b u e,fun b u e=>by
  by_cases hb:b=p
  ·subst hb;exact .inr h
  ·rw[ay hb] at e;exact g.nw b u e⟩
def iO:List Str:=["ways_of","turned_order","fairest"]
def fj(K:W.Frag)(HF:Hp):Prop:=∀ (f:Addr) (oc:Value) (od:Option Addr) (fd:FuncData) (sl:Array (Option Value)) (c P:Addr),K.lookup f=some ⟨oc,od,.func fd,sl⟩->fd.qualname∈iO->fd.code=.ref c->W.codeHdIn K c P=true->HF P=some (.tab (fd.qualname++".<locals>."++"<lambda>"))
theorem fj.mono{K:W.Frag}(h:fj K HF)(e:aQ HF HF'):fj K HF':=fun f oc od fd sl c P a b d q=>e _ _ (h f oc od fd sl c P a b d q)
abbrev Env:=List (Option D)
structure cE(K:W.Frag)(HF:Hp)(ρ:Env)(σ:L2.St):Prop where
 get:∀ (i:Nat) (d:D),ρ[i]?=some (some d)->∃v,σ[i]?=some (some v)/\Rep K HF d v
 len:ρ.length<=σ.length
 tb:fj K HF
theorem cE.mono{K:W.Frag}(h:cE K HF ρ σ)(e:aQ HF HF'):cE K HF' ρ σ:=⟨fun i d q=>let ⟨v,a,b⟩:=h.get i d q;⟨v,a,b.mono e⟩,h.len,h.tb.mono e⟩
def tD(K:W.Frag)(f:Env->Option D):TE:=fun σ H Q=>∃HF ρ d,aQ HF H/\cE K HF ρ σ/\f ρ=some d/\∀v H' HF',cw HF H HF' H'->Rep K HF' d v->Q v H'
def DE(X:Cx)(e:Expr)(f:Env->Option D):Prop:=PE X e (tD X.K f)
def tF(K:W.Frag)(f:Env->Option (List D)):TE:=fun σ H Q=>∃HF ρ ds,aQ HF H/\cE K HF ρ σ/\f ρ=some ds /\
 ∀a vs H' HF',cw HF H HF' H'->H a=none->HF' a=none->H' a=some (.lst vs)->aq K HF' ds vs->Q (.ref a) H'
def DF(X:Cx)(e:Expr)(f:Env->Option (List D)):Prop:=PE X e (tF X.K f)
def Ii(K:W.Frag)(f:Env->Option Bool):TT:=fun σ H Q=>∃HF ρ b,aQ HF H/\cE K HF ρ σ/\f ρ=some b/\∀H' HF',cw HF H HF' H'->Q b H'
def DT(X:Cx)(e:Expr)(f:Env->Option Bool):Prop:=PT X e (Ii X.K f)
def L6(K:W.Frag)(f:Env->Option (List D)):TA:=fun σ H Q=>∃HF ρ ds,aQ HF H/\cE K HF ρ σ/\f ρ=some ds/\∀vs H' HF',cw HF H HF' H'->aq K HF' ds vs->Q vs H'
def DA(X:Cx)(es:List Expr)(f:Env->Option (List D)):Prop:=PA X es (L6 X.K f)
section
theorem aX(h:PE X e t)(i:∀σ H Q,t' σ H Q->t σ H Q):PE X e t':=fun pins s σ H Q I q=>h pins s σ H Q I (i σ H Q q)
theorem rZ(h:PT X e t)(i:∀σ H Q,t' σ H Q->t σ H Q):PT X e t':=fun pins s σ H Q I q=>h pins s σ H Q I (i σ H Q q)
theorem CF(h:PA X e t)(i:∀σ H Q,t' σ H Q->t σ H Q):PA X e t':=fun pos pins s σ H Q I q=>h pos pins s σ H Q I (i σ H Q q)
theorem bs(h:x.bind f=some b):∃a,x=some a/\f a=some b:=by
 cases x with
 | none=>cases h
 | some a=>exact⟨a,rfl,h⟩
theorem DF.de(h:DF X e f):DE X e (fun ρ=>(f ρ).map PyData.list):=aX h fun σ H Q ⟨HF,ρ,d,sm,eo,hf,q⟩=>by
 have hf:(f ρ).map PyData.list=some d:=hf
 cases e1:f ρ with
 | none=>rw[e1] at hf;cases hf
 | some ds =>
  rw[e1] at hf
  obtain rfl:PyData.list ds=d:=xD hf
  refine⟨HF,ρ,ds,sm,eo,e1,fun a vs H' HF' g ha hf' h' r=>q _ _ (upd HF' a (.lst vs)) (g.freeze ha h' hf') ?_⟩
  simp only[Rep]
  exact⟨a,vs,rfl,.inl (.inl aJ),r.mono (da hf')⟩
def ab(i:Nat):Env->Option D:=fun ρ=>(ρ[i]?).getD none
theorem J4(i:Nat)(hN:X.N[i]?=some x)(hv:Hb X.env.scope x)(hd:(x == ("__debug__":Str))=false:=by decide)(hcd:(x == ("__classdict__":Str))=false:=by decide):DE X (.Name x pos) (ab i) :=
 aX (oF hN hv hd hcd) fun σ H Q ⟨HF,ρ,d,sm,eo,hf,q⟩=>by
  have hf:(ρ[i]?).getD none=some d:=hf
  cases e:ρ[i]? with
  | none=>rw[e] at hf;cases hf
  | some o =>
   rw[e] at hf
   have hf:o=some d:=hf
   subst hf
   obtain⟨v,a,b⟩:=eo.get i d e
   exact⟨v,a,q v H HF (.refl sm) b⟩
def fC(d:D):Env->Option D:=fun _=>some d
theorem Il{i j pos}:DE X (.Constant (.int i) j pos) (fC (.int i)):=aX JY fun σ H Q ⟨HF,ρ,d,sm,eo,hf,q⟩=>by cases hf;exact q _ H HF (.refl sm) (by simp[Rep])
theorem KQ{b j pos}:DE X (.Constant (.bool b) j pos) (fC (.bool b)):=aX K4 fun σ H Q ⟨HF,ρ,d,sm,eo,hf,q⟩=>by cases hf;exact q _ H HF (.refl sm) (by simp[Rep])
theorem HS{j pos}:DE X (.Constant .none j pos) (fC .none):=aX Jt fun σ H Q ⟨HF,ρ,d,sm,eo,hf,q⟩=>by cases hf;exact q _ H HF (.refl sm) (by simp[Rep])
theorem JM{x j pos}:DE X (.Constant (.str x) j pos) (fC (.str x)):=aX Jd fun σ H Q ⟨HF,ρ,d,sm,eo,hf,q⟩=>by cases hf;exact q _ H HF (.refl sm) (by simp[Rep])
theorem GF(hg:Gl X x)(hm:X.mg x=some (.int i t))(hd:(x == ("__debug__":Str))=false:=by decide):DE X (.Name x pos) (fC (.int i)) :=
 aX (Gg (v:=.int i) hg hm ⟨t,rfl⟩ hd) fun σ H Q ⟨HF,ρ,d,sm,eo,hf,q⟩=>by cases hf;exact q _ H HF (.refl sm) (by simp[Rep])
def eN(K:W.Frag)(r:R2)(g:D->D->Option D):Prop:=∀HF H x y v1 v2 d Q,aQ HF H->Rep K HF x v1->Rep K HF y v2->g x y=some d->(∀v H' HF',cw HF H HF' H'->Rep K HF' d v->Q v H')->r v1 v2 H Q
def f2(g:D->D->Option D)(f1 f2:Env->Option D):Env->Option D:=fun ρ=>(f1 ρ).bind fun x=>(f2 ρ).bind fun y=>g x y
theorem F5{X:Cx}{fa fb:Env->Option D}(hr:eN X.K r g):∀σ H Q,tD X.K (f2 g fa fb) σ H Q->Ky r (tD X.K fa) (tD X.K fb) σ H Q:=fun σ H Q ⟨HF,ρ,d,sm,eo,hf,q⟩=>by
 obtain⟨x,hx,hf⟩:=bs hf
 obtain⟨y,hy,hg⟩:=bs hf
 exact⟨HF,ρ,x,sm,eo,hx,fun v1 H1 HF1 g1 r1=>⟨HF1,ρ,y,g1.fh,eo.mono g1.ff,hy,fun v2 H2 HF2 g2 r2=>hr HF2 H2 x y v1 v2 d Q g2.fh (r1.mono g2.ff) r2 hg fun v H' HF' g3 r3=>q v H' HF' ((g1.trans g2).trans g3) r3⟩⟩
theorem uv(ho:gz X (binaryOp op) r)(hr:eN X.K r g)(ha:DE X a fa)(hb:DE X b fb):DE X (.BinOp a op b pos) (f2 g fa fb):=aX (G6 ho ha hb) (F5 hr)
theorem iZ(ho:gz X (compareOp op) r)(hr:eN X.K r g)(ha:DE X a fa)(hb:DE X b fb)(hm:behindInMarks op b=false):DE X (.Compare a [op] [b] pos) (f2 g fa fb):=aX (Gy ho ha hb hm) (F5 hr)
def sZ(C:Int->Int->Prop)[∀i j,Decidable (C i j)](g:Int->Int->D):D->D->Option D
 | .int i,.int j=>if C i j then some (g i j) else none
 | _,_=>none
theorem Di{K:W.Frag}{C:Int->Int->Prop}[∀i j,Decidable (C i j)]{gi:Int->Int->Int}:eN K (rI C fun i j=>.int (gi i j)) (sZ C fun i j=>.int (gi i j)):=by
 intro HF H x y v1 v2 d Q sm r1 r2 hg q
 cases x<;>cases y<;>simp only[sZ] at hg<;>try cases hg
 rename_i i j
 simp only[Rep] at r1 r2
 by_cases hc:C i j
 ·rw[yL hc] at hg
  cases hg
  exact⟨i,j,r1,r2,hc,q _ H HF (.refl sm) (by simp[Rep])⟩
 ·rw[yN hc] at hg;cases hg
theorem B6{K:W.Frag}{gi:Int->Int->Int}:eN K (E9 fun i j=>.int (gi i j)) (sZ (fun _ _=>True) fun i j=>.int (gi i j)):=by
 intro HF H x y v1 v2 d Q sm r1 r2 hg q
 cases x<;>cases y<;>simp only[sZ] at hg<;>try cases hg
 rename_i i j
 simp only[Rep] at r1 r2
 exact⟨i,j,r1,r2,q _ H HF (.refl sm) (by simp[Rep])⟩
theorem i6{K:W.Frag}{gi:Int->Int->Bool}:eN K (E9 fun i j=>.bl (gi i j)) (sZ (fun _ _=>True) fun i j=>.bool (gi i j)):=by
 intro HF H x y v1 v2 d Q sm r1 r2 hg q
 cases x<;>cases y<;>simp only[sZ] at hg<;>try cases hg
 rename_i i j
 simp only[Rep] at r1 r2
 exact⟨i,j,r1,r2,q _ H HF (.refl sm) (by simp[Rep])⟩
noncomputable instance (i j:Int):Decidable (su i j):=by unfold su;infer_instance
noncomputable instance (i j:Int):Decidable (Fp i j):=by unfold Fp;infer_instance
end
section
variable {X:Cx}{a b c:Expr}{fa fb fc:Env->Option D}{pos:Pos}{rest:List Expr}
def iC(fa fb:Env->Option D):Env->Option D:=fun ρ=>(fa ρ).bind fun|.bool true=>fb ρ|.bool false=>some (.bool false)|_=>none
def Mz(fa fb:Env->Option D):Env->Option D:=fun ρ=>(fa ρ).bind fun|.bool true=>some (.bool true)|.bool false=>fb ρ|_=>none
def K3:D->Option D|.bool b=>some (.bool (!b))|_=>none
def Mu(fa:Env->Option D):Env->Option D:=fun ρ=>(fa ρ).bind K3
theorem HN{op}(h:DE X a fa):DE X (.BoolOp op [a] pos) fa:=II h
theorem Jz(ha:DE X a fa)(hb:DE X (.BoolOp .And (b::rest) pos) fb):DE X (.BoolOp .And (a::b::rest) pos) (iC fa fb):=aX (HL ha hb) fun σ H Q ⟨HF,ρ,d,sm,eo,hf,q⟩=>by
 obtain⟨x,hx,hf⟩:=bs hf
 refine⟨HF,ρ,x,sm,eo,hx,fun v1 H1 HF1 g1 r1=>?_⟩
 cases x<;>try cases hf
 rename_i k
 simp only[Rep] at r1
 refine⟨k,r1,?_⟩
 cases k with
 | true=>exact uA ⟨HF1,ρ,d,g1.fh,eo.mono g1.ff,hf,fun v H' HF' g r=>q v H' HF' (g1.trans g) r⟩
 | false=>cases hf;exact tQ (q _ H1 HF1 g1 (by simp[Rep]))
theorem KW(ha:DE X a fa)(hb:DE X (.BoolOp .Or (b::rest) pos) fb):DE X (.BoolOp .Or (a::b::rest) pos) (Mz fa fb):=aX (DK ha hb) fun σ H Q ⟨HF,ρ,d,sm,eo,hf,q⟩=>by
 obtain⟨x,hx,hf⟩:=bs hf
 refine⟨HF,ρ,x,sm,eo,hx,fun v1 H1 HF1 g1 r1=>?_⟩
 cases x<;>try cases hf
 rename_i k
 simp only[Rep] at r1
 refine⟨k,r1,?_⟩
 cases k with
 | false=>exact tQ ⟨HF1,ρ,d,g1.fh,eo.mono g1.ff,hf,fun v H' HF' g r=>q v H' HF' (g1.trans g) r⟩
 | true=>cases hf;exact uA (q _ H1 HF1 g1 (by simp[Rep]))
def gB:D->Option Bool|.bool b=>some b|_=>none
def fB(f:Env->Option D):Env->Option Bool:=fun ρ=>(f ρ).bind gB
theorem wW:∀σ H (Q:Bool->Hp->Prop),Ii X.K (fB f) σ H Q->tD X.K f σ H fun x H1=>∃c,x=.bl c/\Q c H1:=fun σ H Q ⟨HF,ρ,k,sm,eo,hf,q⟩=>by
 obtain⟨x,hx,hf⟩:=bs hf
 refine⟨HF,ρ,x,sm,eo,hx,fun v1 H1 HF1 g1 r1=>?_⟩
 cases x<;>try cases hf
 simp only[Rep] at r1
 exact⟨_,r1,q H1 HF1 g1⟩
theorem J6(h:DE X a f)(he:∀whole,isTrue a X.env whole=(do let v <- whole;standAt a.pos;holding [v] (truthy v)):=by intro _;rfl):DT X a (fB f):=rZ (JI h he) wW
theorem iJ(ho:gz X (compareOp op) r)(hr:eN X.K r g)(ha:DE X a fa)(hb:DE X b fb)(hm:behindInMarks op b=false):DT X (.Compare a [op] [b] pos) (fB (f2 g fa fb)) :=
 rZ (FH ho ha hb hm) fun σ H Q h=>F5 hr σ H _ (wW σ H Q h)
def cn(fa fb:Env->Option Bool):Env->Option Bool:=fun ρ=>(fa ρ).bind fun|true=>fb ρ|false=>some false
def ka(fa fb:Env->Option Bool):Env->Option Bool:=fun ρ=>(fa ρ).bind fun|true=>some true|false=>fb ρ
def bc(fa:Env->Option Bool):Env->Option Bool:=fun ρ=>(fa ρ).map (!·)
variable {ta tb:Env->Option Bool}
def DW(X:Cx)(e:Expr)(f:Env->Option Bool):Prop:=PW X e (Ii X.K f)
theorem B0(h:PW X e t)(i:∀σ H Q,t' σ H Q->t σ H Q):PW X e t':=fun wh pins s σ H Q I q=>h wh pins s σ H Q I (i σ H Q q)
theorem DW.dt(h:DW X a ta):DT X a ta:=PW.pt h
theorem E2(ha:DT X a ta):DW X (.BoolOp .And [a] pos) ta:=Gb ha
theorem Ic(ha:DT X a ta):DW X (.BoolOp .Or [a] pos) ta:=IZ ha
theorem IU(ha:DT X a ta)(hb:DW X (.BoolOp .And (b::rest) pos) tb):DW X (.BoolOp .And (a::b::rest) pos) (cn ta tb):=B0 (IX ha hb) fun σ H Q ⟨HF,ρ,d,sm,eo,hf,q⟩=>by
 obtain⟨x,hx,hf⟩:=bs hf
 refine⟨HF,ρ,x,sm,eo,hx,fun H1 HF1 g1=>?_⟩
 cases x with
 | true=>exact uA ⟨HF1,ρ,d,g1.fh,eo.mono g1.ff,hf,fun H' HF' g=>q H' HF' (g1.trans g)⟩
 | false=>cases hf;exact tQ (q H1 HF1 g1)
theorem Kz(ha:DT X a ta)(hb:DW X (.BoolOp .Or (b::rest) pos) tb):DW X (.BoolOp .Or (a::b::rest) pos) (ka ta tb):=B0 (K5 ha hb) fun σ H Q ⟨HF,ρ,d,sm,eo,hf,q⟩=>by
 obtain⟨x,hx,hf⟩:=bs hf
 refine⟨HF,ρ,x,sm,eo,hx,fun H1 HF1 g1=>?_⟩
 cases x with
 | false=>exact tQ ⟨HF1,ρ,d,g1.fh,eo.mono g1.ff,hf,fun H' HF' g=>q H' HF' (g1.trans g)⟩
 | true=>cases hf;exact uA (q H1 HF1 g1)
theorem Im(ha:DT X a ta):DT X (.UnaryOp .Not a pos) (bc ta):=rZ (Iu ha) fun σ H Q ⟨HF,ρ,d,sm,eo,hf,q⟩=>by
 have hf:(ta ρ).map (!·)=some d:=hf
 cases e:ta ρ with
 | none=>rw[e] at hf;cases hf
 | some k=>rw[e] at hf;cases hf;exact⟨HF,ρ,k,sm,eo,e,fun H1 HF1 g1=>q H1 HF1 g1⟩
def MU(tc:Env->Option Bool)(fa fb:Env->Option D):Env->Option D:=fun ρ=>(tc ρ).bind fun|true=>fa ρ|false=>fb ρ
theorem Lw(hc:DT X c ta)(ha:DE X a fa)(hb:DE X b fb):DE X (.IfExp c a b pos) (MU ta fa fb):=aX (C8 hc ha hb) fun σ H Q ⟨HF,ρ,d,sm,eo,hf,q⟩=>by
 obtain⟨x,hx,hf⟩:=bs hf
 refine⟨HF,ρ,x,sm,eo,hx,fun H1 HF1 g1=>?_⟩
 cases x with
 | true=>exact uA ⟨HF1,ρ,d,g1.fh,eo.mono g1.ff,hf,fun v H' HF' g r=>q v H' HF' (g1.trans g) r⟩
 | false=>exact tQ ⟨HF1,ρ,d,g1.fh,eo.mono g1.ff,hf,fun v H' HF' g r=>q v H' HF' (g1.trans g) r⟩
def iY(g g':D->D->Option D)(fa fb fc:Env->Option D):Env->Option D:=fun ρ=>(fa ρ).bind fun x=>(fb ρ).bind fun y=>(g x y).bind fun|.bool true=>(fc ρ).bind fun z=>g' y z|.bool false=>some (.bool false)|_=>none
theorem zv(hr:eN X.K r g)(hr':eN X.K r' g'):∀σ H Q,tD X.K (iY g g' fa fb fc) σ H Q->vn r r' (tD X.K fa) (tD X.K fb) (tD X.K fc) σ H Q:=fun σ H Q ⟨HF,ρ,d,sm,eo,hf,q⟩=>by
 obtain⟨x,hx,hf⟩:=bs hf
 obtain⟨y,hy,hf⟩:=bs hf
 obtain⟨z,hz,hf⟩:=bs hf
 refine⟨HF,ρ,x,sm,eo,hx,fun v1 H1 HF1 g1 r1=>⟨HF1,ρ,y,g1.fh,eo.mono g1.ff,hy,fun v2 H2 HF2 g2 r2=>hr HF2 H2 x y v1 v2 z _ g2.fh (r1.mono g2.ff) r2 hz fun v3 H3 HF3 g3 r3=>?_⟩⟩
 cases z<;>try cases hf
 rename_i k
 simp only[Rep] at r3
 refine⟨k,r3,?_⟩
 have G:=(g1.trans g2).trans g3
 cases k with
 | false=>cases hf;exact tQ (q _ H3 HF3 G (by simp[Rep]))
 | true =>
  obtain⟨w,hw,hg⟩:=bs hf
  exact uA ⟨HF3,ρ,w,G.fh,eo.mono G.ff,hw,fun v4 H4 HF4 g4 r4=>hr' HF4 H4 y w v2 v4 d Q g4.fh (r2.mono (g3.ff.trans g4.ff)) r4 hg fun v H' HF' g5 r5=>q v H' HF' ((G.trans g4).trans g5) r5⟩
theorem EE(ho:gz X (compareOp op) r)(hr:eN X.K r g)(ho':gz X (compareOp op') r')(hr':eN X.K r' g')(ha:DE X a fa)(hb:DE X b fb)(hc:DE X c fc)
  (hm:lastMarks [op,op'] [b,c]=false:=by with_unfolding_all rfl):DE X (.Compare a [op,op'] [b,c] pos) (iY g g' fa fb fc):=aX (DH ho ho' ha hb hc hm) (zv hr hr')
theorem Cq(ho:gz X (compareOp op) r)(hr:eN X.K r g)(ho':gz X (compareOp op') r')(hr':eN X.K r' g')(ha:DE X a fa)(hb:DE X b fb)(hc:DE X c fc)
  (hm:lastMarks [op,op'] [b,c]=false:=by with_unfolding_all rfl):DT X (.Compare a [op,op'] [b,c] pos) (fB (iY g g' fa fb fc)) :=
 rZ (DZ ho ho' ha hb hc hm) fun σ H Q h=>zv hr hr' σ H _ (wW σ H Q h)
def af:Env->Option (List D):=fun _=>some []
def aa(f:Env->Option D)(g:Env->Option (List D)):Env->Option (List D):=fun ρ=>(f ρ).bind fun x=>(g ρ).map (x::·)
theorem Dr:DA X [] af:=CF ft fun σ H Q ⟨HF,ρ,d,sm,eo,hf,q⟩=>by cases hf;exact q [] H HF (.refl sm) aq.nil
theorem zq(he:DE X e f)(hs:DA X es g)(hst:starEach (e::es) X.env=(false,eval e X.env)::starEach es X.env:=by rfl):DA X (e::es) (aa f g) :=
 CF (cJ he hs hst) fun σ H Q ⟨HF,ρ,d,sm,eo,hf,q⟩=>by
  obtain⟨x,hx,hf⟩:=bs hf
  have hf:(g ρ).map (x::·)=some d:=hf
  cases e1:g ρ with
  | none=>rw[e1] at hf;cases hf
  | some xs =>
   rw[e1] at hf;cases hf
   exact⟨HF,ρ,x,sm,eo,hx,fun v1 H1 HF1 g1 r1=>⟨HF1,ρ,xs,g1.fh,eo.mono g1.ff,e1,fun vs H2 HF2 g2 r2=>q (v1::vs) H2 HF2 (g1.trans g2) (aq.cons (r1.mono g2.ff) r2)⟩⟩
variable {es:List Expr}{fs:Env->Option (List D)}
def small(ds:List D):Option (List D):=if ds.length<=sizeLine then some ds else none
theorem dF{ds es:List D}(h:small ds=some es):es=ds/\ds.length<=sizeLine:=by
 unfold small at h
 split at h
 ·cases h;exact⟨rfl,‹_›⟩
 ·cases h
def aV(g:Env->Option (List D)):Env->Option D:=fun ρ=>(g ρ).bind fun ds=>(small ds).map PyData.tuple
def eA(g:Env->Option (List D)):Env->Option (List D):=fun ρ=>(g ρ).bind small
theorem Iz{x1}(h:DA X es fs):DE X (.Tuple es x1 pos) (aV fs):=aX (Ir h) fun σ H Q ⟨HF,ρ,d,sm,eo,hf,q⟩=>by
 obtain⟨ds,hx,hf⟩:=bs hf
 have hf:(small ds).map PyData.tuple=some d:=hf
 cases e:small ds with
 | none=>rw[e] at hf;cases hf
 | some es' =>
  rw[e] at hf;cases hf
  obtain⟨rfl,hz⟩:=dF e
  refine⟨HF,ρ,_,sm,eo,hx,fun vs H1 HF1 g1 r1=>⟨by rw[r1.length];exact hz,fun p hp=>q _ _ (upd HF1 p (.tup vs)) (g1.trans (.new g1.fh hp)) ?_⟩⟩
  simp only[Rep]
  exact⟨p,vs,rfl,.inl (.inl aJ),r1.mono (da (g1.fh.free hp))⟩
theorem IB(h:DA X es fs):DF X (.List es pos) (eA fs):=aX (JV h) fun σ H Q ⟨HF,ρ,d,sm,eo,hf,q⟩=>by
 obtain⟨ds,hx,hf⟩:=bs hf
 obtain⟨rfl,hz⟩:=dF hf
 exact⟨HF,ρ,_,sm,eo,hx,fun vs H1 HF1 g1 r1=>⟨by rw[r1.length];exact hz,fun p hp=>q p vs _ HF1 (g1.trans (.own g1.fh hp)) (g1.hh.free hp) (g1.fh.free hp) aJ r1⟩⟩
def av:D->D->Option D
 | .tuple ds,.int i=>rM ds i
 | .list ds,.int i=>rM ds i
 | _,_=>none
theorem uX{K:W.Frag}(r:aq K HF ds vs)(h:rM ds i=some d):∃v,rM vs i=some v/\Rep K HF d v:=by
 unfold rM at h ⊢
 rw[r.length]
 obtain⟨j,hj,h⟩:=bs h
 obtain⟨v,a,b⟩:=r.getD h
 exact⟨v,by rw[hj];exact a,b⟩
theorem J1{K:W.Frag}:eN K (M0 K) av:=by
 intro HF H x y v1 v2 d Q sm r1 r2 hg q
 cases x<;>cases y<;>simp only[av] at hg<;>try cases hg
 ·simp only[Rep] at r1 r2
  obtain⟨a,vs,rfl,hs,r⟩:=r1
  obtain⟨v,hv,rv⟩:=uX r hg
  exact .inl ⟨a,vs,_,v,rfl,r2,sm.seq hs,hv,q v H HF (.refl sm) rv⟩
 ·simp only[Rep] at r1 r2
  obtain⟨a,vs,rfl,hs,r⟩:=r1
  obtain⟨v,hv,rv⟩:=uX r hg
  exact .inr (.inl ⟨a,vs,_,v,rfl,r2,aA sm hs,hv,q v H HF (.refl sm) rv⟩)
theorem Kt(ha:DE X a fa)(hb:DE X b fb)(hs:sk b:=by intro _ _;rfl):DE X (.Subscript a b pos) (f2 av fa fb):=aX (KO JO ha hb hs) (F5 J1)
mutual
theorem e8{pins:List (Addr×Obj)}{σ:L2.St}{H HF:Hp}{s:Shared}(I:Inv X pins σ H s)(sm:aQ HF H):∀ {d:D}{v:V}{u:Value},Rep X.K HF d v->RelV v u->∃as,Reads s.heap u d as
 | .none,_,_,h,r=>by simp only[Rep] at h;subst h;cases r;exact⟨_,.none⟩
 | .bool b,_,_,h,r=>by simp only[Rep] at h;subst h;cases r;exact⟨_,.bool b⟩
 | .int i,_,_,h,r=>by simp only[Rep] at h;subst h;obtain⟨t,rfl⟩:=r;exact⟨_,.int i t⟩
 | .str i,_,_,h,r=>by simp only[Rep] at h;subst h;obtain⟨t,rfl⟩:=r;exact⟨_,.str i t⟩
 | .tuple ds,_,_,h,r=>by
  simp only[Rep] at h
  obtain⟨a,vs,rfl,hs,rr⟩:=h
  cases r
  obtain⟨its,rv,⟨o,ho,hc,n,hd⟩,_⟩:=I.tuple (aA sm hs)
  obtain⟨as,q⟩:=mY I sm rr rv
  exact⟨as,.tuple ho hc hd (by simpa using q)⟩
 | .list ds,_,_,h,r=>by
  simp only[Rep] at h
  obtain⟨a,vs,rfl,hs,rr⟩:=h
  cases r
  obtain⟨its,rv,pl,_⟩:=I.list (sm.seq hs)
  obtain⟨o,ho,hc,n,hd⟩:=pl.isList
  obtain⟨as,q⟩:=mY I sm rr rv
  exact⟨_,.list ho hc hd (by simpa using q)⟩
 | .dict _,_,_,h,r=>by simp only[Rep] at h
theorem mY{pins:List (Addr×Obj)}{σ:L2.St}{H HF:Hp}{s:Shared}(I:Inv X pins σ H s)(sm:aQ HF H):∀ {ds:List D}{vs:List V}{us:List Value},aq X.K HF ds vs->aF vs us->∃as,ReadsAll s.heap us ds as
 | [],_,_,h,r=>by rw[h.nil_inv] at r;cases r;exact⟨_,.nil⟩
 | d::ds,_,_,h,r=>by
  obtain⟨v,vr,rfl,a,b⟩:=h.cons_inv
  cases r with
  | cons r rr =>
   obtain⟨as,q⟩:=e8 I sm a r
   obtain⟨bs,p⟩:=mY I sm b rr
   exact⟨_,.cons q p⟩
end
def K6(K:W.Frag)(g:D->D->Option Bool):R2:=fun v1 v2 H Q=>∃HF x y k,aQ HF H/\Rep K HF x v1/\Rep K HF y v2/\g x y=some k/\Q (.bl k) H
theorem ip{K:W.Frag}:eN K (K6 K g) (fun x y=>(g x y).map PyData.bool):=by
 intro HF H x y v1 v2 d Q sm r1 r2 hg q
 have hg:(g x y).map PyData.bool=some d:=hg
 cases e:g x y with
 | none=>rw[e] at hg;cases hg
 | some k=>rw[e] at hg;cases hg;exact⟨HF,x,y,k,sm,r1,r2,e,q _ H HF (.refl sm) (by simp[Rep])⟩
def Jm(x y:D):Option Bool:=if SeqAt.shaped x=true/\SeqAt.shaped y=true then some (PyData.eqv x y) else none
def Kv(x y:D):Option Bool:=if SeqAt.shaped x=true/\SeqAt.shaped y=true then some (!PyData.eqv x y) else none
theorem D2(hu:X.A.units+64 < cLine):gz X (compareOp .Eq) (K6 X.K Jm):=by
 intro pins s σ H v1 v2 u1 u2 Q I rx ry h
 obtain⟨HF,x,y,k,sm,r1,r2,hg,q⟩:=h
 unfold Jm at hg
 split at hg<;>cases hg
 rename_i hh
 obtain⟨as,ra⟩:=e8 I sm r1 rx
 obtain⟨bs,rb⟩:=e8 I sm r2 ry
 exact eq_dataH ra rb hh.1 hh.2 hu ⟨.bl _,H,I,rfl,q⟩
theorem EL(hu:X.A.units+64 < cLine):gz X (compareOp .NotEq) (K6 X.K Kv):=by
 intro pins s σ H v1 v2 u1 u2 Q I rx ry h
 obtain⟨HF,x,y,k,sm,r1,r2,hg,q⟩:=h
 unfold Kv at hg
 split at hg<;>cases hg
 rename_i hh
 obtain⟨as,ra⟩:=e8 I sm r1 rx
 obtain⟨bs,rb⟩:=e8 I sm r2 ry
 exact ne_dataH ra rb hh.1 hh.2 hu ⟨.bl _,H,I,rfl,q⟩
def items:D->Option (List D)|.tuple ds=>some ds|.list ds=>some ds|_=>none
def LJ(x y:D):Option Bool:=match y with
 | .tuple ds=>if SeqAt.shaped x=true/\SeqAt.shaped y=true then some (ds.any fun z=>PyData.eqv z x) else none
 | .list ds=>if SeqAt.shaped x=true/\SeqAt.shaped y=true then some (ds.any fun z=>PyData.eqv z x) else none
 | _=>none
theorem C4(hu:X.A.units+66 < cLine):gz X (compareOp .In) (K6 X.K LJ):=by
 intro pins s σ H v1 v2 u1 u2 Q I rx ry h
 obtain⟨HF,x,y,k,sm,r1,r2,hg,q⟩:=h
 obtain⟨as,ra⟩:=e8 I sm r1 rx
 obtain⟨bs,rb⟩:=e8 I sm r2 ry
 cases y<;>simp only[LJ] at hg<;>try cases hg
 all_goals
  split at hg<;>cases hg
  rename_i ds hh
  have c1:=SeqAt.canLay_of_shaped hh.1
  have c2:=SeqAt.canLay_of_shaped hh.2
  have d1:=SeqAt.depth_of_shaped hh.1
  simp only[PyData.canLay0] at c2
  have m:=Nat.min_le_right (PyData.depthAll ds) x.depth
  first
   | exact SeqAt.in_list_reads rb ra c2 c1 (by omega) ⟨.bl _,H,I,rfl,q⟩
   | exact SeqAt.in_tuple_reads rb ra c2 c1 (by omega) ⟨.bl _,H,I,rfl,q⟩
end
def Lv(K:W.Frag)(n:Nat)(m:List D->Option D):Sp:=fun vs H Q _=>∃HF ds d,aQ HF H/\fj K HF/\aq K HF ds vs/\ds.length=n/\m ds=some d/\∀v H' HF',cw HF H HF' H'->Rep K HF' d v->Q v H'
structure EF(P:Program)(w:World)(K:W.Frag)(mg:Str->Option Value)(base:Heap)(k:Nat)(x:Str)(n:Nat)(m:List D->Option D):Prop where
 ex:∃ (f:Addr) (fd:FuncData) (ps:List Str),oD P w K mg base Kb k f fd ps (Lv K n m)/\mg x=some (.ref f)/\W.keepIn K (.ref f)=true/\Binds K fd ps []
theorem EF.mono{K:W.Frag}(F:EF P w K mg base k x n m)(h:k<=j):EF P w K mg base j x n m:=by
 obtain⟨f,fd,ps,a,b,c,d⟩:=F.ex
 exact⟨f,fd,ps,a.mono h,b,c,d⟩
section
def ah(n:Nat)(m:List D->Option D)(fs:Env->Option (List D)):Env->Option D:=fun ρ=>(fs ρ).bind fun ds=>if ds.length=n then m ds else none
theorem GD(F:EF X.prog X.w X.K X.mg X.base k x n m)(hr:dW k X.A)(hg:Gl X x)(ha:DA X (e::es) fs)(hdb:(x == ("__debug__":Str))=false:=by decide)
  (he:starEach (e::es) X.env=(false,eval e X.env)::starEach es X.env:=by rfl) (hpl:(backTo pos (starEach es X.env)).any (·.1)=false:=by rfl):DE X (.Call (.Name x p) (e::es) [] pos) (ah n m fs):=by
 obtain⟨f,fd,ps,ok,hm,hk,hb⟩:=F.ex
 refine aX (Fv (E:=E0) ok hr hg hm hk hb .nil KZ ha hdb he hpl) fun σ H Q ⟨HF,ρ,d,sm,eo,hf,q⟩=>?_
 obtain⟨ds,hx,hf⟩:=bs hf
 split at hf
 ·rename_i hl
  exact⟨HF,ρ,ds,sm,eo,hx,fun vs H1 HF1 g1 r1=>⟨HF1,ds,d,g1.fh,eo.tb.mono g1.ff,by rw[qF];exact r1,hl,hf,fun v H' HF' g r=>q v H' HF' (g1.trans g) r⟩⟩
 ·cases hf
def Cb(K:W.Frag)(r:List V->Hp->VK->Prop)(g:List D->Option D):Prop:=∀HF H ds vs d Q,aQ HF H->aq K HF ds vs->g ds=some d->(∀v H' HF',cw HF H HF' H'->Rep K HF' d v->Q v H')->r vs H Q
def ba(g:List D->Option D)(fs:Env->Option (List D)):Env->Option D:=fun ρ=>(fs ρ).bind g
theorem KL{X:Cx}{fs:Env->Option (List D)}(hs:Cb X.K r g):∀σ H Q,tD X.K (ba g fs) σ H Q->LP r (L6 X.K fs) σ H Q:=fun σ H Q ⟨HF,ρ,d,sm,eo,hf,q⟩=>by
 obtain⟨ds,hx,hf⟩:=bs hf
 exact⟨HF,ρ,ds,sm,eo,hx,fun vs H1 HF1 g1 r1=>hs HF1 H1 ds vs d Q g1.fh r1 hf fun v H' HF' g2 r2=>q v H' HF' (g1.trans g2) r2⟩
def Hz(K:W.Frag)(r:List V->Hp->VK->Prop)(g:List D->Option (List D)):Prop:=∀HF H ds vs es Q,aQ HF H->aq K HF ds vs->g ds=some es ->
 (∀a us H' HF',cw HF H HF' H'->H a=none->HF' a=none->H' a=some (.lst us)->aq K HF' es us->Q (.ref a) H')->r vs H Q
def pH(g:List D->Option (List D))(fs:Env->Option (List D)):Env->Option (List D):=fun ρ=>(fs ρ).bind g
theorem La{X:Cx}{fs:Env->Option (List D)}(hs:Hz X.K r g):∀σ H Q,tF X.K (pH g fs) σ H Q->LP r (L6 X.K fs) σ H Q:=fun σ H Q ⟨HF,ρ,d,sm,eo,hf,q⟩=>by
 obtain⟨ds,hx,hf⟩:=bs hf
 exact⟨HF,ρ,ds,sm,eo,hx,fun vs H1 HF1 g1 r1=>hs HF1 H1 ds vs d Q g1.fh r1 hf fun a us H' HF' g2 ha hf' h' r2=>q a us H' HF' (g1.trans g2) (g1.hh.free ha) hf' h' r2⟩
structure nR(X:Cx)(x:Str)(v:Value):Prop where
 gl:Gl X x
 mg:X.mg x=none
 bt:bootBuiltins x=some v
theorem gE{id:String}(hc:du X (.builtin id) r)(hs:Cb X.K r g)(B:nR X x (.builtin id))(ha:DA X (e::es) fs)(hn:x≠"__name__":=by decide)(hdb:(x == ("__debug__":Str))=false:=by decide)
  (he:starEach (e::es) X.env=(false,eval e X.env)::starEach es X.env:=by rfl) (hpl:(backTo pos (starEach es X.env)).any (·.1)=false:=by rfl):DE X (.Call (.Name x p) (e::es) [] pos) (ba g fs) :=
 aX (jc hc B.gl B.mg B.bt ha hn hdb he hpl) (KL hs)
theorem Eh{id:String}(hc:du X (.builtin id) r)(hs:Hz X.K r g)(B:nR X x (.builtin id))(ha:DA X (e::es) fs)(hn:x≠"__name__":=by decide)(hdb:(x == ("__debug__":Str))=false:=by decide)
  (he:starEach (e::es) X.env=(false,eval e X.env)::starEach es X.env:=by rfl) (hpl:(backTo pos (starEach es X.env)).any (·.1)=false:=by rfl):DF X (.Call (.Name x p) (e::es) [] pos) (pH g fs) :=
 aX (jc hc B.gl B.mg B.bt ha hn hdb he hpl) (La hs)
theorem A3(hc:du X (.type T) r)(hs:Cb X.K r g)(B:nR X x (.type T))(ha:DA X (e::es) fs)(hn:x≠"__name__":=by decide)(hdb:(x == ("__debug__":Str))=false:=by decide)
  (he:starEach (e::es) X.env=(false,eval e X.env)::starEach es X.env:=by rfl) (hpl:(backTo pos (starEach es X.env)).any (·.1)=false:=by rfl):DE X (.Call (.Name x p) (e::es) [] pos) (ba g fs) :=
 aX (mN hc B.gl B.mg B.bt ha hn hdb he hpl) (KL hs)
def fN:D->Option (List D)|.tuple ds=>some ds|.list ds=>some ds|_=>none
def oneOf:List D->Option D|[d]=>some d|_=>none
theorem fI(h:oneOf ds=some d):ds=[d]:=by
 cases ds with
 | nil=>cases h
 | cons x r=>cases r with
  | nil=>cases h;rfl
  | cons _ _=>cases h
theorem ki(h:fN d=some ds):d=.tuple ds\/d=.list ds:=by
 cases d<;>cases h
 ·exact .inr rfl
 ·exact .inl rfl
def d9:List D->Option (List D):=fun ds=>(oneOf ds).bind fN
theorem ja{ds es:List D}(h:d9 ds=some es):ds=[.tuple es]\/ds=[.list es]:=by
 obtain⟨d,h1,h2⟩:=bs h
 rw[fI h1]
 rcases ki h2 with rfl|rfl
 ·exact .inl rfl
 ·exact .inr rfl
def bw:List D->Option D:=fun ds=>(d9 ds).map fun es=>.int es.length
theorem ag{α β:Type}{x:Option α}{f:α->β}{b:β}(h:x.map f=some b):∃a,x=some a/\f a=b:=by
 cases x with
 | none=>cases h
 | some a=>exact⟨a,rfl,xD h⟩
theorem GP{K:W.Frag}:Cb K (fun xs H Q=>∃p ys,xs=[.ref p]/\(gn K H p ys\/gK K H p ys)/\Q (.int ys.length) H) bw:=by
 intro HF H ds vs d Q sm r hg q
 obtain⟨es,h1,rfl⟩:=ag hg
 rcases ja h1 with rfl|rfl
 all_goals
  obtain⟨v,r',rfl,a,b⟩:=r.cons_inv
  rw[b.nil_inv]
  simp only[Rep] at a
  obtain⟨p,us,rfl,h,rr⟩:=a
 ·exact⟨p,us,rfl,.inr (aA sm h),q _ H HF (.refl sm) (by simp[Rep,rr.length])⟩
 ·exact⟨p,us,rfl,.inl (sm.seq h),q _ H HF (.refl sm) (by simp[Rep,rr.length])⟩
theorem Jp(B:nR X "len" (.builtin "len"))(ha:DA X [e] fs)(he:starEach [e] X.env=(false,eval e X.env)::starEach [] X.env:=by rfl):DE X (.Call (.Name "len" p) [e] [] pos) (ba bw fs) :=
 gE rW GP B ha (by decide) (by decide) he rfl
theorem dE{K:W.Frag}(h:HF l=none)(r:aq K HF ds vs):Rep K (upd HF l (.tup vs)) (.tuple ds) (.ref l):=by
 simp only[Rep];exact⟨l,vs,rfl,.inl (.inl aJ),r.mono (da h)⟩
theorem A2{K:W.Frag}:Cb K (fun xs H Q=>∃p ys,xs=[.ref p]/\((gn K H p ys/\∀l,H l=none->Q (.ref l) (upd H l (.tup ys)))\/(gK K H p ys/\Q (.ref p) H))) (fun ds=>(d9 ds).map PyData.tuple):=by
 intro HF H ds vs d Q sm r hg q
 obtain⟨es,h1,rfl⟩:=ag hg
 rcases ja h1 with rfl|rfl
 all_goals
  obtain⟨v,r',rfl,a,b⟩:=r.cons_inv
  rw[b.nil_inv]
  have a':=a
  simp only[Rep] at a
  obtain⟨p,us,rfl,h,rr⟩:=a
 ·exact⟨p,us,rfl,.inr ⟨aA sm h,q _ H HF (.refl sm) a'⟩⟩
 ·exact⟨p,us,rfl,.inl ⟨sm.seq h,fun l hl=>q _ _ _ (.new sm hl) (dE (sm.free hl) rr)⟩⟩
theorem CJ(B:nR X "tuple" (.type "tuple"))(ha:DA X [e] fs)(he:starEach [e] X.env=(false,eval e X.env)::starEach [] X.env:=by rfl):DE X (.Call (.Name "tuple" p) [e] [] pos) (ba (fun ds=>(d9 ds).map PyData.tuple) fs) :=
 A3 pK A2 B ha (by decide) (by decide) he rfl
def fW:D->String|.none=>"NoneType" | .bool _=>"bool" | .int _=>"int" | .str _=>"str" | .tuple _=>"tuple" | .list _=>"list" | .dict _=>"dict"
def rQ(a b:String):Option Bool:=if ((Value.type a) == (Value.type b))=true then some true else if W.kitMeta b=true then (fastBuiltinMro a).map (·.contains (Value.type b)) else none
theorem GN:∀a∈["NoneType","bool","int","str","tuple","list"],rQ a "int"=some (a == "int"||a == "bool"):=by decide +kernel
theorem EJ:∀a∈["NoneType","bool","int","str","tuple","list"],rQ a "bool"=some (a == "bool"):=by decide +kernel
theorem kit_tuple:∀a∈["NoneType","bool","int","str","tuple","list"],rQ a "tuple"=some (a == "tuple"):=by decide +kernel
theorem CQ{A:Around}{E:Value->Shared->Prop}(I:Inv X pins σ H s)(sm:aQ HF H)(r:Rep X.K HF d v)(rv:RelV v u)
  (e:rQ (fW d) T=some k) (h:∀tk,Q (.bool k) { s with toks:=tk }):wpAny (model X.prog X.w) A (call (.builtin "isinstance") [u,.type T]) Q E s:=by
 have e':W.kitOne X.K (.type (fW d)) (.type T)=some k:=e
 cases d<;>simp only[Rep] at r
 ·subst r;cases rv;exact W.kia_one W.kitx_none I.kIn True.intro e' (fun z=>nomatch z) h
 ·subst r;cases rv;exact W.kia_one W.kitx_bool I.kIn True.intro e' (fun z=>nomatch z) h
 ·subst r;obtain⟨t,rfl⟩:=rv;exact W.kia_one W.kitx_int I.kIn True.intro e' (fun z=>nomatch z) h
 ·subst r;obtain⟨t,rfl⟩:=rv;exact W.kia_one W.kitx_str I.kIn True.intro e' (fun z=>nomatch z) h
 ·obtain⟨a,vs,rfl,hs,rr⟩:=r
  cases rv
  obtain⟨its,rv,pl,_⟩:=I.list (sm.seq hs)
  obtain⟨o,ho,hc,n,hd⟩:=pl.isList
  exact W.kia_one W.kitx_list I.kIn ⟨o,ho,hc⟩ e' (fun z=>nomatch z) h
 ·obtain⟨a,vs,rfl,hs,rr⟩:=r
  cases rv
  obtain⟨its,rv,⟨o,ho,hc,n,hd⟩,_⟩:=I.tuple (aA sm hs)
  exact W.kia_one W.kitx_tuple I.kIn ⟨o,ho,hc⟩ e' (fun z=>nomatch z) h
def Ht(T:String)(f:Env->Option D):Env->Option D:=fun ρ=>(f ρ).bind fun d=>(rQ (fW d) T).map PyData.bool
theorem Kl(B:nR X "isinstance" (.builtin "isinstance"))(C:nR X xT (.type T))(h:DE X e f)(hn:xT≠"__name__":=by decide)(hd:(xT == ("__debug__":Str))=false:=by decide)
  (he:starEach [e,.Name xT pT] X.env=(false,eval e X.env)::starEach [.Name xT pT] X.env:=by rfl):DE X (.Call (.Name "isinstance" p) [e,.Name xT pT] [] pos) (Ht T f):=by
 have hc:du X (.builtin "isinstance") (fun xs H Q=>∃HF d v k,xs=[v,.ty T]/\aQ HF H/\Rep X.K HF d v/\rQ (fW d) T=some k/\Q (.bl k) H):=by
  intro pins s σ H xs us Q I r h
  obtain⟨HF,d,v,k,rfl,sm,rp,hk,q⟩:=h
  cases r with
  | cons ra rr =>
   cases rr with
   | cons rb rn =>
    cases rn
    cases rb
    exact CQ I sm rp ra hk fun tk=>⟨.bl k,H,I.tok _,rfl,q⟩
 refine aX (jc hc B.gl B.mg B.bt (cJ h (cJ (FU (v:=.ty T) C.gl C.mg C.bt rfl hn hd) ft) he) (by decide) (by decide) he rfl) fun σ H Q ⟨HF,ρ,d,sm,eo,hf,q⟩=>?_
 obtain⟨x,hx,hf⟩:=bs hf
 obtain⟨k,hk,rfl⟩:=ag hf
 exact⟨HF,ρ,x,sm,eo,hx,fun v1 H1 HF1 g1 r1=>⟨HF1,x,v1,k,rfl,g1.fh,r1,hk,q _ H1 HF1 g1 (by simp[Rep])⟩⟩
def GK:D->D->Option D
 | .tuple xs,.tuple ys=>(small (xs++ys)).map PyData.tuple
 | _,_=>none
def yu(K:W.Frag):R2:=fun x y H Q=>∃a b xs ys,x=.ref a/\y=.ref b/\gK K H a xs/\gK K H b ys/\xs.length+ys.length<=sizeLine /\
 (xs=[]->Q (.ref b) H)/\(ys=[]->Q (.ref a) H)/\(∀p,H p=none->Q (.ref p) (upd H p (.tup (xs++ys))))
theorem Bc:gz X (binaryOp .Add) (yu X.K):=by
 intro pins s σ H x y v u Q I rx ry h
 obtain⟨a,b,xs,ys,rfl,rfl,ha,hb,hz,q0,q1,q2⟩:=h
 by_cases hx:xs=[]
 ·cases rx
  cases ry
  obtain⟨its,r1,p1,_⟩:=I.tuple ha
  obtain⟨its2,r2,p2,_⟩:=I.tuple hb
  obtain⟨⟨cls,dd,data,sl⟩,ho,hc,n,hd⟩:=id p1
  obtain⟨⟨cls2,dd2,data2,sl2⟩,ho2,hc2,n2,hd2⟩:=id p2
  simp only at hc hd hc2 hd2
  subst hc hd hc2 hd2
  have e:its=[]:=(L2.aF.nil_iff r1).mpr hx
  exact wL ⟨_,ho,rfl⟩ ⟨_,ho2,rfl⟩ noFill_tuple_add seq_tuple_add vM vH (vF _ _)
   (tuple_addW0 a b its.toArray its2.toArray n n2 dd dd2 sl sl2 (by simp[e])) ⟨ho,ho2,⟨.ref b,H,I,rfl,q0 hx⟩⟩
 ·exact FD pins s σ H _ _ v u Q I rx ry ⟨a,b,xs,ys,rfl,rfl,ha,hb,hx,hz,q1,fun _ p hp=>q2 p hp⟩
theorem GH{K:W.Frag}:eN K (yu K) GK:=by
 intro HF H x y v1 v2 d Q sm r1 r2 hg q
 cases x<;>cases y<;>simp only[GK] at hg<;>try cases hg
 rename_i xs ys
 obtain⟨es,h1,rfl⟩:=ag hg
 obtain⟨rfl,hz⟩:=dF h1
 have r1':=r1
 have r2':=r2
 simp only[Rep] at r1 r2
 obtain⟨a,vs,rfl,ha,ra⟩:=r1
 obtain⟨b,us,rfl,hb,rb⟩:=r2
 refine⟨a,b,vs,us,rfl,rfl,aA sm ha,aA sm hb,by rw[ra.length,rb.length,<- zN];exact hz,fun e=>?_,fun e=>?_,fun p hp=>q _ _ _ (.new sm hp) (dE (sm.free hp) (ra.append rb))⟩
 ·have:xs=[]:=by have:=ra.length;rw[e] at this;exact List.length_eq_zero_iff.mp this.symm
  subst this
  exact q _ H HF (.refl sm) r2'
 ·have:ys=[]:=by have:=rb.length;rw[e] at this;exact List.length_eq_zero_iff.mp this.symm
  subst this
  rw[qF] at q
  exact q _ H HF (.refl sm) r1'
end
structure pO(K:W.Frag)(J:It)(HF:Hp)(ds:List D):Prop where
 go:∀i d H₁ HF₁,ds[i]?=some d->aQ HF HF₁->aQ HF₁ H₁->J.go i H₁/\∀x H₂,J.yld i H₁ x H₂->∃HF₂,cw HF₁ H₁ HF₂ H₂/\Rep K HF₂ d x
 stop:∀H₁ HF₁,aQ HF HF₁->aQ HF₁ H₁->J.stop ds.length H₁
def M1(K:W.Frag)(f:Env->Option (List D)):TI:=fun σ H R=>∃HF ρ ds,aQ HF H/\cE K HF ρ σ/\f ρ=some ds/\∀J H' HF',cw HF H HF' H'->pO K J HF' ds->R J H'
def DI(X:Cx)(tg iter:Expr)(f:Env->Option (List D)):Prop:=PI X tg iter (M1 X.K f)
theorem AK{K:W.Frag}(h:gn K HF a vs)(r:aq K HF ds vs):pO K (L5 K a) HF ds where
 go:=fun i d H₁ HF₁ e s1 s2=>by
  obtain⟨v,hv,rv⟩:=r.getD e
  have q:=s2.seq (s1.seq h)
  refine⟨⟨vs,v,q,hv⟩,fun x H₂ ⟨e2,hy⟩=>⟨HF₁,by rw[e2];exact .refl s2,?_⟩⟩
  have:=hy vs q
  rw[hv] at this
  cases this
  exact rv.mono s1
 stop:=fun H₁ HF₁ s1 s2=>⟨vs,s2.seq (s1.seq h),by rw[r.length];exact yM _⟩
theorem Dd{K:W.Frag}(h:gK K HF a vs)(r:aq K HF ds vs):pO K (Mx K a) HF ds where
 go:=fun i d H₁ HF₁ e s1 s2=>by
  obtain⟨v,hv,rv⟩:=r.getD e
  have q:=aA s2 (aA s1 h)
  refine⟨⟨vs,v,q,hv⟩,fun x H₂ ⟨e2,hy⟩=>⟨HF₁,by rw[e2];exact .refl s2,?_⟩⟩
  have:=hy vs q
  rw[hv] at this
  cases this
  exact rv.mono s1
 stop:=fun H₁ HF₁ s1 s2=>⟨vs,aA s2 (aA s1 h),by rw[r.length];exact yM _⟩
theorem wZ{K:W.Frag}{lo:Int}:pO K (LI lo n) HF ((List.range n).map fun i=>PyData.int (lo+(i:Nat))) where
 go:=fun i d H₁ HF₁ e s1 s2=>by
  rw[zO] at e
  obtain⟨j,hj,rfl⟩:=ag e
  obtain⟨hi,hj'⟩:=List.getElem?_eq_some_iff.mp hj
  have hi':i < n:=by simpa using hi
  have:j=i:=by rw[<- hj'];simp
  subst this
  exact⟨hi',fun x H₂ ⟨e2,hx⟩=>⟨HF₁,by rw[e2];exact .refl s2,by simp[Rep,hx]⟩⟩
 stop:=fun H₁ HF₁ s1 s2=>by
  show n<=_
  simp
section
variable {X:Cx}{tg l e:Expr}{f:Env->Option D}{fs:Env->Option (List D)}{pos p:Pos}
theorem r9(h:PI X tg l t)(i:∀σ H R,t' σ H R->t σ H R):PI X tg l t':=fun pins s σ H R I q=>h pins s σ H R I (i σ H R q)
theorem JB(hl:PE X l tl):PI X tg l (fun σ H R=>tl σ H fun x H1=>∃a,x=.ref a/\((∃xs,gn X.K H1 a xs/\R (L5 X.K a) H1)\/∃xs,gK X.K H1 a xs/\R (Mx X.K a) H1)):=by
 intro pins s σ H R I h
 refine bW (hl pins s σ H _ I h) fun v s1 ⟨x,H1,I1,r1,q1⟩=>?_
 obtain⟨a,e,q⟩:=q1
 subst e
 cases r1
 rcases q with ⟨xs,hq,q⟩|⟨xs,hq,q⟩
 ·obtain⟨its,rv,pl,hz⟩:=I1.list hq
  refine qK pl.isList ⟨s1.heap.objs.size,[s1.heap.objs.size],_,_,H1,rfl,I1.kept (t':=s1.toks) fun b o e=>zU _ e,Bm a _,⟨_,zX _ rfl,rfl,rfl⟩,fun b hb=>?_,q⟩
  cases List.mem_singleton.mp hb
  exact I1.fpOk (yM _) I1.fresh
 ·obtain⟨its,rv,pl,hz⟩:=I1.tuple hq
  refine xR (show s1.heap.IsTuple a its.toArray from pl) ⟨s1.heap.objs.size,[s1.heap.objs.size],_,_,H1,rfl,I1.kept (t':=s1.toks) fun b o e=>zU _ e,xt a _,⟨_,zX _ rfl,rfl,rfl⟩,fun b hb=>?_,q⟩
  cases List.mem_singleton.mp hb
  exact I1.fpOk (yM _) I1.fresh
def aP(f:Env->Option D):Env->Option (List D):=fun ρ=>(f ρ).bind fN
theorem EH(h:DE X l f):DI X tg l (aP f):=r9 (JB h) fun σ H R ⟨HF,ρ,ds,sm,eo,hf,q⟩=>by
 obtain⟨x,hx,hf⟩:=bs hf
 refine⟨HF,ρ,x,sm,eo,hx,fun v1 H1 HF1 g1 r1=>?_⟩
 rcases ki hf with rfl|rfl
 ·simp only[Rep] at r1
  obtain⟨a,vs,rfl,hs,rr⟩:=r1
  exact⟨a,rfl,.inr ⟨vs,aA g1.fh hs,q _ H1 HF1 g1 (Dd hs rr)⟩⟩
 ·simp only[Rep] at r1
  obtain⟨a,vs,rfl,hs,rr⟩:=r1
  exact⟨a,rfl,.inl ⟨vs,g1.fh.seq hs,q _ H1 HF1 g1 (AK hs rr)⟩⟩
def Bt(i:Int):Bool:=decide (-(2 ^ 62)<=i)&&decide (i < 2 ^ 62)
def iI:List D->Option (List D)
 | [.int j]=>if Bt j then some ((List.range j.toNat).map fun i=>PyData.int ((i:Nat):Int)) else none
 | _=>none
theorem tV(h:iI ds=some es):∃j,ds=[.int j]/\Bt j=true/\es=(List.range j.toNat).map fun i=>PyData.int ((i:Nat):Int):=by
 unfold iI at h
 split at h
 ·split at h
  ·cases h;exact⟨_,rfl,‹_›,rfl⟩
  ·cases h
 ·cases h
def aL(fs:Env->Option (List D)):Env->Option (List D):=fun ρ=>(fs ρ).bind iI
theorem CY(B:nR X "range" (.type "range"))(h:DA X [e] fs)(hs:starEach [e] X.env=[(false,eval e X.env)]:=by rfl):DI X tg (.Call (.Name "range" p) [e] [] pos) (aL fs) :=
 r9 (BK B.gl B.mg h hs) fun σ H R ⟨HF,ρ,ds,sm,eo,hf,q⟩=>by
  obtain⟨x,hx,hf⟩:=bs hf
  obtain⟨j,rfl,hj,rfl⟩:=tV hf
  refine⟨HF,ρ,_,sm,eo,hx,fun vs H1 HF1 g1 r1=>?_⟩
  obtain⟨v,r,rfl,a,b⟩:=r1.cons_inv
  rw[b.nil_inv]
  simp only[Rep] at a
  subst a
  unfold Bt at hj
  rw[zF] at hj
  refine⟨j,rfl,yQ hj.1,yQ hj.2,q _ H1 HF1 g1 ?_⟩
  have:=wZ (K:=X.K) (HF:=HF1) (lo:=0) (n:=j.toNat)
  simpa using this
def LQ(K:W.Frag)(f:Env->D->Option Env):TG:=fun v σ H Q=>∃HF ρ d ρ',aQ HF H/\cE K HF ρ σ/\Rep K HF d v/\f ρ d=some ρ'/\∀σ',cE K HF ρ' σ'->cE K HF ρ σ'->Q σ' H
def DG(X:Cx)(tg:Expr)(f:Env->D->Option Env):Prop:=PG X tg (LQ X.K f)
theorem ou(h:PG X tg t)(i:∀v σ H Q,t' v σ H Q->t v σ H Q):PG X tg t':=fun pins s σ H v u Q I r q=>h pins s σ H v u Q I r (i v σ H Q q)
def isFree(ρ:Env)(i:Nat):Bool:=((ρ[i]?).getD none).isNone
theorem gX{K:W.Frag}(eo:cE K HF ρ σ)(r:Rep K HF d v):cE K HF (ρ.set i (some d)) (σ.set i (some v)):=by
 refine⟨fun j e h=>?_,by rw[yC,yC];exact eo.len,eo.tb⟩
 rw[xI] at h ⊢
 by_cases hij:i=j
 ·rw[yL hij] at h ⊢
  by_cases hl:i < ρ.length
  ·rw[yL hl] at h
   cases h
   rw[yL (zP hl eo.len)]
   exact⟨v,rfl,r⟩
  ·rw[yN hl] at h;cases h
 ·rw[yN hij] at h ⊢
  exact eo.get j e h
theorem js{K:W.Frag}(eo:cE K HF ρ σ)(hf:isFree ρ i=true):cE K HF ρ (σ.set i (some v)):=by
 refine⟨fun j e h=>?_,by rw[yC];exact eo.len,eo.tb⟩
 have hij:i≠j:=by
  intro z;subst z
  unfold isFree at hf;rw[h] at hf;cases hf
 rw[xI,yN hij]
 exact eo.get j e h
def fG(i:Nat):Env->D->Option Env:=fun ρ d=>if isFree ρ i=true then some (ρ.set i (some d)) else none
theorem Gi(i:Nat)(hN:X.N.Nodup)(hi:X.N[i]?=some x)(hx:Loc X.env.scope x)(hf:X.fn x=true\/X.env.scope.names.lookup x=some .local:=by first|exact .inl rfl|exact .inr rfl|assumption):DG X (.Name x pos) (fG i) :=
 ou (cU hN hi hx hf) fun v σ H Q ⟨HF,ρ,d,ρ',sm,eo,r,hf,q⟩=>by
  unfold fG at hf
  split at hf
  ·cases hf;exact q _ (gX eo r) (js eo ‹_›)
  ·cases hf
def fJ(i j:Nat):Env->D->Option Env:=fun ρ d=>match d with
 | .tuple [x,y]=>if isFree ρ i=true/\isFree ρ j=true then some ((ρ.set i (some x)).set j (some y)) else none
 | _=>none
theorem JK(i j:Nat){px py:Pos}{k:Nat}(hc:X.calm=true)(hN:X.N.Nodup)(hi:X.N[i]?=some x)(hx:Loc X.env.scope x)(hj:X.N[j]?=some y)(hy:Loc X.env.scope y)
  (hf:X.fn x=true\/X.env.scope.names.lookup x=some .local:=by first|exact .inl rfl|exact .inr rfl|assumption) (hf':X.fn y=true\/X.env.scope.names.lookup y=some .local:=by first|exact .inl rfl|exact .inr rfl|assumption) :
  DG X (.Tuple [.Name x px,.Name y py] k pos) (fJ i j) :=
 ou (sD hc (cQ (cU hN hi hx hf) (cQ (cU hN hj hy hf') nO))) fun v σ H Q ⟨HF,ρ,d,ρ',sm,eo,r,hf,q⟩=>by
  unfold fJ at hf
  split at hf
  ·rename_i x' y'
   split at hf
   ·rename_i hh
    cases hf
    simp only[Rep] at r
    obtain⟨a,vs,rfl,hs,rr⟩:=r
    obtain⟨v1,r1,rfl,a1,b1⟩:=rr.cons_inv
    obtain⟨v2,r2,rfl,a2,b2⟩:=b1.cons_inv
    rw[b2.nil_inv] at hs
    exact⟨a,_,rfl,aA sm hs,rfl,v1,_,rfl,v2,_,rfl,rfl,q _ (gX (gX eo a1) a2) (js (js eo hh.1) hh.2)⟩
   ·cases hf
  ·cases hf
def cR(tgt:Env->D->Option Env)(tt:Env->Option Bool)(te:Env->Option D)(ρ:Env):List D->Option (List D)
 | []=>some []
 | d::ds=>(tgt ρ d).bind fun ρ'=>(tt ρ').bind fun b=>if b=true then (te ρ').bind fun x=>(cR tgt tt te ρ ds).map (x::·) else cR tgt tt te ρ ds
def KY(X:Cx)(ifs:List Expr)(f:Env->Option Bool):Prop:=Kg X ifs (Ii X.K f)
theorem Gm:KY X [] (fun _=>some true):=fun pins s σ H Q I ⟨HF,ρ,b,sm,eo,hf,q⟩=>FK pins s σ H Q I (by cases hf;exact q H HF (.refl sm))
theorem GA(h:DT X c t):KY X [c] t:=E4 h
def iV(t:Nat)(cs:List Nat)(σ:L2.St):L2.St:=List.replicate t none++cs.map fun j=>(σ[j]?).getD none
def eE(t:Nat)(cs:List Nat)(ρ:Env):Env:=List.replicate t none++cs.map fun j=>(ρ[j]?).getD none
theorem zx{K:W.Frag}{cs:List Nat}(eo:cE K HF ρ σ):cE K HF (eE t cs ρ) (iV t cs σ):=by
 refine⟨fun i d h=>?_,by simp[eE,iV],eo.tb⟩
 unfold eE at h
 unfold iV
 by_cases hi:i < t
 ·rw[yS (by simpa using hi),yX,yL hi] at h
  cases h
 ·rw[yT (by simpa using hi),zO,xM] at h
  rw[yT (by simpa using hi),zO,xM]
  obtain⟨j,hj,h⟩:=ag h
  rw[hj]
  cases e:ρ[j]? with
  | none=>rw[e] at h;cases h
  | some o =>
   rw[e] at h
   have h:o=some d:=h
   subst h
   obtain⟨v,a,b⟩:=eo.get j d e
   exact⟨v,by show some ((σ[j]?).getD none)=_;rw[a];rfl,b⟩
def aj(t:Nat)(cs:List Nat)(fi:Env->Option (List D))(tgt:Env->D->Option Env)(tt:Env->Option Bool)(te:Env->Option D):Env->Option (List D):=fun ρ=>(fi ρ).bind fun ds=>(cR tgt tt te (eE t cs ρ) ds).bind small
variable {elt iter:Expr}{ifs:List Expr}{scope:Scope}{N:List Str}{t:Nat}{cs:List Nat}{fi:Env->Option (List D)}{tgt:Env->D->Option Env}{tt:Env->Option Bool}{te:Env->Option D}
theorem Ed:∀σ H Q,tF X.K (aj t cs fi tgt tt te) σ H Q->EM (M1 X.K fi) (LQ X.K tgt) (Ii X.K tt) (tD X.K te) (iV t cs) σ H Q:=fun σ H Q ⟨HF,ρ,out,sm,eo,hf,q⟩=>by
 obtain⟨ds,hx,hf⟩:=bs hf
 obtain⟨out',ho,hf⟩:=bs hf
 obtain⟨rfl,hz⟩:=dF hf
 refine⟨HF,ρ,ds,sm,eo,hx,fun J H1 HF1 g1 it Dn hD=>?_⟩
 have eo1:=zx (t:=t) (cs:=cs) (eo.mono g1.ff)
 have hFD:HF1 Dn=none:=g1.fh.free hD
 refine⟨fun i m σ' H'=>m+i=ds.length/\∃HF' xs ys rest,cw HF1 H1 HF' H'/\HF' Dn=none/\H' Dn=some (.lst ys)/\aq X.K HF' xs ys/\cE X.K HF' (eE t cs ρ) σ'/\cR tgt tt te (eE t cs ρ) (ds.drop i)=some rest/\xs++rest=out,
  ⟨ds.length,rfl,HF1,[],[],out,.own g1.fh hD,hFD,aJ,aq.nil,eo1,ho,rfl⟩,?_⟩
 rintro i m σ' H' ⟨hm,HF',xs,ys,rest,G,hFD',hHD,rr,eo',hc,hout⟩
 by_cases hi:i < ds.length
 ·refine .inr ?_
  have hd:ds.drop i=ds[i]::ds.drop (i+1):=vA hi
  have he:ds[i]?=some ds[i]:=List.getElem?_eq_some_iff.mpr ⟨hi,rfl⟩
  generalize ds[i]=d at hd he
  rw[hd] at hc
  unfold cR at hc
  obtain⟨ρ',h1,hc⟩:=bs hc
  obtain⟨b,h2,hc⟩:=bs hc
  obtain⟨go,yld⟩:=it.go i d H' HF' he G.ff G.fh
  refine⟨go,fun x H2 y=>?_⟩
  obtain⟨HF2,G2,rx⟩:=yld x H2 y
  refine⟨HF2,_,d,ρ',G2.fh,eo'.mono G2.ff,rx,h1,fun σ2 eo2 eo2'=>?_⟩
  refine⟨HF2,ρ',b,G2.fh,eo2,h2,fun H3 HF3 G3=>?_⟩
  have nof:∀HF4 H4,cw HF' H' HF4 H4->HF4 Dn=none:=fun HF4 H4 G4=>by
   cases e4:HF4 Dn with
   | none=>rfl
   | some o =>
    rcases G4.nw Dn o e4 with z|z
    ·rw[hFD'] at z;cases z
    ·rw[hHD] at z;cases z
  cases b with
  | false =>
   refine tQ ⟨m - 1,by omega,by omega,HF3,xs,ys,rest,(G.trans G2).trans G3,nof _ _ (G2.trans G3),(G2.trans G3).hh _ _ hHD,rr.mono (G2.trans G3).ff,eo2'.mono G3.ff,by simpa using hc,hout⟩
  | true =>
   rw[yL rfl] at hc
   obtain⟨z,h3,hc⟩:=bs hc
   obtain⟨rest',h4,rfl⟩:=ag hc
   refine uA ⟨HF3,ρ',z,G3.fh,eo2.mono G3.ff,h3,fun v H4 HF4 G4 rv=>?_⟩
   have GG:=(G2.trans G3).trans G4
   have n4:=nof _ _ GG
   have h4D:=GG.hh _ _ hHD
   have hlen:ys.length < sizeLine:=by
    have e1:=rr.length
    have e2:out.length=xs.length+(rest'.length+1):=by rw[<- hout];simp
    omega
   refine⟨ys,h4D,hlen,m - 1,by omega,by omega,HF4,xs++[z],ys++[v],rest',?_,n4,aJ,(rr.mono GG.ff).append (aq.cons rv aq.nil),eo2'.mono (G3.ff.trans G4.ff),h4,by simp[<- hout]⟩
   have G5:=G.trans GG
   refine⟨fun b o e=>?_,G5.ff,fun b o e=>?_,G5.nw⟩
   ·rw[ay (aM e hD)];exact G5.hh b o e
   ·rw[ay (aM e n4)];exact G5.fh b o e
 ·have hi':i=ds.length:=by omega
  subst hi'
  rw[List.drop_length] at hc
  cases hc
  rw[qF] at hout
  subst hout
  exact .inl ⟨it.stop H' HF' G.ff G.fh,q Dn ys H' HF' (g1.trans G) (g1.hh.free hD) hFD' hHD rr⟩
theorem GJ(hc:X.calm=true)(S:gV X scope N (iV t cs))(hi:DI X tg iter fi)
  (hY:∀fp s H,DG (aR X scope N fp s H) tg tgt/\KY (aR X scope N fp s H) ifs tt/\DE (aR X scope N fp s H) elt te)
  (hs:∀x,foldedSetIterable iter X.env x=pure x:=by intro _;rfl):DF X (.ListComp elt [⟨tg,iter,ifs,0⟩] scope pos) (aj t cs fi tgt tt te):=aX (FW (g:=LQ X.K tgt) (tt:=Ii X.K tt) (te:=tD X.K te) hc S hi hY hs) Ed
end
inductive Slot where
 | non|val (d:D)|own (ds:List D)
abbrev ao:=List Slot
def Slot.all:Slot->Option D|.non=>none|.val d=>some d|.own ds=>some (.list ds)
def Slot.frz:Slot->Option D|.val d=>some d|_=>none
def Slot.thaw:Slot->Slot|.own ds=>.val (.list ds)|s=>s
def bf(ρ:ao):Env:=ρ.map Slot.all
def bM(ρ:ao):Env:=ρ.map Slot.frz
def hand(fz:List Nat):Nat->ao->ao
 | _,[]=>[]
 | k,s::r=>(if fz.contains k=true then s.thaw else s)::hand fz (k+1) r
theorem gx(fz:List Nat):∀ (ρ:ao) (k i:Nat),(hand fz k ρ)[i]?=(ρ[i]?).map fun s=>if fz.contains (k+i)=true then s.thaw else s
 | [],k,i=>by simp[hand]
 | s::r,k,0=>by simp[hand]
 | s::r,k,i+1=>by
  simp only[hand,yY]
  rw[gx fz r (k+1) i,Nat.add_assoc,Nat.add_comm 1 i]
theorem uU(fz:List Nat):∀ (ρ:ao) (k:Nat),(hand fz k ρ).length=ρ.length
 | [],k=>rfl
 | s::r,k=>by simp[hand,uU fz r (k+1)]
structure iE(K:W.Frag)(HF₀ H₀ HF H:Hp)(ρ:ao)(σ:L2.St):Prop where
 gr:cw HF₀ H₀ HF H
 val:∀ (i:Nat) (d:D),ρ[i]?=some (.val d)->∃v,σ[i]?=some (some v)/\Rep K HF d v
 own:∀ (i:Nat) (ds:List D),ρ[i]?=some (.own ds)->∃a vs,σ[i]?=some (some (.ref a))/\H a=some (.lst vs)/\HF a=none/\H₀ a=none/\aq K HF ds vs
 inj:∀ (i j:Nat) (ds es:List D) (a:Addr),ρ[i]?=some (.own ds)->ρ[j]?=some (.own es)->σ[i]?=some (some (.ref a))->σ[j]?=some (some (.ref a))->i=j
 len:ρ.length<=σ.length
 tb:fj K HF
section
variable {K:W.Frag}
theorem iE.all(S:iE K HF₀ H₀ HF H ρ σ):cE K H (bf ρ) σ:=by
 refine⟨fun i d h=>?_,by simpa [bf] using S.len,S.tb.mono S.gr.fh⟩
 unfold bf at h
 rw[zO] at h
 obtain⟨s,hs,h⟩:=ag h
 cases s with
 | non=>cases h
 | val e=>cases h;obtain⟨v,a,b⟩:=S.val i _ hs;exact⟨v,a,b.mono S.gr.fh⟩
 | own ds =>
  cases h
  obtain⟨a,vs,e1,e2,e3,_,e4⟩:=S.own i ds hs
  exact⟨.ref a,e1,by simp only[Rep];exact⟨a,vs,rfl,gn.of e2,e4.mono S.gr.fh⟩⟩
theorem iE.frz(S:iE K HF₀ H₀ HF H ρ σ):cE K HF (bM ρ) σ:=by
 refine⟨fun i d h=>?_,by simpa [bM] using S.len,S.tb⟩
 unfold bM at h
 rw[zO] at h
 obtain⟨s,hs,h⟩:=ag h
 cases s with
 | non=>cases h
 | val e=>cases h;exact S.val i _ hs
 | own ds=>cases h
theorem iE.grow(S:iE K HF₀ H₀ HF H ρ σ)(g:cw HF H HF' H'):iE K HF₀ H₀ HF' H' ρ σ where
 gr:=S.gr.trans g
 val:=fun i d h=>let ⟨v,a,b⟩:=S.val i d h;⟨v,a,b.mono g.ff⟩
 own:=fun i ds h=>by
  obtain⟨a,vs,e1,e2,e3,e5,e4⟩:=S.own i ds h
  refine⟨a,vs,e1,g.hh _ _ e2,?_,e5,e4.mono g.ff⟩
  cases e:HF' a with
  | none=>rfl
  | some o =>
   rcases g.nw a o e with z|z
   ·rw[e3] at z;cases z
   ·rw[e2] at z;cases z
 inj:=S.inj
 len:=S.len
 tb:=S.tb.mono g.ff
theorem iE.step(S:iE K HF₀ H₀ HF H ρ σ)(g:aQ H H'):iE K HF₀ H₀ HF H' ρ σ:=S.grow ⟨g,.refl _,S.gr.fh.trans g,fun _ _ e=>.inl e⟩
theorem iE.hand(S:iE K HF₀ H₀ HF H ρ σ)(fz:List Nat):∃HF1,aQ HF HF1/\iE K HF₀ H₀ HF1 H (hand fz 0 ρ) σ:=by
 let P:Addr->Prop:=fun a=>∃i ds,fz.contains i=true/\ρ[i]?=some (.own ds)/\σ[i]?=some (some (.ref a))
 have cl:=Classical.propDecidable
 let HF1:Hp:=fun a=>if P a then H a else HF a
 have hP:∀a,P a->HF a=none/\H₀ a=none:=fun a ⟨i,ds,_,h1,h2⟩=>by
  obtain⟨a',vs,e1,e2,e3,e5,e4⟩:=S.own i ds h1
  rw[h2] at e1
  cases e1
  exact⟨e3,e5⟩
 have s1:aQ HF HF1:=fun b o e=>by
  show (if P b then H b else HF b)=some o
  by_cases h:P b
  ·rw[(hP b h).1] at e;cases e
  ·rw[yN h];exact e
 have s2:aQ HF1 H:=fun b o e=>by
  have e:(if P b then H b else HF b)=some o:=e
  by_cases h:P b
  ·rw[yL h] at e;exact e
  ·rw[yN h] at e;exact S.gr.fh b o e
 refine⟨HF1,s1,⟨S.gr.hh,S.gr.ff.trans s1,s2,fun b o e=>?_⟩,fun i d h=>?_,fun i ds h=>?_,fun i j ds es a h1 h2=>?_,by rw[uU];exact S.len,S.tb.mono s1⟩
 ·have e:(if P b then H b else HF b)=some o:=e
  by_cases h:P b
  ·exact .inr (hP b h).2
  ·rw[yN h] at e;exact S.gr.nw b o e
 ·rw[gx] at h
  obtain⟨s,hs,h⟩:=ag h
  rw[jD] at h
  cases s with
  | non=>split at h<;>cases h
  | val e =>
   have:Slot.val e=Slot.val d:=by split at h<;>exact h
   cases this
   obtain⟨v,a,b⟩:=S.val i _ hs
   exact⟨v,a,b.mono s1⟩
  | own ds =>
   split at h
   ·rename_i hc
    cases h
    obtain⟨a,vs,e1,e2,e3,e5,e4⟩:=S.own i ds hs
    refine⟨.ref a,e1,?_⟩
    simp only[Rep]
    refine⟨a,vs,rfl,.inl (.inl ?_),e4.mono s1⟩
    show (if P a then H a else HF a)=_
    rw[yL ⟨i,ds,hc,hs,e1⟩]
    exact e2
   ·cases h
 ·rw[gx] at h
  obtain⟨s,hs,h⟩:=ag h
  rw[jD] at h
  cases s with
  | non=>split at h<;>cases h
  | val e=>split at h<;>cases h
  | own es =>
   split at h
   ·cases h
   ·rename_i hc
    cases h
    obtain⟨a,vs,e1,e2,e3,e5,e4⟩:=S.own i ds hs
    refine⟨a,vs,e1,e2,?_,e5,e4.mono s1⟩
    show (if P a then H a else HF a)=none
    rw[yN ?_]
    ·exact e3
    ·rintro⟨j,es,hj,h1,h2⟩
     have:=S.inj i j ds es a hs h1 e1 h2
     subst this
     exact hc hj
 ·rw[gx] at h1 h2
  obtain⟨s,hs,h1⟩:=ag h1
  obtain⟨s',hs',h2⟩:=ag h2
  rw[jD] at h1 h2
  cases s with
  | non=>split at h1<;>cases h1
  | val e=>split at h1<;>cases h1
  | own xs =>
   cases s' with
   | non=>split at h2<;>cases h2
   | val e=>split at h2<;>cases h2
   | own ys=>exact S.inj i j _ _ a hs hs'
theorem iE.setV(S:iE K HF₀ H₀ HF H ρ σ)(r:Rep K HF d v):iE K HF₀ H₀ HF H (ρ.set i (.val d)) (σ.set i (some v)):=by
 have ne:∀ {j:Nat}{s:Slot},(ρ.set i (.val d))[j]?=some s->(∀e,s≠.val e)->i≠j/\ρ[j]?=some s:=fun {j s} h hn=>by
  rw[xI] at h
  by_cases hij:i=j
  ·rw[yL hij] at h
   split at h
   ·cases h;exact absurd rfl (hn _)
   ·cases h
  ·rw[yN hij] at h;exact⟨hij,h⟩
 refine⟨S.gr,fun j e h=>?_,fun j ds h=>?_,fun j k ds es a h1 h2 h3 h4=>?_,by rw[yC,yC];exact S.len,S.tb⟩
 ·rw[xI] at h ⊢
  by_cases hij:i=j
  ·rw[yL hij] at h ⊢
   split at h
   ·rename_i hl
    cases h
    rw[yL (zP hl S.len)]
    exact⟨v,rfl,r⟩
   ·cases h
  ·rw[yN hij] at h ⊢
   exact S.val j e h
 ·obtain⟨hij,h⟩:=ne h fun e z=>by cases z
  rw[xI,yN hij]
  exact S.own j ds h
 ·obtain⟨n1,h1⟩:=ne h1 fun e z=>by cases z
  obtain⟨n2,h2⟩:=ne h2 fun e z=>by cases z
  rw[xI,yN n1] at h3
  rw[xI,yN n2] at h4
  exact S.inj j k ds es a h1 h2 h3 h4
theorem iE.setO(S:iE K HF₀ H₀ HF H ρ σ)(hs:aQ H H')(h1:H' a=some (.lst vs))(h2:HF a=none)(h3:H₀ a=none)(r:aq K HF ds vs)
  (fr:∀j es,i≠j->ρ[j]?=some (.own es)->σ[j]?≠some (some (.ref a))):iE K HF₀ H₀ HF H' (ρ.set i (.own ds)) (σ.set i (some (.ref a))):=by
 have S:=S.step hs
 refine⟨S.gr,fun j e h=>?_,fun j es h=>?_,fun j k xs ys b e1 e2 e3 e4=>?_,by rw[yC,yC];exact S.len,S.tb⟩
 ·rw[xI] at h ⊢
  by_cases hij:i=j
  ·rw[yL hij] at h
   split at h<;>cases h
  ·rw[yN hij] at h ⊢
   exact S.val j e h
 ·rw[xI] at h ⊢
  by_cases hij:i=j
  ·rw[yL hij] at h ⊢
   split at h
   ·rename_i hl
    cases h
    rw[yL (zP hl S.len)]
    exact⟨a,vs,rfl,h1,h2,h3,r⟩
   ·cases h
  ·rw[yN hij] at h ⊢
   exact S.own j es h
 ·rw[xI] at e1 e2 e3 e4
  by_cases hij:i=j
  ·by_cases hik:i=k
   ·exact hij.symm.trans hik
   ·rw[yL hij] at e1 e3
    rw[yN hik] at e2 e4
    split at e3
    ·cases e3;exact absurd e4 (fr k ys hik e2)
    ·cases e3
  ·by_cases hik:i=k
   ·rw[yN hij] at e1 e3
    rw[yL hik] at e2 e4
    split at e4
    ·cases e4;exact absurd e3 (fr j xs hij e1)
    ·cases e4
   ·rw[yN hij] at e1 e3
    rw[yN hik] at e2 e4
    exact S.inj j k xs ys b e1 e2 e3 e4
end
inductive Out where
 | nx (ρ:ao)|rt (d:D)
def Aq(K:W.Frag)(HF₀ H₀ HF:Hp)(E:Ends):Out->Prop
 | .nx ρ'=>∀σ' H' HF',iE K HF₀ H₀ HF' H' ρ' σ'->aQ HF HF'->E.nx σ' H'
 | .rt d=>∀v H' HF',cw HF₀ H₀ HF' H'->Rep K HF' d v->E.rt v H'
def tS(K:W.Frag)(HF₀ H₀:Hp)(g:ao->Option Out):TS:=fun E σ H=>∃HF ρ o,iE K HF₀ H₀ HF H ρ σ/\g ρ=some o/\Aq K HF₀ H₀ HF E o
def DS(X:Cx)(HF₀ H₀:Hp)(st:Stmt)(g:ao->Option Out):Prop:=PS X st (tS X.K HF₀ H₀ g)
def BN(X:Cx)(HF₀ H₀:Hp)(st:List Stmt)(g:ao->Option Out):Prop:=xu X st (tS X.K HF₀ H₀ g)
section
variable {X:Cx}{HF₀ H₀:Hp}{st:Stmt}{rest:List Stmt}{g g1 g2:ao->Option Out}{e:Expr}{pos:Pos}
theorem cW(h:PS X st t)(i:∀E σ H,t' E σ H->t E σ H):PS X st t':=fun pins s σ H E I q=>h pins s σ H E I (i E σ H q)
theorem Ak(h:xu X rest t)(i:∀E σ H,t' E σ H->t E σ H):xu X rest t':=fun pins s σ H E I q=>h pins s σ H E I (i E σ H q)
def fO:ao->Option Out:=fun ρ=>some (.nx ρ)
def ar(g1 g2:ao->Option Out):ao->Option Out:=fun ρ=>(g1 ρ).bind fun|.nx ρ'=>g2 ρ'|.rt d=>some (.rt d)
theorem Aq.mono{K:W.Frag}(s:aQ HF HF')(h:Aq K HF₀ H₀ HF E o):Aq K HF₀ H₀ HF' E o:=by
 cases o with
 | nx ρ'=>exact fun σ' H' HF2 S s2=>h σ' H' HF2 S (s.trans s2)
 | rt d=>exact h
theorem Fq:BN X HF₀ H₀ [] fO:=Ak Fg fun E σ H ⟨HF,ρ,o,S,hg,q⟩=>by cases hg;exact q σ H HF S (.refl _)
theorem Eb(h1:DS X HF₀ H₀ st g1)(h2:BN X HF₀ H₀ rest g2):BN X HF₀ H₀ (st::rest) (ar g1 g2):=Ak (B1 h1 h2) fun E σ H ⟨HF,ρ,o,S,hg,q⟩=>by
 obtain⟨o1,h,hg⟩:=bs hg
 refine⟨HF,ρ,o1,S,h,?_⟩
 cases o1 with
 | nx ρ'=>exact fun σ' H' HF' S' s=>⟨HF',ρ',o,S',hg,q.mono s⟩
 | rt d=>cases hg;exact q
theorem FL(h1:DS X HF₀ H₀ st g1):BN X HF₀ H₀ [st] g1:=Ff h1
theorem Fy:DS X HF₀ H₀ (.Pass pos) fO:=cW Fm fun E σ H ⟨HF,ρ,o,S,hg,q⟩=>by cases hg;exact q σ H HF S (.refl _)
theorem HZ{x j pos pos'}:DS X HF₀ H₀ (.Expr (.Constant (.str x) j pos) pos') fO:=cW JP fun E σ H ⟨HF,ρ,o,S,hg,q⟩=>by cases hg;exact q σ H HF S (.refl _)
def fX(t:Env->Option Bool)(g1 g2:ao->Option Out):ao->Option Out:=fun ρ=>(t (bf ρ)).bind fun b=>if b=true then g1 ρ else g2 ρ
theorem K2(hc:DT X c t)(ha:BN X HF₀ H₀ a g1)(hb:BN X HF₀ H₀ b g2):DS X HF₀ H₀ (.If c a b pos) (fX t g1 g2):=cW (Ll hc ha hb) fun E σ H ⟨HF,ρ,o,S,hg,q⟩=>by
 obtain⟨b,h,hg⟩:=bs hg
 refine⟨H,bf ρ,b,.refl _,S.all,h,fun H' HF' G=>?_⟩
 cases b with
 | true=>exact uA ⟨HF,ρ,o,S.step G.hh,hg,q⟩
 | false=>exact tQ ⟨HF,ρ,o,S.step G.hh,hg,q⟩
theorem ud:∀ (ρ:ao) (k n:Nat),k+ρ.length<=n->bM (hand (List.range n) k ρ)=bf ρ
 | [],k,n,h=>rfl
 | s::r,k,n,h=>by
  have hk:(List.range n).contains k=true:=by simp at h ⊢;omega
  have ih:=ud r (k+1) n (by simp at h;omega)
  unfold bM bf at ih ⊢
  rw[hand,yL hk,zI,zI,ih]
  cases s<;>rfl
def aG(f:Env->Option D):ao->Option Out:=fun ρ=>(f (bf ρ)).map Out.rt
theorem JJ(h:DE X e f):DS X HF₀ H₀ (.Return (some e) pos) (aG f):=cW (Iw h) fun E σ H ⟨HF,ρ,o,S,hg,q⟩=>by
 obtain⟨d,h,rfl⟩:=ag hg
 obtain⟨HF1,s1,S1⟩:=S.hand (List.range ρ.length)
 refine⟨HF1,bf ρ,d,S1.gr.fh,?_,h,fun v H' HF' G r=>q v H' HF' (S1.gr.trans G) r⟩
 have:=S1.frz
 rw[ud ρ 0 ρ.length (by omega)] at this
 exact this
def oT:D->Bool|.none=>true|.bool _=>true|.int _=>true|.str _=>true|_=>false
theorem tJ{K:W.Frag}(h:oT d=true)(r:Rep K HF d v):Rep K HF' d v:=by
 cases d<;>cases h<;>(simp only[Rep] at r ⊢;exact r)
mutual
def gh:D->Bool
 | .tuple ds=>og ds
 | .list _=>false
 | .dict _=>false
 | _=>true
def og:List D->Bool
 | []=>true
 | d::ds=>gh d&&og ds
end
mutual
theorem td{K:W.Frag}{H1 H2:Hp}(ht:∀a xs,gK K H1 a xs->gK K H2 a xs):∀ {d:D}{v:V},gh d=true->Rep K H1 d v->Rep K H2 d v
 | .none,_,_,r=>by simp only[Rep] at r ⊢;exact r
 | .bool _,_,_,r=>by simp only[Rep] at r ⊢;exact r
 | .int _,_,_,r=>by simp only[Rep] at r ⊢;exact r
 | .str _,_,_,r=>by simp only[Rep] at r ⊢;exact r
 | .tuple ds,v,h,r=>by
  simp only[gh] at h
  simp only[Rep] at r ⊢
  obtain⟨a,vs,e,q,rr⟩:=r
  exact⟨a,vs,e,ht _ _ q,qd ht h rr⟩
 | .list _,_,h,_=>by simp[gh] at h
 | .dict _,_,h,_=>by simp[gh] at h
theorem qd{K:W.Frag}{H1 H2:Hp}(ht:∀a xs,gK K H1 a xs->gK K H2 a xs):∀ {ds:List D}{vs:List V},og ds=true->aq K H1 ds vs->aq K H2 ds vs
 | [],_,_,r=>by simp only[aq] at r ⊢;exact r
 | d::ds,vs,h,r=>by
  simp only[og,zF] at h
  simp only[aq] at r ⊢
  obtain⟨v,r',e,a,b⟩:=r
  exact⟨v,r',e,td ht h.1 a,qd ht h.2 b⟩
end
theorem iE.back{K:W.Frag}(S:iE K HF₀ H₀ HF H ρ σ)(S1:iE K HF₀ H₀ HF1 H ρ1 σ)(s1:aQ HF HF1)(G:cw HF1 H HF' H'):∃HF2,aQ HF HF2/\iE K HF₀ H₀ HF2 H' ρ σ/\(∀d v,gh d=true->Rep K HF' d v->Rep K HF2 d v)/\∀b o,HF2 b=some o->HF' b=some o:=by
 have cl:=Classical.propDecidable
 let O:Addr->Prop:=fun a=>∃ (i:Nat) (ds:List D),ρ[i]?=some (Slot.own ds)/\σ[i]?=some (some (V.ref a))
 let HF2:Hp:=fun a=>if O a then none else HF' a
 have hO:∀a,O a->HF a=none/\∃vs,H a=some (.lst vs):=fun a ⟨i,ds,h1,h2⟩=>by
  obtain⟨a',vs,e1,e2,e3,_,_⟩:=S.own i ds h1
  rw[h2] at e1
  cases e1
  exact⟨e3,vs,e2⟩
 have h2:∀a,¬ O a->HF2 a=HF' a:=fun a n=>yN n
 have h3:∀a,O a->HF2 a=none:=fun a n=>yL n
 have sa:aQ HF HF2:=fun b o e=>by
  have nb:¬ O b:=fun z=>by rw[(hO b z).1] at e;cases e
  rw[h2 b nb]
  exact G.ff b o (s1 b o e)
 have sb:∀b o,HF2 b=some o->HF' b=some o:=fun b o e=>by
  by_cases z:O b
  ·rw[h3 b z] at e;cases e
  ·rwa [h2 b z] at e
 have g2:=S1.gr.trans G
 refine⟨HF2,sa,⟨⟨g2.hh,S.gr.ff.trans sa,fun b o e=>G.fh b o (sb b o e),fun b o e=>g2.nw b o (sb b o e)⟩,fun i d h=>?_,fun i ds h=>?_,S.inj,S.len,S.tb.mono sa⟩,fun d v hn r=>td (fun a xs q=>?_) hn r,sb⟩
 ·obtain⟨v,e1,r⟩:=S.val i d h
  exact⟨v,e1,r.mono sa⟩
 ·obtain⟨a,vs,e1,e2,e3,e5,e4⟩:=S.own i ds h
  exact⟨a,vs,e1,G.hh _ _ e2,h3 a ⟨i,ds,h,e1⟩,e5,e4.mono sa⟩
 ·have nt:∀o,HF' a=some o->(∀vs,o≠.lst vs)->HF2 a=some o:=fun o e hne=>by
   by_cases z:O a
   ·obtain⟨_,vs,e2⟩:=hO a z
    have:=G.hh _ _ e2
    rw[G.fh a o e] at this
    cases this
    exact absurd rfl (hne vs)
   ·rw[h2 a z];exact e
  rcases q with (q|⟨o,q⟩)|q
  ·exact .inl (.inl (nt _ q fun vs z=>by cases z))
  ·exact .inl (.inr ⟨o,nt _ q fun vs z=>by cases z⟩)
  ·exact .inr q
def az(i:Nat)(fz:List Nat)(f:Env->Option D):ao->Option Out:=fun ρ=>(f (bf ρ)).bind fun d=>if oT d=true then some (.nx (ρ.set i (.val d))) else (f (bM (hand fz 0 ρ))).map fun d'=>.nx ((if gh d'=true then ρ else hand fz 0 ρ).set i (.val d'))
theorem Kk:∀E σ H,tS X.K HF₀ H₀ (az i fz f) E σ H->Ct (tD X.K f) (tm i) E σ H:=fun E σ H ⟨HF,ρ,o,S,hg,q⟩=>by
 obtain⟨d,h,hg⟩:=bs hg
 split at hg
 ·rename_i hs
  cases hg
  exact⟨H,bf ρ,d,.refl _,S.all,h,fun v H' HF' G r=>q _ H' HF ((S.step G.hh).setV (tJ hs r)) (.refl _)⟩
 ·obtain⟨d',h',rfl⟩:=ag hg
  obtain⟨HF1,s1,S1⟩:=S.hand fz
  refine⟨HF1,_,d',S1.gr.fh,S1.frz,h',fun v H' HF' G r=>?_⟩
  by_cases hn:gh d'=true
  ·rw[yL hn] at q
   obtain⟨HF2,s2,S2,hb,_⟩:=S.back S1 s1 G
   exact q _ H' HF2 (S2.setV (hb d' v hn r)) s2
  ·rw[yN hn] at q
   exact q _ H' HF' ((S1.grow G).setV r) (s1.trans G.ff)
theorem Iq(i:Nat)(fz:List Nat)(hN:X.N.Nodup)(hi:X.N[i]?=some x)(hx:Loc X.env.scope x)(he:DE X e f)(hs:swapsWith e (some (.Name x pos')) pos.line X.env=pure false:=by rfl)
  (hf:X.fn x=true\/X.env.scope.names.lookup x=some .local:=by first|exact .inl rfl|exact .inr rfl|assumption):DS X HF₀ H₀ (.Assign [.Name x pos'] e pos) (az i fz f):=cW (Ew hN hi hx he hs hf) Kk
def aN(i:Nat)(fz:List Nat)(f:Env->Option (List D)):ao->Option Out:=fun ρ=>(f (bM (hand fz 0 ρ))).map fun ds=>.nx ((hand fz 0 ρ).set i (.own ds))
theorem Es:∀E σ H,tS X.K HF₀ H₀ (aN i fz f) E σ H->Ct (tF X.K f) (tm i) E σ H:=fun E σ H ⟨HF,ρ,o,S,hg,q⟩=>by
 obtain⟨ds,h,rfl⟩:=ag hg
 obtain⟨HF1,s1,S1⟩:=S.hand fz
 refine⟨HF1,_,ds,S1.gr.fh,S1.frz,h,fun a vs H' HF' G ha hf h' r=>q _ H' HF' ?_ (s1.trans G.ff)⟩
 have S2:=S1.grow G
 refine S2.setO (.refl _) h' hf (S1.gr.hh.free ha) r fun j es _ hj z=>?_
 obtain⟨b,us,e1,e2,_⟩:=S1.own j es hj
 rw[e1] at z
 cases z
 rw[ha] at e2;cases e2
theorem sU(i:Nat)(fz:List Nat)(hN:X.N.Nodup)(hi:X.N[i]?=some x)(hx:Loc X.env.scope x)(he:DF X e f)(hs:swapsWith e (some (.Name x pos')) pos.line X.env=pure false:=by rfl)
  (hf:X.fn x=true\/X.env.scope.names.lookup x=some .local:=by first|exact .inl rfl|exact .inr rfl|assumption):DS X HF₀ H₀ (.Assign [.Name x pos'] e pos) (aN i fz f):=cW (Ew hN hi hx he hs hf) Es
theorem E3(i:Nat)(fz:List Nat){cs:List Nat}
  (hc:X.calm=true) (S:gV X scope N (iV t cs)) (hi:DI X tg iter fi)
  (hY:∀fp s H,DG (aR X scope N fp s H) tg tgt/\KY (aR X scope N fp s H) ifs tt/\DE (aR X scope N fp s H) elt te)
  (hN:X.N.Nodup) (hiy:X.N[i]?=some y) (hy:X.env.scope.names.lookup y=some .local)
  (hsw:swapsWith (.ListComp elt [⟨tg,iter,ifs,0⟩] scope pos) (some (.Name y py)) spos.line X.env=pure true)
  (hs:∀x,foldedSetIterable iter X.env x=pure x:=by intro _;rfl):DS X HF₀ H₀ (.Assign [.Name y py] (.ListComp elt [⟨tg,iter,ifs,0⟩] scope pos) spos) (aN i fz (aj t cs fi tgt tt te)) :=
 cW (Fo (g:=LQ X.K tgt) (tt:=Ii X.K tt) (te:=tD X.K te) hc S hi hY hN hiy hy hsw hs) fun E σ H q=>by
  have:=Es E σ H q
  exact Ed σ H _ this
def Nj(K:W.Frag)(HF₀ H₀:Hp)(f:ao->D->Option ao):TG:=fun v σ H Q=>∃HF ρ d ρ',iE K HF₀ H₀ HF H ρ σ/\Rep K HF d v/\f ρ d=some ρ'/\∀σ',iE K HF₀ H₀ HF H ρ' σ'->Q σ' H
def LK(X:Cx)(HF₀ H₀:Hp)(tg:Expr)(f:ao->D->Option ao):Prop:=PG X tg (Nj X.K HF₀ H₀ f)
def ig(i:Nat):ao->D->Option ao:=fun ρ d=>some (ρ.set i (.val d))
theorem B5(i:Nat)(hN:X.N.Nodup)(hi:X.N[i]?=some x)(hx:Loc X.env.scope x)(hf:X.fn x=true\/X.env.scope.names.lookup x=some .local:=by first|exact .inl rfl|exact .inr rfl|assumption):LK X HF₀ H₀ (.Name x pos) (ig i) :=
 ou (cU hN hi hx hf) fun v σ H Q ⟨HF,ρ,d,ρ',S,r,hf,q⟩=>by cases hf;exact q _ (S.setV r)
def g8(i j:Nat):ao->D->Option ao:=fun ρ d=>match d with
 | .tuple [x,y]=>some ((ρ.set i (.val x)).set j (.val y))
 | _=>none
theorem Gx(i j:Nat){px py:Pos}{k:Nat}(hc:X.calm=true)(hN:X.N.Nodup)(hi:X.N[i]?=some x)(hx:Loc X.env.scope x)(hj:X.N[j]?=some y)(hy:Loc X.env.scope y)
  (hf:X.fn x=true\/X.env.scope.names.lookup x=some .local:=by first|exact .inl rfl|exact .inr rfl|assumption) (hf':X.fn y=true\/X.env.scope.names.lookup y=some .local:=by first|exact .inl rfl|exact .inr rfl|assumption) :
  LK X HF₀ H₀ (.Tuple [.Name x px,.Name y py] k pos) (g8 i j) :=
 ou (sD hc (cQ (cU hN hi hx hf) (cQ (cU hN hj hy hf') nO))) fun v σ H Q ⟨HF,ρ,d,ρ',S,r,hf,q⟩=>by
  unfold g8 at hf
  split at hf
  ·cases hf
   simp only[Rep] at r
   obtain⟨a,vs,rfl,hs,rr⟩:=r
   obtain⟨v1,r1,rfl,a1,b1⟩:=rr.cons_inv
   obtain⟨v2,r2,rfl,a2,b2⟩:=b1.cons_inv
   rw[b2.nil_inv] at hs
   exact⟨a,_,rfl,aA S.gr.fh hs,rfl,v1,_,rfl,v2,_,rfl,rfl,q _ ((S.setV a1).setV a2)⟩
  ·cases hf
def cg(tgt:ao->D->Option ao)(gb:ao->Option Out):List D->ao->Option Out
 | [],ρ=>some (.nx ρ)
 | d::ds,ρ=>(tgt ρ d).bind fun ρ1=>(gb ρ1).bind fun|.nx ρ2=>cg tgt gb ds ρ2|.rt v=>some (.rt v)
def cy(fz:List Nat)(fi:Env->Option (List D))(tgt:ao->D->Option ao)(gb:ao->Option Out):ao->Option Out:=fun ρ=>(fi (bM (hand fz 0 ρ))).bind fun ds=>cg tgt gb ds (hand fz 0 ρ)
theorem IT(fz:List Nat)(hp:PassesOwn (model X.prog X.w) X.A X.env X.xe)(hc:X.calm=true)(hi:DI X tg iter fi)(hg:LK X HF₀ H₀ tg tgt)(hb:BN X HF₀ H₀ body gb)
  (hs:∀x,foldedSetIterable iter X.env x=pure x:=by intro _;rfl):DS X HF₀ H₀ (.For tg iter body [] pos) (cy fz fi tgt gb):=cW (Jh hp hc hi hg hb hs) fun E σ H ⟨HF,ρ,o,S,hg,q⟩=>by
 obtain⟨ds,h,hg⟩:=bs hg
 obtain⟨HF1,s1,S1⟩:=S.hand fz
 refine⟨HF1,_,ds,S1.gr.fh,S1.frz,h,fun J H2 HF2 G it=>?_⟩
 refine⟨fun i m σ' H'=>m+i=ds.length/\∃HF' ρ',iE X.K HF₀ H₀ HF' H' ρ' σ'/\aQ HF2 HF'/\cg tgt gb (ds.drop i) ρ'=some o,⟨ds.length,rfl,HF2,_,S1.grow G,.refl _,hg⟩,?_⟩
 rintro i m σ' H' ⟨hm,HF',ρ',S',s',hf⟩
 by_cases hi:i < ds.length
 ·refine .inr ?_
  have hd:ds.drop i=ds[i]::ds.drop (i+1):=vA hi
  have he:ds[i]?=some ds[i]:=List.getElem?_eq_some_iff.mpr ⟨hi,rfl⟩
  generalize ds[i]=d at hd he
  rw[hd] at hf
  unfold cg at hf
  obtain⟨ρ1,h1,hf⟩:=bs hf
  obtain⟨o1,h2,hf⟩:=bs hf
  obtain⟨go,yld⟩:=it.go i d H' HF' he s' S'.gr.fh
  refine⟨go,fun σ2 H3=>∃HF3 ρ3,iE X.K HF₀ H₀ HF3 H3 ρ3 σ2/\aQ HF2 HF3/\cg tgt gb (ds.drop (i+1)) ρ3=some o,fun σ2 H3 ⟨HF3,ρ3,a1,a2,a3⟩=>⟨m - 1,by omega,by omega,HF3,ρ3,a1,a2,a3⟩,fun x H3 y=>?_⟩
  obtain⟨HF3,G3,rx⟩:=yld x H3 y
  refine⟨HF3,ρ',d,ρ1,S'.grow G3,rx,h1,fun σ2 S2=>⟨HF3,ρ1,o1,S2,h2,?_⟩⟩
  cases o1 with
  | nx ρ2=>exact fun σ4 H4 HF4 S4 s4=>⟨HF4,ρ2,S4,(s'.trans G3.ff).trans s4,hf⟩
  | rt d=>cases hf;exact q
 ·have hi':i=ds.length:=by omega
  subst hi'
  rw[List.drop_length] at hf
  cases hf
  exact .inl ⟨it.stop H' HF' s' S'.gr.fh,q σ' H' HF' S' ((s1.trans G.ff).trans s')⟩
end
def Mr(X:Cx)(sc:Scope):Prop:=∀x k,sc.names.lookup x=some k->X.env.kindOf x=some k\/(k=.free/\X.env.kindOf x=some .cell)
structure Bk(X:Cx)(N:List Str)(sc:Scope)(k:Nat):Prop where
 n:X.N=N
 nd:N.Nodup
 tb:Mr X sc
 calm:X.calm=true
 fn:∀x,sc.names.lookup x=some .cell->X.fn x=true
 room:dW k X.A
 xe:X.xe=fun _ _=>False
 kd:X.env.scope.kind=.function
def dg:List Str:=["len","isinstance","int","bool","tuple","list","range","all","any","set","sorted","enumerate","zip","sum","min","max","reversed","abs","dict","str","type","iter","next"]
def Bn(X:Cx):Prop:=∀x∈dg,X.mg x=none
def AC(sc:Scope)(x:Str):Bool:=decide (sc.names.lookup x=some .globalImplicit)
def AH(N:List Str)(sc:Scope)(i:Nat)(x:Str):Bool:=decide (N[i]?=some x)&&(decide (sc.names.lookup x=some .local)||decide (sc.names.lookup x=some .cell)||decide (sc.names.lookup x=some .free))&&!(x == ("__debug__":Str))&&!(x == ("__classdict__":Str))
def pw(N:List Str)(sc:Scope)(i:Nat)(x:Str):Bool:=decide (N[i]?=some x)&&(decide (sc.names.lookup x=some .local)||decide (sc.names.lookup x=some .cell))
section
theorem Bk.gl(C:Bk X N sc k)(h:AC sc x=true):Gl X x:=by
 rcases C.tb x _ (yQ h) with q|⟨q,_⟩
 ·exact q
 ·cases q
theorem Bk.vis(C:Bk X N sc k)(h:AH N sc i x=true):X.N[i]?=some x/\Hb X.env.scope x/\(x == ("__debug__":Str))=false/\(x == ("__classdict__":Str))=false:=by
 unfold AH at h
 simp only[zF,jB,zJ,yP] at h
 obtain⟨⟨⟨h1,h2⟩,h3⟩,h4⟩:=h
 refine⟨by rw[C.n];exact h1,?_,h3,h4⟩
 rcases h2 with (h2|h2)|h2
 ·rcases C.tb x _ h2 with q|⟨q,_⟩
  ·exact .inl q
  ·cases q
 ·rcases C.tb x _ h2 with q|⟨q,_⟩
  ·exact .inr (.inl q)
  ·cases q
 ·rcases C.tb x _ h2 with q|⟨_,q⟩
  ·exact .inr (.inr q)
  ·exact .inr (.inl q)
theorem Bk.loc(C:Bk X N sc k)(h:pw N sc i x=true):X.N.Nodup/\X.N[i]?=some x/\Loc X.env.scope x/\(X.fn x=true\/X.env.scope.names.lookup x=some .local):=by
 unfold pw at h
 simp only[zF,jB,zJ] at h
 obtain⟨h1,h2⟩:=h
 refine⟨by rw[C.n];exact C.nd,by rw[C.n];exact h1,?_⟩
 rcases h2 with h2|h2
 ·rcases C.tb x _ h2 with q|⟨q,_⟩
  ·exact⟨.inl q,.inr q⟩
  ·cases q
 ·rcases C.tb x _ h2 with q|⟨q,_⟩
  ·exact⟨.inr q,.inl (C.fn x h2)⟩
  ·cases q
theorem Bk.blt(C:Bk X N sc k)(B:Bn X)(h:AC sc x=true)(hm:x∈dg)(hv:bootBuiltins x=some v):nR X x v:=⟨C.gl h,B x hm,hv⟩
theorem Bk.v(C:Bk X N sc k)(i:Nat)(h:AH N sc i x=true):DE X (.Name x pos) (ab i):=let ⟨a,b,c,d⟩:=C.vis h;J4 i a b c d
theorem Bk.pass(C:Bk X N sc k):PassesOwn (model X.prog X.w) X.A X.env X.xe:=by rw[C.xe];exact PassesOwn.never
def mK(sc scope:Scope)(N N':List Str)(t:Nat)(cs:List Nat):Bool :=
 decide (scope.kind=.function)&&scope.names.all (fun p=>(!decide (p.2=NameKind.free)||decide (sc.names.lookup p.1=some .cell)||decide (sc.names.lookup p.1=some .free))&&(!decide (p.2=NameKind.local)||decide (scope.names.lookup p.1=some .local)))
  &&scope.names.all (fun p=>!decide (p.2=NameKind.cell)||!scope.names.any fun q=>decide (q.1=p.1)&&decide (q.2=NameKind.free))
  &&decide (N'.length=t+cs.length)&&decide (N'.drop t=cs.filterMap fun j=>N[j]?)&&cs.all (fun j=>decide (j < N.length))&&(N'.drop t).all (fun x=>decide (scope.names.lookup x=some .free))&&decide N'.Nodup
theorem filterMap_get(N:List α):∀ (cs:List Nat),(∀j∈cs,j < N.length)->∀ (i:Nat),(cs.filterMap fun j=>N[j]?)[i]?=(cs[i]?).bind fun j=>N[j]?
 | [],_,i=>by simp
 | c::cs,h,i=>by
  have hc:=h c zE
  rw[jG,zK hc]
  cases i with
  | zero=>simp[hc]
  | succ i =>
   simp only[yY]
   exact filterMap_get N cs (fun j hj=>h j (zC _ hj)) i
theorem Bk.comp(C:Bk X N sc k){cs:List Nat}(h:mK sc scope N N' t cs=true):gV X scope N' (iV t cs)/\∀fp s H,Bk (aR X scope N' fp s H) N' scope k:=by
 unfold mK at h
 simp only[zF,zJ,xG,jB,yP,xB] at h
 obtain⟨⟨⟨⟨⟨⟨⟨h1,h2⟩,h3⟩,h4⟩,h5⟩,h6⟩,h7⟩,h8⟩:=h
 refine⟨⟨h1,fun x hx hk=>?_,fun {x} a b=>?_,fun x hx hk=>?_,fun σ i x v e1 e2=>?_,fun σ=>?_⟩,fun fp s H=>⟨rfl,h8,fun x k hx=>mE hx,C.calm,fun x hx=>yA hx,C.room,rfl,h1⟩⟩
 ·rcases (h2 x hx).1 with (q|q)|q
  ·exact absurd hk q
  ·rcases C.tb _ _ q with z|⟨z,_⟩
   ·exact .inl z
   ·cases z
  ·rcases C.tb _ _ q with z|⟨_,z⟩
   ·exact .inr z
   ·exact .inl z
 ·rcases h3 _ a with q|q
  ·exact q rfl
  ·have:(scope.names.any fun q=>decide (q.1=x)&&decide (q.2=NameKind.free))=true:=List.any_eq_true.mpr ⟨_,b,by simp⟩
   rw[this] at q
   cases q
 ·rcases (h2 x hx).2 with q|q
  ·exact absurd hk q
  ·exact q
 ·unfold iV at e2
  by_cases hi:i < t
  ·rw[yS (by simpa using hi),yX,yL hi] at e2
   cases e2
  ·rw[yT (by simpa using hi),zO,xM] at e2
   obtain⟨j,hj,e2⟩:=ag e2
   have e3:(N'.drop t)[i - t]?=some x:=by rw[List.getElem?_drop];rw[show t+(i - t)=i by omega];exact e1
   refine⟨h7 x (qB e3),j,?_,?_⟩
   ·rw[h5,filterMap_get N cs h6,hj] at e3
    rw[C.n];exact e3
   ·cases e:σ[j]? with
    | none=>rw[e] at e2;cases e2
    | some o=>rw[e] at e2;have e2:o=some v:=e2;rw[e2]
 ·unfold iV
  rw[zN,xM,zD,h4]
def aU(g:ao->Option Out)(n:Nat)(args:List D):Option D:=(g (args.map Slot.val++List.replicate (n - args.length) .non)).map fun|.rt d=>d|.nx _=>.none
theorem Hc{K:W.Frag}{st:Stmt}(F:FA K x qual st f fd)(S:dP N ps (aD st))
  (body:∀X:Cx,X.prog=P->X.w=w->X.K=K->X.mg=mg->X.base=base->Bk X N (aD st) k->X.env.code=fd.code->X.env.qual=qual++".<locals>."->∀HF₀ H₀,BN X HF₀ H₀ (bK st) g):oD P w K mg base Kb (k+1) f fd ps (Lv K ps.length (aU g N.length)):=by
 obtain⟨oc,od,kV,doc,pm,an,cdv,ct,osl,rfl,lk,hcd⟩:=F.ex
 refine Kh lk hcd S (fun vs H Q E ⟨HF,ds,d,h1,_,h2,h3,_⟩=>by rw[h2.length,h3]) fun A outer s H vs Q E hr ⟨HF,ds,d,sm,tb,rr,hl,hd,q⟩=>?_
 refine⟨_,(body (Bf Kb P w K mg base N qual (aD st) f cdv A outer s H E).nox rfl rfl rfl rfl rfl ⟨rfl,S.nd,fun y kd hy=>.inl hy,rfl,fun _ _=>rfl,hr,rfl,S.kind⟩ rfl rfl HF H).nox,?_⟩
 unfold aU at hd
 obtain⟨o,ho,hd⟩:=ag hd
 have hpl:ps.length<=N.length:=by have:=jC List.length S.pre;rw[jV] at this;omega
 refine⟨HF,_,o,⟨.refl sm,fun i e h=>?_,fun i es h=>?_,fun i j es fs a h=>?_,?_,tb⟩,ho,?_⟩
 ·have hi:i < ds.length:=by
   by_cases hi:i < ds.length
   ·exact hi
   ·rw[yT (by simpa using hi),yX] at h
    split at h<;>cases h
  rw[yS (by simpa using hi),zO] at h
  obtain⟨d',hd',h⟩:=ag h
  cases h
  obtain⟨v,hv,rv⟩:=rr.getD hd'
  refine⟨v,?_,rv⟩
  unfold L2.start
  rw[yS (by simpa [rr.length] using hi),zO,hv]
  rfl
 ·exfalso
  by_cases hi:i < ds.length
  ·rw[yS (by simpa using hi),zO] at h
   obtain⟨d',hd',h⟩:=ag h
   cases h
  ·rw[yT (by simpa using hi),yX] at h
   split at h<;>cases h
 ·exfalso
  by_cases hi:i < ds.length
  ·rw[yS (by simpa using hi),zO] at h
   obtain⟨d',hd',h⟩:=ag h
   cases h
  ·rw[yT (by simpa using hi),yX] at h
   split at h<;>cases h
 ·unfold L2.start
  rw[zN,zN,zD,zD,xM,xM,rr.length]
  exact yM _
 ·cases o with
  | rt d'=>cases hd;exact fun v H' HF' G r=>q v H' HF' G r
  | nx ρ'=>cases hd;exact fun σ' H' HF' S' _=>q .non H' HF' S'.gr (by simp[Rep])
theorem MY{K:W.Frag}{st:Stmt}(F:FA K x qual st f fd)(S:dP N ps (aD st))(hb:Binds K fd ps [])(hm:mg x=some (.ref f))
  (body:∀X:Cx,X.prog=P->X.w=w->X.K=K->X.mg=mg->X.base=base->Bk X N (aD st) k->X.env.code=fd.code->X.env.qual=qual++".<locals>."->∀HF₀ H₀,BN X HF₀ H₀ (bK st) g):EF P w K mg base (k+1) x ps.length (aU g N.length):=⟨f,fd,ps,Hc F S body,hm,F.kp,hb⟩
end
section
def jx(fz:List Nat)(f:Env->Option D)(ρ:ao):Option (D×ao):=(f (bf ρ)).bind fun d=>if oT d=true then some (d,ρ) else (f (bM (hand fz 0 ρ))).map fun d'=>(d',hand fz 0 ρ)
theorem mJ{K:W.Frag}(S:iE K HF₀ H₀ HF H ρ σ)(h:jx fz f ρ=some (d,ρ'))
  (q:∀v H' HF',aQ HF HF'->iE K HF₀ H₀ HF' H' ρ' σ->aQ H H'->Rep K HF' d v->Q v H'):tD K f σ H Q:=by
 obtain⟨d1,h1,h⟩:=bs h
 split at h
 ·rename_i hs
  cases h
  exact⟨H,bf ρ,d,.refl _,S.all,h1,fun v H' HF' G r=>q v H' HF (.refl _) (S.step G.hh) G.hh (tJ hs r)⟩
 ·obtain⟨d2,h2,h⟩:=ag h
  cases h
  obtain⟨HF1,s1,S1⟩:=S.hand fz
  exact⟨HF1,_,d,S1.gr.fh,S1.frz,h2,fun v H' HF' G r=>q v H' HF' (s1.trans G.ff) (S1.grow G) G.hh r⟩
def mT(i:Nat)(m:List D->Option (List D))(ρ:ao):Option Out:=match ρ[i]? with
 | some (.own ds)=>(m ds).map fun es=>.nx (ρ.set i (.own es))
 | _=>none
theorem jm(h:mT i m ρ=some o):∃ds es,ρ[i]?=some (.own ds)/\m ds=some es/\o=.nx (ρ.set i (.own es)):=by
 unfold mT at h
 split at h
 ·rename_i ds hd
  obtain⟨es,h1,h2⟩:=ag h
  exact⟨ds,es,hd,h1,h2.symm⟩
 ·cases h
theorem iE.mut{K:W.Frag}(S:iE K HF₀ H₀ HF H ρ σ)(h:ρ[i]?=some (.own ds))(ha:σ[i]?=some (some (.ref a)))(hH:H a=some (.lst vs))(r:aq K HF es us) :
  iE K HF₀ H₀ HF (upd H a (.lst us)) (ρ.set i (.own es)) σ:=by
 obtain⟨a',vs',e1,e2,e3,e5,e4⟩:=S.own i ds h
 rw[ha] at e1;cases e1
 have hl:i < ρ.length:=(List.getElem?_eq_some_iff.mp h).1
 have gr:cw HF₀ H₀ HF (upd H a (.lst us)):=⟨fun b o e=>by rw[ay (aM e e5)];exact S.gr.hh b o e,S.gr.ff,fun b o e=>by rw[ay (aM e e3)];exact S.gr.fh b o e,S.gr.nw⟩
 refine⟨gr,fun j d hj=>?_,fun j xs hj=>?_,fun j k xs ys b f1 f2 f3 f4=>?_,by rw[yC];exact S.len,S.tb⟩
 ·rw[xI] at hj
  by_cases hij:i=j
  ·rw[yL hij] at hj
   split at hj<;>cases hj
  ·rw[yN hij] at hj;exact S.val j d hj
 ·rw[xI] at hj
  by_cases hij:i=j
  ·subst hij
   rw[yL rfl,yL hl] at hj
   cases hj
   exact⟨a,us,ha,aJ,e3,e5,r⟩
  ·rw[yN hij] at hj
   obtain⟨b,ws,f1,f2,f3,f5,f4⟩:=S.own j xs hj
   refine⟨b,ws,f1,?_,f3,f5,f4⟩
   rw[ay]
   ·exact f2
   ·rintro rfl
    exact hij (S.inj i j ds xs b h hj ha f1)
 ·have old:∀ {j:Nat}{xs:List D},(ρ.set i (.own es))[j]?=some (.own xs)->∃ys,ρ[j]?=some (.own ys):=fun {j xs} hj=>by
   rw[xI] at hj
   by_cases hij:i=j
   ·subst hij;exact⟨ds,h⟩
   ·rw[yN hij] at hj;exact⟨xs,hj⟩
  obtain⟨xs',g1⟩:=old f1
  obtain⟨ys',g2⟩:=old f2
  exact S.inj j k xs' ys' b g1 g2 f3 f4
def kb(i:Nat)(fz:List Nat)(f:Env->Option D):ao->Option Out:=fun ρ=>(jx fz f ρ).bind fun p=>mT i (fun ds=>if ds.length < sizeLine then some (ds++[p.1]) else none) p.2
theorem Bo(i:Nat)(fz:List Nat)(hN:X.N[i]?=some x)(hv:Hb X.env.scope x)(h:DE X e f)(hd:(x == ("__debug__":Str))=false:=by decide)(hcd:(x == ("__classdict__":Str))=false:=by decide)
  (hfew:((backTo cpos (starEach [e] X.env)).all (fun x=>!x.1)&&(backToKw cpos (keywordEach [] X.env)).all (fun x=>x.1.isSome)&&decide ([e].length+([]:List Keyword).length+(if ([]:List Keyword).isEmpty then 0 else 1) < 30))=true:=by rfl)
  (hline:(apos.endLine == cpos.line)=true:=by rfl) (hs:starEach [e] X.env=(false,eval e X.env)::starEach [] X.env:=by rfl) :
  DS X HF₀ H₀ (.Expr (.Call (.Attribute (.Name x px) "append" apos) [e] [] cpos) pos) (kb i fz f) :=
 cW (nL (uO qN PySem.F.slot_list_append PySem.F.type_list_append qb (oF hN hv hd hcd) (cJ h ft hs) rfl hfew hline hs rfl)) fun E σ H ⟨HF,ρ,o,S,hg,q⟩=>by
  obtain⟨⟨d,ρ'⟩,h1,hg⟩:=bs hg
  obtain⟨ds,es,h2,h3,rfl⟩:=jm hg
  have hown:∃ds',ρ[i]?=some (.own ds'):=by
   obtain⟨d1,_,h1⟩:=bs h1
   split at h1
   ·cases h1;exact⟨ds,h2⟩
   ·obtain⟨d2,_,h1⟩:=ag h1
    cases h1
    rw[gx] at h2
    obtain⟨s,hs,h2⟩:=ag h2
    cases s with
    | non=>split at h2<;>cases h2
    | val _=>split at h2<;>cases h2
    | own xs=>exact⟨xs,hs⟩
  obtain⟨ds',hown⟩:=hown
  obtain⟨a,vs,e1,e2,e3,e5,e4⟩:=S.own i ds' hown
  refine⟨.ref a,e1,.inl ⟨rfl,vs,gn.of e2⟩,mJ S h1 fun v H' HF' s1 S' sh r=>?_⟩
  obtain⟨a',vs',f1,f2,f3,f5,f4⟩:=S'.own i ds h2
  rw[e1] at f1;cases f1
  split at h3
  ·rename_i hz
   cases h3
   exact⟨a,vs',v,rfl,rfl,f2,by rw[f4.length];exact hz,q σ _ HF' (S'.mut h2 e1 f2 (f4.append (aq.cons r aq.nil))) s1⟩
  ·cases h3
end
def rq(K:W.Frag)(o:Obj):Option (Addr×Str):=match o.data with
 | .func fd=>if iO.contains fd.qualname=true then (match fd.code with
   | .ref c=>(match K.lookup c with
    | some ⟨_,_,.fields vs,_⟩=>(match (vs[11]?:Option Value) with
     | some (.ref P)=>if W.codeHdIn K c P=true then some (P,fd.qualname++".<locals>."++"<lambda>") else none
     | _=>none)
    | _=>none)
   | _=>none) else none
 | _=>none
def fZ(K:W.Frag):List (Addr×Str):=K.filterMap fun p=>rq K p.2
def l5(K:W.Frag)(ts:List Addr):Bool:=(fZ K).all fun p=>ts.contains p.1&&(K.lookup p.1).isNone&&decide ((fZ K).lookup p.1=some p.2)
theorem uc{K:W.Frag}(h:rq K o=some (P,q)):∃c,W.codeHdIn K c P=true:=by
 unfold rq at h
 split at h
 ·split at h
  ·split at h
   ·split at h
    ·split at h
     ·split at h
      ·cases h;exact⟨_,‹_›⟩
      ·cases h
     ·cases h
    ·cases h
   ·cases h
  ·cases h
 ·cases h
theorem tK{K:W.Frag}(h:(P,q)∈fZ K):∃c,W.codeHdIn K c P=true:=by
 obtain⟨p,_,e⟩:=List.mem_filterMap.mp h
 exact uc e
theorem xy{K:W.Frag}(a:K.lookup f=some ⟨oc,od,.func fd,sl⟩)(b:fd.qualname∈iO)(d:fd.code=.ref c)(e:W.codeHdIn K c P=true) :
  (P,fd.qualname++".<locals>."++"<lambda>")∈fZ K:=by
 refine List.mem_filterMap.mpr ⟨(f,_),W.mem_of_lookupK a,?_⟩
 have e':=e
 unfold W.codeHdIn at e'
 unfold rq
 simp only[d,List.contains_iff_mem,b,xH]
 split at e'
 ·rename_i vs sl' hl
  simp only[hl]
  simp only[zF] at e'
  have e1:=e'.1.1.1.1.1
  split at e1
  ·rename_i P' hv
   have:P'=P:=by simpa using e1
   subst this
   simp only[hv,e,xH]
  ·cases e1
 ·cases e'
theorem BR:∀ {l:List (Addr×α)},l.lookup b=some q->(b,q)∈l
 | [],e=>by cases e
 | (c,x)::r,e=>by
  rw[yB] at e
  cases h:b == c with
  | true=>rw[h] at e;cases e;rw[eq_of_beq h];exact zE
  | false=>rw[h] at e;exact zC _ (BR e)
def eF(K:W.Frag)(h0:Hp):Hp:=fun b=>match (fZ K).lookup b with|some q=>some (.tab q)|none=>h0 b
theorem AN{K:W.Frag}(h:l5 K ts=true):fj K (eF K h0):=fun f oc od fd sl c P a b d e=>by
 have hm:=xy a b d e
 have:=List.all_eq_true.mp h _ hm
 simp only[zF,zJ] at this
 unfold eF
 rw[this.2]
theorem AM{w:World}{K:W.Frag}{CX:Ha}{k:Nat}{fa:Addr}{fd:FuncData}{sp:Sp}{vs:List Value}{ns:List Int}
  (KX:K.In s₁.heap) (hns:s₁.heap.Ns mainGlobals mg) (hb:s₁.heap.Ns builtinsNs mb) (hbb:∀x:Str,x≠"__name__"->mb x=bootBuiltins x) (hlim:s₁.heap.NoLimit) (hbm:LM mg s₁.heap) (hg:s₁.gens=#[])
  (ht:l5 K ts=true) (hts:∀P∈ts,s₁.heap.get? P=some (W.tabObj #[]))
  (ha:s₁.heap.get? a=some { cls:=.type "list",data:=.seq vs.toArray }) (hi:IntsAre vs ns) (hl:ns.length<=sizeLine) (hr:dW k callerA)
  (F:∀base:Heap,K.In base->base.Ns mainGlobals mg->oD P w K mg base CX k fa fd [x] sp) (hbind:∀ (s:Shared) (u:Value),BindsTo s fd ⟨[u],[]⟩ [(x,u)])
  (hsp:∀H:Hp,fj K H->gn K H a (ns.map V.int)->sp [.ref a] H (fun v _=>v=.bl true) fun _ _ _=>False)
  (hCX:∀H e s',CX [] H s₁ (fun _ _ _=>False) e s'->False) :
  codeAny (model P w) callerA (.call (.ref fa) ⟨[.ref a],[]⟩) (fun r s'=>r=.ok (.ret (.bool true))/\OldK s₁.heap s'.heap/\s'.os=s₁.os/\AllBare s'.gens) s₁:=by
 have rv:=gc hi
 have lenV:=hi.length
 have tabAt:∀b q,(fZ K).lookup b=some q->s₁.heap.get? b=some (W.tabObj #[])/\K.lookup b=none/\∃c,W.CodeHd s₁.heap c b:=fun b q e=>by
  have hm:=BR e
  have:=List.all_eq_true.mp ht _ hm
  simp only[zF,zJ,List.contains_iff_mem,Option.isNone_iff_eq_none] at this
  obtain⟨c,hc⟩:=tK hm
  exact⟨hts b this.1.1,this.1.2,c,W.codeHd_of_K KX hc⟩
 have aT:(fZ K).lookup a=none:=by
  cases e:(fZ K).lookup a with
  | none=>rfl
  | some q=>have:=(tabAt a q e).1;rw[ha] at this;cases this
 have core:∀h0:Hp,gn K (eF K h0) a (ns.map V.int)->nJ P w (eF K h0) s₁.heap->(∀b,h0 b≠none->b=a)->(h0 a≠none->K.lookup a=none)->(∀b,h0 b=none\/∃o xs,h0 b=some (.frz o (.lst xs))) ->
   codeAny (model P w) callerA (.call (.ref fa) ⟨[.ref a],[]⟩) (fun r s'=>r=.ok (.ret (.bool true))/\OldK s₁.heap s'.heap/\s'.os=s₁.os/\AllBare s'.gens) s₁:=by
  intro h0 hS hok hA hK hO
  have look:∀b u,eF K h0 b=some u->(∃q,(fZ K).lookup b=some q/\u=.tab q)\/(b=a/\h0 b=some u):=fun b u e=>by
   unfold eF at e
   split at e
   ·rename_i q hq;cases e;exact .inl ⟨q,hq,rfl⟩
   ·exact .inr ⟨hA b (by rw[e];simp),e⟩
  have lW:∀ {b:Addr}{o:Obj},s₁.heap.get? b=some o->eF K h0 b=none->(se s₁.heap (eF K h0)).get? b=some o:=fun e n=>De e n
  have noA:∀ {b:Addr}{o:Obj},s₁.heap.get? b=some o->(∀vs n,o.data≠.seq vs n)->(∀vs,o.data≠.fields vs)->eF K h0 b=none:=fun {b o} e d d2=>by
   cases q:eF K h0 b with
   | none=>rfl
   | some u =>
    rcases look b u q with ⟨q',z,_⟩|⟨z,_⟩
    ·rw[(tabAt b q' z).1] at e;cases e;exact absurd rfl (d2 _)
    ·subst z;rw[ha] at e;cases e;exact absurd rfl (d _ _)
  have nsK:∀ {b:Addr}{m:Str->Option Value},s₁.heap.Ns b m->(se s₁.heap (eF K h0)).Ns b m:=fun {b m} ⟨o,es,ep,e,d,r⟩=>⟨o,es,ep,lW e (noA e (fun _ _ z=>by rw[d] at z;cases z) fun _ z=>by rw[d] at z;cases z),d,r⟩
  have hKb:K.In (se s₁.heap (eF K h0)):=fun b o e=>lW (KX b o e) (by
   cases q:eF K h0 b with
   | none=>rfl
   | some u =>
    rcases look b u q with ⟨q',z,_⟩|⟨z,z2⟩
    ·rw[(tabAt b q' z).2.1] at e;cases e
    ·subst z;rw[hK (by rw[z2];simp)] at e;cases e)
  have hM:Mod K mg (se s₁.heap (eF K h0)):=⟨hKb,nsK hns,⟨mb,nsK hb,hbb⟩,let ⟨mc,h1,h2⟩:=hlim;⟨mc,nsK h1,h2⟩,
   let ⟨bm,o,b1,b2,b3,b4,b5,b6,b7⟩:=hbm;⟨bm,o,b1,b2,b3,lW b4 (noA b4 (fun _ _ z=>by rw[b7] at z;cases z) fun _ z=>by rw[b7] at z;cases z),b5,b6,b7⟩⟩
  have e0:FF P w K mg (se s₁.heap (eF K h0)) callerA [] s₁ (eF K h0):=⟨rfl,hM,fun b o e=>G0 e,Nat.le_of_eq (AI _ _),trivial,fun b hb=>absurd (show b∈([]:List Addr) from hb) (by simp),hok,.of_eq hg⟩
  refine jR ((F _ hKb (nsK hns)).run callerA [] s₁ (eF K h0) ⟨[.ref a],[]⟩ [.ref a] [.ref a] _ _ hr e0 (hbind s₁ (.ref a)) (.cons rfl .nil) (hsp _ (AN ht) hS)) fun r s' h=>?_
  cases r with
  | error e=>exact (hCX _ e s' h).elim
  | ok fl =>
   cases fl with
   | next=>exact False.elim h
   | brk=>exact False.elim h
   | cont=>exact False.elim h
   | ret u =>
    obtain⟨v,H',os,bare,un,hok',r',q⟩:=h
    have q':v=.bl true:=q
    subst q'
    obtain rfl:u=Value.bool true:=r'
    have key:∀b o,s₁.heap.get? b=some o->s'.heap.get? b=some o\/(isCodeTable s₁.heap b/\o=W.tabObj #[]/\∃ps,s'.heap.get? b=some (W.tabObj ps)):=fun b o e=>by
     cases q:eF K h0 b with
     | none=>exact .inl (un.keep b o e q (by intro z;exact absurd (show b∈([]:List Addr) from z) (by simp)) (by simp))
     | some u =>
      rcases look b u q with ⟨q',z,rfl⟩|⟨z,z2⟩
      ·obtain⟨t1,_,c,t3⟩:=tabAt b q' z
       obtain⟨more,m1⟩:=un.tbls.gr b q' #[] q t1
       rw[e] at t1
       cases t1
       exact .inr ⟨(t3.tab e).isCodeTable,rfl,_,m1⟩
      ·rcases hO b with z3|⟨ob,xs,z3⟩
       ·rw[z2] at z3;cases z3
       ·rw[z2] at z3
        cases z3
        have z4:=un.frzs b ob _ q
        obtain⟨e1,_⟩:=hok b _ q
        obtain⟨e2,_⟩:=hok' b _ z4
        rw[e] at e1;cases e1
        exact .inl e2
    refine⟨rfl,⟨fun b o e=>?_,fun b o e=>?_⟩,os,bare⟩
    ·rcases key b o e with z|⟨t,rfl,ps,z⟩
     ·exact .inl z
     ·exact .inr (.inl ⟨t,rfl,#[],ps,rfl,by rw[Array.empty_append];exact z⟩)
    ·rcases key b o e with z|⟨_,_,ps,z⟩
     ·exact⟨o,z⟩
     ·exact⟨_,z⟩
 have hoT:∀ (h0:Hp) b q,(fZ K).lookup b=some q->dv P w (eF K h0) s₁.heap b (.tab q):=fun h0 b q e=>⟨#[],(tabAt b q e).1,trivial,fun pos v z=>by cases z⟩
 cases hk:K.lookup a with
 | some o =>
  have e:=KX a o hk
  rw[ha] at e
  cases e
  refine core (fun _=>none) (.inr ⟨_,vs.toArray,_,hk,rfl,rfl,rfl,by rw[zH,lenV];exact hl,by simpa using rv⟩) (fun b u z=>?_) (fun b z=>absurd rfl z) (fun z=>absurd rfl z) fun _=>.inl rfl
  unfold eF at z
  split at z
  ·rename_i q hq;cases z;exact hoT _ b q hq
  ·cases z
 | none =>
  refine core (fun b=>if b=a then some (.frz { cls:=.type "list",data:=.seq vs.toArray } (.lst (ns.map V.int))) else none) (.inl (.inr ⟨{ cls:=.type "list",data:=.seq vs.toArray },?_⟩)) (fun b u z=>?_) (fun b z=>?_) (fun _=>hk) fun b=>?_
  ·unfold eF;rw[aT];exact yL rfl
  ·unfold eF at z
   split at z
   ·rename_i q hq;cases z;exact hoT _ b q hq
   ·by_cases hb:b=a
    ·replace z:=(yL hb).symm.trans z
     cases z
     subst hb
     exact⟨ha,by rw[zD];exact hl,vs,_,rv,ha⟩
    ·replace z:=(yN hb).symm.trans z;cases z
  ·by_cases hb:b=a
   ·exact hb
   ·exact absurd (yN hb) z
  ·by_cases hb:b=a
   ·exact .inr ⟨_,_,yL hb⟩
   ·exact .inl (yN hb)
theorem DP{l:W.OpenLaw}{n k:Nat}{q:Program}{loose:List Str}{XP:(Str->Option Value)->Heap->Prop}{YP:World->Heap->Prop}{d:DefRec}{K:Params->W.Frag}{CX:World->Ha}{sp:World->Sp}{x:Str}{ts:List Addr}
  (hn:l.most=some n) (hn2:n<=sizeLine) (hdf:d.params.defaults=[]) (hr:dW k callerA)
  (hY:∀ (w:World) (h:Heap),YP w h->(K w.params).In h/\∀P∈ts,h.get? P=some (W.tabObj #[])) (ht:∀w:World,l5 (K w.params) ts=true)
  (F:∀ (w:World) (mg:Str->Option Value) (fa:Addr) (h:Heap),(K w.params).In h->h.Ns mainGlobals mg->mg d.name=some (.ref fa) ->
   ∃fd:FuncData,(∀ (s:Shared) (u:Value),BindsTo s fd ⟨[u],[]⟩ [(x,u)]) /\
    ∀base:Heap,(K w.params).In base->base.Ns mainGlobals mg->oD l.prog w (K w.params) mg base (CX w) k fa fd [x] (sp w))
  (hsp:∀ (w:World) (H:Hp) (a:Addr) (ns:List Int),ns.length<=n->fj (K w.params) H->gn (K w.params) H a (ns.map V.int)->sp w [.ref a] H (fun v _=>v=.bl true) fun _ _ _=>False)
  (hCX:∀ (w:World) (H:Hp) (s:Shared) (e:Value) (s':Shared),CX w [] H s (fun _ _ _=>False) e s'->False) :
  W.WalkO q loose XP YP l.row.toRowW d [] (fun f vs=>PySem.call f vs):=by
 refine Att.attach_call hn hdf fun w s₀ s₁ mg mb fa o pm cd doc a vs ns G Y ho hd hcd hmg hobj hints hlen hg=>?_
 obtain⟨KX,hts⟩:=hY w _ Y
 obtain⟨fd,hb,hF⟩:=F w mg fa _ KX G.T.g hmg
 have hbm:LM mg s₁.heap:=by
  obtain⟨bm,ob,b1,b2,b3,b4,b5,b6⟩:=G.T.bmain
  refine⟨bm,ob,b1,b2,fun z=>?_,b3,b4,b5,b6⟩
  obtain⟨o',es,ep,e1,e2,_⟩:=G.T.g
  rw[<- z,b3] at e1
  cases e1
  rw[b6] at e2;cases e2
 exact AM KX G.T.g G.T.b G.T.builtins G.T.nolimit hbm hg (ht w) hts hobj hints (yD hlen hn2) hr hF hb (fun H hT hS=>hsp w H a ns hlen hT hS) fun H e s'=>hCX w H s₁ e s'
end Dl
namespace SP
open PySem PySem.W PyProof.Rows
def run(lt:Nat->Nat->Bool):KasT α->α
 | .ret a=>a
 | .ask i j k=>run lt (k (lt i j))
theorem gf(lt:Nat->Nat->Bool)(f:α->KasT β):∀t:KasT α,run lt (t.bind f)=run lt (f (run lt t))
 | .ret a=>rfl
 | .ask i j k=>by
  show run lt ((k (lt i j)).bind f)=run lt (f (run lt (k (lt i j))))
  exact gf lt f (k (lt i j))
def Ke(n:Nat):KasT α->Prop
 | .ret _=>True
 | .ask i j k=>i < n/\j < n/\∀b,Ke n (k b)
theorem wp_run(hc:∀i j C,i < n->j < n->C (lt i j) s->cmp i j C s):∀ (t:KasT α) {Q:α->Shared->Prop},Ke n t->Q (run lt t) s->t.kasWp cmp Q s
 | .ret a,Q,_,h=>h
 | .ask i j k,Q,b,h=>hc i j _ b.1 b.2.1 (wp_run hc (k (lt i j)) (b.2.2 _) h)
def n9(n:Nat)(R:α->Prop):KasT α->Prop
 | .ret a=>R a
 | .ask i j k=>i < n/\j < n/\∀b,n9 n R (k b)
theorem mh:∀ {t:KasT α},n9 n R t->(∀a,R a->Ke n (f a))->Ke n (t.bind f)
 | .ret a,b,h=>h a b
 | .ask i j k,b,h=>⟨b.1,b.2.1,fun c=>mh (b.2.2 c) h⟩
theorem gW:∀ {t:KasT α},n9 n R t->(∀a,R a->n9 n S (f a))->n9 n S (t.bind f)
 | .ret a,b,h=>h a b
 | .ask i j k,b,h=>⟨b.1,b.2.1,fun c=>gW (b.2.2 c) h⟩
def Bd(n:Nat)(p:Array Nat):Prop:=∀a,p.getD a 0 < n
theorem Bd.perm(h:Bd n p)(e:q.Perm p):Bd n q:=by
 intro a
 rw[qD]
 cases ha:q[a]? with
 | none=>have:=h p.size;rw[qD] at this;simpa using this
 | some x =>
  have hx:x∈q:=Array.mem_of_getElem? ha
  have hx':x∈p:=e.mem_iff.mp hx
  obtain⟨i,hi,rfl⟩:=Array.mem_iff_getElem.mp hx'
  have:=h i
  rw[qD] at this
  simpa [hi] using this
theorem C2(h:Bd n p):∀f m,n9 n (fun _=>True) (kas_asc p f m)
 | 0,m=>trivial
 | f+1,m=>⟨h _,h _,fun c=>by
  dsimp only
  split
  ·trivial
  ·exact C2 h f (m+1)⟩
theorem tw(h:Bd n p)(i j:Nat):Bd n (kas_rev p i j):=h.perm (mirror_perm _ _ _ _)
theorem sW:∀ (f:Nat) {p:Array Nat}(h:Bd n p) (m q:Nat),n9 n (fun r=>Bd n r.1) (kas_desc f p m q)
 | 0,p,h,m,q=>h
 | f+1,p,h,m,q=>⟨h _,h _,fun c=>by
  dsimp only
  split
  ·split
   ·exact sW f (tw h _ _) (m+1) 0
   ·exact sW f h (m+1) 0
  ·exact⟨h _,h _,fun d=>by
    dsimp only
    split
    ·exact h
    ·exact sW f h (m+1) (q+1)⟩⟩
theorem Aw(h:Bd n p)(m nrem:Nat):n9 n (fun r=>Bd n r.2) (kas_tail3 m nrem p):=gW (C2 (tw h 0 m) _ _) fun _ _=>tw h 0 m
theorem n6(h:Bd n p)(m nrem:Nat):n9 n (fun r=>Bd n r.2) (kas_descPart m nrem p):=gW (sW _ h _ _) fun r hr=>by
 split
 ·exact Aw (tw hr _ _) _ _
 ·exact Aw hr _ _
theorem Gz(h:Bd n p)(nrem:Nat):n9 n (fun r=>Bd n r.2) (kas_count nrem p):=gW (C2 h _ _) fun m _=>by
 split
 ·exact h
 ·split
  ·exact⟨h _,h _,fun c=>by
    dsimp only
    split
    ·exact h
    ·exact n6 (tw h _ _) _ _⟩
  ·exact n6 h _ _
theorem rA(h:Bd n p)(k:Nat):∀f l r,n9 n (fun _=>True) (kas_place p k f l r)
 | 0,l,r=>trivial
 | f+1,l,r=>by
  unfold kas_place
  split
  ·trivial
  ·exact⟨h _,h _,fun c=>by
    dsimp only
    split
    ·exact rA h k f _ _
    ·exact rA h k f _ _⟩
theorem Hw:∀ (f:Nat) {p:Array Nat}(h:Bd n p) (k:Nat),Ke n (kas_bin f p k)
 | 0,p,h,k=>trivial
 | f+1,p,h,k=>mh (rA h k _ _ _) fun l _=>Hw f (h.perm (bubble_perm _ _ _)) (k+1)
theorem Co(h1:1<=n):Ke n (kas_sort n):=by
 have h:Bd n (List.toArray (List.range n)):=fun a=>by
  rw[qD]
  by_cases ha:a < n
  ·simp[ha]
  ·simp[ha];omega
 refine mh (Gz h n) fun r hr=>?_
 split
 ·exact Hw _ hr _
 ·trivial
section
variable (z:Nat->Int)
def Z(p:Array Nat)(a:Nat):Int:=z (p.getD a 0)
def dw:Nat->Nat->Bool:=fun i j=>decide (z i < z j)
theorem lQ(h:p[a]?=q[b]?):Z z p a=Z z q b:=by
 unfold Z
 rw[qD,qD,h]
theorem CV(hj:j<=p.size)(k:Nat):Z z (kas_rev p i j) k=if i<=k/\k < j then Z z p (i+j - 1 - k) else Z z p k:=by
 have e:=getElem?_mirror_all (xs:=p) (i:=i) hj k
 unfold kas_rev
 by_cases h1:i<=k/\k < j
 ·rw[yL h1] at e ⊢;exact lQ z e
 ·rw[yN h1] at e ⊢;exact lQ z e
theorem CM(hs:src < p.size)(hd:d<=src)(k:Nat):Z z (bubble p src d) k=if k=src - d then Z z p src else if src - d < k/\k<=src then Z z p (k - 1) else Z z p k:=by
 have e:=getElem?_bubble hs d hd k
 by_cases h1:k=src - d
 ·rw[yL h1] at e ⊢;exact lQ z e
 ·rw[yN h1] at e ⊢
  by_cases h2:src - d < k/\k<=src
  ·rw[yL h2] at e ⊢;exact lQ z e
  ·rw[yN h2] at e ⊢;exact lQ z e
def Up(p:Array Nat)(n:Nat):Prop:=∀a b,a<=b->b < n->Z z p a<=Z z p b
def Dn(p:Array Nat)(n:Nat):Prop:=∀a b,a<=b->b < n->Z z p b<=Z z p a
variable {z}
theorem E6(h:Up z p n)(hn:1<=n)(h1:Z z p (n - 1)<=Z z p n):Up z p (n+1):=by
 intro a b hab hb
 by_cases hbn:b < n
 ·exact h a b hab hbn
 ·have e:b=n:=by omega
  subst e
  by_cases ha:a=b
  ·subst ha;exact xZ _
  ·exact jT (h a (b - 1) (by omega) (by omega)) h1
theorem Mf:∀ (f n:Nat),1<=n->Up z p n->n<=run (dw z) (kas_asc p f n)/\run (dw z) (kas_asc p f n)<=n+f/\Up z p (run (dw z) (kas_asc p f n))/\(run (dw z) (kas_asc p f n) < n+f->Z z p (run (dw z) (kas_asc p f n)) < Z z p (run (dw z) (kas_asc p f n) - 1))
 | 0,n,hn,h=>⟨yM _,yM _,h,fun q=>absurd q (qE _)⟩
 | f+1,n,hn,h=>by
  unfold kas_asc
  show n<=run (dw z) (if dw z (p.getD n 0) (p.getD (n - 1) 0)=true then .ret n else kas_asc p f (n+1))/\run (dw z) (if dw z (p.getD n 0) (p.getD (n - 1) 0)=true then .ret n else kas_asc p f (n+1))<=n+(f+1)/\Up z p (run (dw z) (if dw z (p.getD n 0) (p.getD (n - 1) 0)=true then .ret n else kas_asc p f (n+1)))/\(run (dw z) (if dw z (p.getD n 0) (p.getD (n - 1) 0)=true then .ret n else kas_asc p f (n+1)) < n+(f+1)->Z z p (run (dw z) (if dw z (p.getD n 0) (p.getD (n - 1) 0)=true then .ret n else kas_asc p f (n+1))) < Z z p (run (dw z) (if dw z (p.getD n 0) (p.getD (n - 1) 0)=true then .ret n else kas_asc p f (n+1)) - 1))
  by_cases hc:dw z (p.getD n 0) (p.getD (n - 1) 0)=true
  ·rw[yL hc]
   exact⟨yM _,jU _ _,h,fun _=>yQ hc⟩
  ·rw[yN hc]
   have h1:Z z p (n - 1)<=Z z p n:=by
    have:¬ (Z z p n < Z z p (n - 1)):=fun q=>hc (yA q)
    omega
   obtain⟨a,b,c,d⟩:=Mf f (n+1) (by omega) (E6 h hn h1)
   exact⟨by omega,by omega,c,fun q=>d (by omega)⟩
theorem wz(hj:j<=p.size)(h:∀a b,i<=a->a < j->i<=b->b < j->Z z p a=Z z p b)(k:Nat):Z z (kas_rev p i j) k=Z z p k:=by
 rw[CV z hj]
 split
 ·rename_i hk
  exact h _ _ (by omega) (by omega) hk.1 hk.2
 ·rfl
theorem C3(e:∀k,Z z q k=Z z p k)(h:Dn z p n):Dn z q n:=fun a b hab hb=>by rw[e,e];exact h a b hab hb
theorem JA(hn:n<=p.size)(h:Dn z p n):Up z (kas_rev p 0 n) n:=by
 intro a b hab hb
 rw[CV z hn,CV z hn,yL ⟨xV _,by omega⟩,yL ⟨xV _,hb⟩]
 exact h _ _ (by omega) (by omega)
theorem lL(p:Array Nat)(i j:Nat):(kas_rev p i j).size=p.size:=mirror_size _ _ _ _
theorem l7(p:Array Nat)(i j:Nat):(kas_rev p i j).Perm p:=mirror_perm _ _ _ _
structure IR(z:Nat->Int)(p₀ p:Array Nat)(n q nrem:Nat):Prop where
 perm:p.Perm p₀
 size:p.size=p₀.size
 le:n<=nrem
 qn:q+1<=n
 dn:Dn z p n
 eq:∀a b,n - (q+1)<=a->a < n->n - (q+1)<=b->b < n->Z z p a=Z z p b
theorem Fk(hz:nrem<=p₀.size):∀ (f:Nat) (p:Array Nat) (n q:Nat),n+f<=nrem->IR z p₀ p n q nrem ->
  let r:=run (dw z) (kas_desc f p n q);IR z p₀ r.1 r.2.1 r.2.2 nrem
 | 0,p,n,q,hn,h=>h
 | f+1,p,n,q,hn,h=>by
  intro r
  have hr:r=run (dw z) (if dw z (p.getD n 0) (p.getD (n - 1) 0)=true then (if q > 0 then kas_desc f (kas_rev p (n - (q+1)) n) (n+1) 0 else kas_desc f p (n+1) 0)
   else .ask (p.getD (n - 1) 0) (p.getD n 0) fun d=>if d=true then .ret (p,n,q) else kas_desc f p (n+1) (q+1)):=rfl
  have hq:=h.qn
  by_cases hc:dw z (p.getD n 0) (p.getD (n - 1) 0)=true
  ·rw[yL hc] at hr
   have hlt:Z z p n < Z z p (n - 1):=yQ hc
   have step:∀p':Array Nat,p'.Perm p₀->p'.size=p₀.size->(∀k,Z z p' k=Z z p k)->IR z p₀ p' (n+1) 0 nrem:=fun p' a1 a2 a3=>by
    refine⟨a1,a2,by omega,by omega,fun a b hab hb=>?_,fun a b h1 h2 h3 h4=>by rw[show a=b by omega]⟩
    rw[a3,a3]
    by_cases hbn:b < n
    ·exact h.dn a b hab hbn
    ·have e:b=n:=by omega
     subst e
     by_cases ha:a=b
     ·subst ha;exact xZ _
     ·exact jT (Int.le_of_lt hlt) (h.dn a (b - 1) (by omega) (by omega))
   by_cases hq0:q > 0
   ·rw[yL hq0] at hr
    rw[hr]
    exact Fk hz f _ (n+1) 0 (by omega) (step _ ((l7 _ _ _).trans h.perm) (by rw[lL,h.size]) (wz (by rw[h.size];omega) h.eq))
   ·rw[yN hq0] at hr
    rw[hr]
    exact Fk hz f p (n+1) 0 (by omega) (step p h.perm h.size fun _=>rfl)
  ·rw[yN hc] at hr
   have hge:Z z p (n - 1)<=Z z p n:=by
    have:¬ (Z z p n < Z z p (n - 1)):=fun q=>hc (yA q)
    omega
   have hr':r=run (dw z) (if dw z (p.getD (n - 1) 0) (p.getD n 0)=true then .ret (p,n,q) else kas_desc f p (n+1) (q+1)):=hr
   by_cases hd:dw z (p.getD (n - 1) 0) (p.getD n 0)=true
   ·rw[yL hd] at hr'
    rw[hr']
    exact h
   ·rw[yN hd] at hr'
    rw[hr']
    have heq:Z z p n=Z z p (n - 1):=by
     have:¬ (Z z p (n - 1) < Z z p n):=fun q=>hd (yA q)
     omega
    refine Fk hz f p (n+1) (q+1) (by omega) ⟨h.perm,h.size,by omega,by omega,fun a b hab hb=>?_,fun a b h1 h2 h3 h4=>?_⟩
    ·by_cases hbn:b < n
     ·exact h.dn a b hab hbn
     ·have e:b=n:=by omega
      subst e
      by_cases ha:a=b
      ·subst ha;exact xZ _
      ·rw[heq];exact h.dn a (b - 1) (by omega) (by omega)
    ·have key:∀c,n+1 - (q+1+1)<=c->c < n+1->Z z p c=Z z p (n - 1):=fun c c1 c2=>by
      by_cases hcn:c < n
      ·exact h.eq c (n - 1) (by omega) hcn (by omega) (by omega)
      ·have e:c=n:=by omega
       subst e;exact heq
     rw[key a h1 h2,key b h3 h4]
structure LB(z:Nat->Int)(p₀:Array Nat)(nrem:Nat)(r:Nat×Array Nat):Prop where
 perm:r.2.Perm p₀
 size:r.2.size=p₀.size
 ge:1<=r.1
 le:r.1<=nrem
 up:Up z r.2 r.1
theorem tail3(hz:nrem<=p₀.size)(h1:1<=n)(hn:n<=nrem)(hp:p.Perm p₀)(hs:p.size=p₀.size)(hd:Dn z p n):LB z p₀ nrem (run (dw z) (kas_tail3 n nrem p)):=by
 unfold kas_tail3
 rw[gf]
 obtain⟨a,b,c,_⟩:=Mf (nrem - n) n h1 (JA (by omega) hd)
 exact⟨(l7 _ _ _).trans hp,by show (kas_rev p 0 n).size=_;rw[lL,hs],by show 1<=run _ (kas_asc _ _ _);omega,by show run _ (kas_asc _ _ _)<=nrem;omega,c⟩
theorem descPart(hz:nrem<=p₀.size)(h1:1<=n)(hn:n < nrem)(hp:p.Perm p₀)(hs:p.size=p₀.size)(hd:Dn z p n)(hlt:Z z p n<=Z z p (n - 1)):LB z p₀ nrem (run (dw z) (kas_descPart n nrem p)):=by
 unfold kas_descPart
 rw[gf]
 have D:=Fk (z:=z) hz (nrem - (n+1)) p (n+1) 0 (by omega) ⟨hp,hs,by omega,by omega,fun a b hab hb=>by
  by_cases hbn:b < n
  ·exact hd a b hab hbn
  ·have e:b=n:=by omega
   subst e
   by_cases ha:a=b
   ·subst ha;exact xZ _
   ·exact jT hlt (hd a (b - 1) (by omega) (by omega)),fun a b h1 h2 h3 h4=>by rw[show a=b by omega]⟩
 dsimp only at D
 generalize run (dw z) (kas_desc (nrem - (n+1)) p (n+1) 0)=r at D
 have hq:=D.qn
 split
 ·exact tail3 hz (by omega) D.le ((l7 _ _ _).trans D.perm) (by rw[lL,D.size]) (C3 (wz (by have:=D.size;have:=D.le;omega) D.eq) D.dn)
 ·exact tail3 hz (by omega) D.le D.perm D.size D.dn
theorem count(hz:nrem<=p.size)(h1:1<=nrem):LB z p nrem (run (dw z) (kas_count nrem p)):=by
 unfold kas_count
 rw[gf]
 obtain⟨a,b,c,d⟩:=Mf (z:=z) (p:=p) (nrem - 1) 1 (yM _) (fun x y hxy hy=>by rw[show x=y by omega];exact xZ _)
 generalize run (dw z) (kas_asc p (nrem - 1) 1)=n at a b c d
 split
 ·exact⟨Array.Perm.refl _,rfl,a,by show n<=nrem;omega,c⟩
 ·rename_i hne
  have hlt:n < nrem:=by
   have:n≠nrem:=fun e=>hne (by simp[e])
   omega
  have hd:=d (by omega)
  split
  ·rename_i hn1
   show LB z p nrem (run (dw z) (if dw z (p.getD 0 0) (p.getD (n - 1) 0)=true then .ret (n,p) else kas_descPart n nrem (kas_rev p 0 n)))
   by_cases hc:dw z (p.getD 0 0) (p.getD (n - 1) 0)=true
   ·rw[yL hc]
    exact⟨Array.Perm.refl _,rfl,a,by show n<=nrem;omega,c⟩
   ·rw[yN hc]
    have hge:Z z p (n - 1)<=Z z p 0:=by
     have:¬ (Z z p 0 < Z z p (n - 1)):=fun q=>hc (yA q)
     omega
    have all:∀x,x < n->Z z p x=Z z p 0:=fun x hx=>by
     have e1:=c 0 x (xV _) hx
     have e2:=c x (n - 1) (by omega) (by omega)
     omega
    have same:=wz (z:=z) (p:=p) (i:=0) (j:=n) (by omega) fun x y _ hx _ hy=>by rw[all x hx,all y hy]
    refine descPart hz (by omega) hlt (l7 _ _ _) (by rw[lL]) (fun x y hxy hy=>?_) ?_
    ·rw[same,same,all x (by omega),all y hy];exact xZ _
    ·rw[same,same];omega
  ·exact descPart hz (by omega) hlt (Array.Perm.refl _) rfl (fun x y hxy hy=>by rw[show x=y by omega];exact xZ _) (by omega)
theorem place(hu:Up z p k):∀ (f l r:Nat),r - l<=f->l<=r->r<=k->(∀a,a < l->Z z p a<=Z z p k)->(∀a,r<=a->a < k->Z z p k<=Z z p a) ->
  let m:=run (dw z) (kas_place p k f l r);m<=k/\(∀a,a < m->Z z p a<=Z z p k)/\(∀a,m<=a->a < k->Z z p k<=Z z p a)
 | 0,l,r,hf,hl,hr,h1,h2=>by
  intro m
  have e:l=r:=by omega
  subst e
  exact⟨hr,h1,h2⟩
 | f+1,l,r,hf,hl,hr,h1,h2=>by
  intro m
  have hm:m=run (dw z) (if l >= r then .ret l else .ask (p.getD k 0) (p.getD ((l+r) / 2) 0) fun c=>if c=true then kas_place p k f l ((l+r) / 2) else kas_place p k f ((l+r) / 2+1) r):=rfl
  by_cases hlr:l >= r
  ·rw[yL hlr] at hm
   rw[hm]
   have e:l=r:=by omega
   subst e
   exact⟨hr,h1,h2⟩
  ·rw[yN hlr] at hm
   have hm':m=run (dw z) (if dw z (p.getD k 0) (p.getD ((l+r) / 2) 0)=true then kas_place p k f l ((l+r) / 2) else kas_place p k f ((l+r) / 2+1) r):=hm
   by_cases hc:dw z (p.getD k 0) (p.getD ((l+r) / 2) 0)=true
   ·rw[yL hc] at hm'
    rw[hm']
    have hlt:Z z p k < Z z p ((l+r) / 2):=yQ hc
    exact place hu f l ((l+r) / 2) (by omega) (by omega) (by omega) h1 fun a ha hak=>jT (Int.le_of_lt hlt) (hu _ a ha hak)
   ·rw[yN hc] at hm'
    rw[hm']
    have hge:Z z p ((l+r) / 2)<=Z z p k:=by
     have:¬ (Z z p k < Z z p ((l+r) / 2)):=fun q=>hc (yA q)
     omega
    exact place hu f ((l+r) / 2+1) r (by omega) (by omega) hr (fun a ha=>jT (hu a ((l+r) / 2) (by omega) (by omega)) hge) h2
theorem bin:∀ (f:Nat) (p:Array Nat) (k:Nat),p.Perm p₀->p.size=p₀.size->k+f<=p₀.size->Up z p k ->
  (run (dw z) (kas_bin f p k)).Perm p₀/\(run (dw z) (kas_bin f p k)).size=p₀.size/\Up z (run (dw z) (kas_bin f p k)) (k+f)
 | 0,p,k,hp,hs,hk,hu=>⟨hp,hs,hu⟩
 | f+1,p,k,hp,hs,hk,hu=>by
  unfold kas_bin
  rw[gf]
  have P:=place hu k 0 k (by omega) (by omega) (yM _) (fun a ha=>absurd ha (vQ _)) fun a ha hak=>absurd ha (by omega)
  dsimp only at P
  generalize run (dw z) (kas_place p k k 0 k)=l at P
  obtain⟨p1,p2,p3⟩:=P
  have zb:=CM z (p:=p) (src:=k) (d:=k - l) (by omega) (by omega)
  have e:k - (k - l)=l:=by omega
  rw[e] at zb
  obtain⟨q1,q2,q3⟩:=bin f (bubble p k (k - l)) (k+1) ((bubble_perm _ _ _).trans hp) (by rw[bubble_size,hs]) (by omega) fun a b hab hb=>by
   rw[zb,zb]
   by_cases ha1:a=l
   ·rw[yL ha1]
    by_cases hb1:b=l
    ·rw[yL hb1];exact xZ _
    ·rw[yN hb1]
     rw[yL (by omega)]
     exact p3 _ (by omega) (by omega)
   ·rw[yN ha1]
    by_cases hb1:b=l
    ·rw[yL hb1,yN (by omega)]
     exact p2 a (by omega)
    ·rw[yN hb1]
     by_cases ha2:l < a/\a<=k
     ·rw[yL ha2,yL (by omega)]
      exact hu _ _ (by omega) (by omega)
     ·rw[yN ha2]
      by_cases hb2:l < b/\b<=k
      ·rw[yL hb2]
       exact hu _ _ (by omega) (by omega)
      ·rw[yN hb2]
       exact hu _ _ hab (by omega)
  exact⟨q1,q2,by rw[show k+(f+1)=k+1+f by omega];exact q3⟩
theorem eP(h1:1<=n):(run (dw z) (kas_sort n)).toList.Perm (List.range n)/\((run (dw z) (kas_sort n)).toList.map z).Pairwise (·<=·):=by
 have hsz:(List.toArray (List.range n)).size=n:=by simp
 have C:=count (z:=z) (p:=List.toArray (List.range n)) (nrem:=n) (by omega) h1
 have fin:∀p:Array Nat,p.Perm (List.toArray (List.range n))->p.size=n->Up z p n->p.toList.Perm (List.range n)/\(p.toList.map z).Pairwise (·<=·):=fun p a b c=>by
  refine⟨by have:=a.toList;simpa using this,?_⟩
  rw[List.pairwise_iff_getElem]
  intro i j hi hj hij
  have hi':i < n:=by simpa [b] using hi
  have hj':j < n:=by simpa [b] using hj
  have:=c i j (jS hij) hj'
  unfold Z at this
  have e1:p.getD i 0=p[i]:=by simp[Array.getD,b,hi']
  have e2:p.getD j 0=p[j]:=by simp[Array.getD,b,hj']
  rw[e1,e2] at this
  simpa using this
 unfold kas_sort
 rw[gf]
 generalize run (dw z) (kas_count n (List.toArray (List.range n)))=r at C
 obtain⟨k,p⟩:=r
 have hs:=C.size
 rw[hsz] at hs
 split
 ·rename_i hlt
  have hge:=C.ge
  have e:max k 1=k:=by have:1<=k:=hge;omega
  rw[e]
  obtain⟨q1,q2,q3⟩:=bin (z:=z) (n - k) p k C.perm C.size (by rw[hsz];have:k < n:=hlt;omega) C.up
  refine fin _ q1 (by rw[q2,hsz]) ?_
  rw[show k+(n - k)=n by have:k < n:=hlt;omega] at q3
  exact q3
 ·rename_i hnlt
  have hle:=C.le
  have e:k=n:=by have h3:k<=n:=hle;have h4:¬ k < n:=hnlt;omega
  subst e
  exact fin p C.perm hs C.up
end
end SP
namespace Srt
open PySem PySem.W PySem.Calls PyProof.Rows
def outV(z:Nat->Int)(vs:List Value):List Value:=if vs.length < 2 then vs else (SP.run (SP.dw z) (kas_sort vs.length)).toList.map fun i=>vs.getD i Value.none
theorem outV_len(z:Nat->Int)(vs:List Value):(outV z vs).length=vs.length:=by
 unfold outV
 split
 ·rfl
 ·rename_i h
  have:=(SP.eP (z:=z) (n:=vs.length) (by omega)).1.length_eq
  simpa using this
section
theorem list_sortG{P:PySem.Fin->Shared->Prop}(ho:s.heap.get? a=some (seqObj "list" vs.toArray n))(h64:vs.length < 64)(z:Nat->Int)(κ:SortKind)
  (hk:2<=vs.length->∀h':Heap,(∀b o,b≠a->s.heap.get? b=some o->h'.get? b=some o)->∀Q':SortKind->Shared->Prop,Q' κ { s with heap:=h' }->wpAny (model prog w) A (keyKind' vs.toArray) Q' (fun _ _=>False) { s with heap:=h' })
  (hlt:2<=vs.length->∀h':Heap,(∀b o,b≠a->s.heap.get? b=some o->h'.get? b=some o)->∀i j C,i < vs.length->j < vs.length->C (SP.dw z i j) { s with heap:=h' }->kas_ask prog w A κ vs i j C { s with heap:=h' })
  (h:∀ (h':Heap) (c:Nat),(∀b o,b≠a->s.heap.get? b=some o->h'.get? b=some o)->h'.get? a=some (seqObj "list" (outV z vs).toArray c)->P (.done (.ret .none)) { s with heap:=h' }) :
  wpAny (model prog w) A (Builtin.«list.sort» ⟨[.ref a],[]⟩) P E s:=by
 rw[list_sort_plain]
 have ha:a < s.heap.objs.size:=zY ho
 have hsl:vs.length<=sizeLine:=by rw[qU];omega
 refine zV (vL ho rfl (zV (kA ho rfl ?_ (by simpa using hsl) (xV _))))
 obtain⟨e1,ho1⟩:∃e,(s.heap.update a (Obj.mapSeq fun _=>(#[]:Array Value))).get? a=some (seqObj "list" #[] e):=⟨_,kE ho fun _=>#[]⟩
 have kp1:∀b o,b≠a->s.heap.get? b=some o->(s.heap.update a (Obj.mapSeq fun _=>(#[]:Array Value))).get? b=some o:=fun b o hb e=>(xN _ _ (jM hb)).trans e
 refine zV (seqEpoch_at ho1 rfl (zV (wpAny_newTuple ?_ (by simpa using hsl))))
 refine zV (kN (xX ?_) (xV _))
 have ho3:(((s.heap.update a (Obj.mapSeq fun _=>(#[]:Array Value))).push (seqObj "tuple" vs.toArray 0)).push (seqObj "list" #[] 0)).get? a=some (seqObj "list" #[] e1):=zU _ (zU _ ho1)
 have kp3:∀b o,b≠a->s.heap.get? b=some o->(((s.heap.update a (Obj.mapSeq fun _=>(#[]:Array Value))).push (seqObj "tuple" vs.toArray 0)).push (seqObj "list" #[] 0)).get? b=some o:=fun b o hb e=>zU _ (zU _ (kp1 b o hb e))
 show wpAny _ A _ P E { s with heap:=((s.heap.update a (Obj.mapSeq fun _=>(#[]:Array Value))).push (seqObj "tuple" vs.toArray 0)).push (seqObj "list" #[] 0) }
 generalize ((s.heap.update a (Obj.mapSeq fun _=>(#[]:Array Value))).push (seqObj "tuple" vs.toArray 0)).push (seqObj "list" #[] 0)=h3 at ho3 kp3
 clear ho1 kp1
 dsimp only
 have fin:∀st':SortSt,(arrOf st').map (·.2)=(outV z vs).toArray->failedOf st'=none ->
   wpAny (model prog w) A (do
    let sorted:=(arrOf st').map (·.2)
    let touched:=(<- seqEpoch a) != e1
    Builtin.List.listUpdate (.ref a) fun _=>sorted
    if let some e:=failedOf st' then rule "list.sort.comparison-raised";throw e
    if touched then rule "list.sort.modified";raiseError "ValueError" "list modified during sort"
    ret .none) P E { s with heap:=h3 }:=fun st' h1 h2=>by
  dsimp only
  rw[h1,h2]
  refine zV (seqEpoch_at ho3 rfl ?_)
  refine zV (kA ho3 rfl ?_ (xV _) (by show (outV z vs).toArray.size<=_;rw[zH,outV_len];omega))
  obtain⟨c,hc⟩:∃c,(h3.update a (Obj.mapSeq fun _=>(outV z vs).toArray)).get? a=some (seqObj "list" (outV z vs).toArray c):=⟨_,kE ho3 fun _=>(outV z vs).toArray⟩
  have q:=h _ c (fun b o hb e=>(xN _ _ (jM hb)).trans (kp3 b o hb e)) hc
  simp only[bne_self_eq_false,yO,qP]
  exact zW q
 by_cases h2:vs.toArray.size < 2
 ·rw[yL h2,yL h2]
  refine zV (zW ?_)
  rw[StateT.run_pure]
  refine zV (zW (fin _ ?_ rfl))
  have h2':vs.length < 2:=by simpa using h2
  unfold outV
  rw[yL h2']
  show ((vs.toArray.zip vs.toArray).map (·.2))=vs.toArray
  apply Array.toList_inj.mp
  simp only[Array.toList_map,Array.toList_zip]
  exact List.map_snd_zip (yM _)
 ·rw[yN h2,yN h2]
  have h2':2<=vs.length:=by
   have:¬ vs.length < 2:=by simpa using h2
   omega
  refine zV (xA (hk h2' h3 kp3 (fun κ' s'=>κ'=κ/\s'={ s with heap:=h3 }) ⟨rfl,rfl⟩) (fun κ' s' hs=>?_) fun _ _ x=>x.elim)
  obtain⟨rfl,rfl⟩:=hs
  refine zV (xA (kat_run (Q:=fun st' s'=>s'={ s with heap:=h3 }/\(arrOf st').map (·.2)=(outV z vs).toArray/\failedOf st'=none) (G:=fun p s'=>s'={ s with heap:=h3 }/\p=SP.run (SP.dw z) (kas_sort vs.length))
   rfl h2' h64 (fun p st' s' a1 a2 a3 a4=>⟨a4.1,?_,a3⟩) (SP.wp_run (hlt h2' h3 kp3) (kas_sort vs.length) (SP.Co (by omega)) ⟨rfl,rfl⟩)) ?_ fun _ _ e=>e)
  ·rw[kat_snds rfl a2,a4.2]
   unfold outV
   rw[yN (by omega)]
  ·rintro⟨⟨⟩,st'⟩ s' ⟨hs,h4,h5⟩
   subst hs
   exact fin st' h4 h5
def Coll(h:Heap)(l:Addr)(vs:List Value):Prop:=∃ (o:Obj) (T:String) (n:Nat),(T="list"\/T="tuple")/\h.get? l=some o/\o.cls=.type T/\o.data=.seq vs.toArray n
theorem collectC(hl:Coll s.heap l vs)
  (h:Q vs { s with heap:=(s.heap.push (seqObj "list" #[] 0)).update s.heap.objs.size (Obj.mapSeq (·++vs.toArray)) }) (hsz:vs.length<=sizeLine):wpAny (model prog w) A (collect (.ref l)) Q E s:=by
 obtain⟨o,T,n,hT,ho,hc,hd⟩:=hl
 unfold collect
 refine zV (wpAny_runValue (kF entry_proto_collect' ?_))
 show wpAny _ _ (do again (.builtin "list.__iadd__" ⟨[<- newList [],.ref l],[]⟩)) _ _ s
 refine zV (kN (zW ⟨wI _ (by decide +kernel),kF entry_list_iadd' ?_⟩))
 show wpAny _ _ (Builtin.List.listExtendWith (.ref s.heap.objs.size) (.ref l) (.ref s.heap.objs.size)) _ _ { s with heap:=s.heap.push (seqObj "list" #[] 0) }
 unfold Builtin.List.listExtendWith
 have ho':(s.heap.push (seqObj "list" #[] 0)).get? l=some o:=zU _ ho
 refine zV (wJ (T:=T) ⟨o,ho',hc⟩ ?_)
 rw[yL (by rcases hT with rfl|rfl<;>simp)]
 refine zV (vL ho' hd (zV (vL (xs:=#[]) (n:=0) (zX _ rfl) rfl ?_)))
 rw[yN (by simp)]
 refine zV (kA (xs:=#[]) (n:=0) (zX _ rfl) rfl ?_ (xV _) (by show (#[]++vs.toArray).size<=sizeLine+1;simp only[Array.size_append,zH,xK];omega))
 refine zW ?_
 refine zV (wpAny_load (kE (zX _ rfl) _) ?_)
 show wpAny _ _ (pure ((#[]:Array Value)++vs.toArray).toList) Q E _
 rw[show ((#[]:Array Value)++vs.toArray).toList=vs by simp]
 exact zW h
theorem sortedG{s:Shared}{Q:Value->Shared->Prop}(hl:Coll s.heap l vs)(h64:vs.length < 64)(z:Nat->Int)(κ:SortKind)
  (hk:2<=vs.length->∀h':Heap,(∀b o,s.heap.get? b=some o->h'.get? b=some o)->∀Q':SortKind->Shared->Prop,Q' κ { s with heap:=h' }->wpAny (model prog w) A.in1.in1 (keyKind' vs.toArray) Q' (fun _ _=>False) { s with heap:=h' })
  (hlt:2<=vs.length->∀h':Heap,(∀b o,s.heap.get? b=some o->h'.get? b=some o)->∀i j C,i < vs.length->j < vs.length->C (SP.dw z i j) { s with heap:=h' }->kas_ask prog w A.in1.in1 κ vs i j C { s with heap:=h' })
  (h:∀ (h':Heap) (D:Addr) (c:Nat),(∀b o,s.heap.get? b=some o->h'.get? b=some o)->s.heap.objs.size<=D->h'.get? D=some (seqObj "list" (outV z vs).toArray c)->Q (.ref D) { s with heap:=h' }) :
  wpAny (model prog w) A (call (.builtin "sorted") [.ref l]) Q E s:=by
 have hsl:vs.length<=sizeLine:=by rw[qU];omega
 refine Calls.call_function_entry kind_sorted plain_sorted entry_sorted (args_sorted1 _) ?_
 unfold Builtin.«sorted»
 refine zV (m:=checkCount "sorted" 1 1 _) (zW (zV (collectC hl ?_ hsl)))
 refine zV (kN ?_ (by simpa using hsl))
 have hsz:((s.heap.push (seqObj "list" #[] 0)).update s.heap.objs.size (Obj.mapSeq (·++vs.toArray))).objs.size=s.heap.objs.size+1:=by rw[Heap.size_update,size_push']
 have kp:∀b o,s.heap.get? b=some o->(((s.heap.push (seqObj "list" #[] 0)).update s.heap.objs.size (Obj.mapSeq (·++vs.toArray))).push (seqObj "list" vs.toArray 0)).get? b=some o:=fun b o e =>
  zU _ ((xN _ _ (jI (zY e))).trans (zU _ e))
 have hoD:(((s.heap.push (seqObj "list" #[] 0)).update s.heap.objs.size (Obj.mapSeq (·++vs.toArray))).push (seqObj "list" vs.toArray 0)).get? (s.heap.objs.size+1)=some (seqObj "list" vs.toArray 0):=by
  rw[<- hsz];exact zX _ rfl
 show wpAny _ _ _ _ _ { s with heap:=((s.heap.push (seqObj "list" #[] 0)).update s.heap.objs.size (Obj.mapSeq (·++vs.toArray))).push (seqObj "list" vs.toArray 0) }
 rw[hsz]
 generalize ((s.heap.push (seqObj "list" #[] 0)).update s.heap.objs.size (Obj.mapSeq (·++vs.toArray))).push (seqObj "list" vs.toArray 0)=h1 at kp hoD
 have kk:∀h':Heap,(∀b o,b≠s.heap.objs.size+1->h1.get? b=some o->h'.get? b=some o)->∀b o,s.heap.get? b=some o->h'.get? b=some o:=fun h' q b o e=>q b o (yR (jN (zY e))) (kp b o e)
 refine zV (xX (qV slot_list_sort ⟨_,hoD,rfl⟩ entry_list_sort (list_sortG hoD h64 z κ (fun a h' q=>hk a h' (kk h' q)) (fun a h' q=>hlt a h' (kk h' q)) fun h' c q e=>⟨_,rfl,?_⟩) (args_list_sort _)))
 exact zW ⟨_,rfl,h h' _ c (kk h' q) (by omega) e⟩
end
end Srt
namespace Dl
open PySem L2 PySem.Spec PyProof.Rows
section
def rG(i:Nat)(fz:List Nat)(f:Env->Option (List D)):ao->Option Out:=fun ρ=>(f (bM (hand fz 0 ρ))).bind fun us=>mT i (fun ds=>if ds.length+us.length<=sizeLine then some (ds++us) else none) (hand fz 0 ρ)
theorem A8(i:Nat)(fz:List Nat)(hN:X.N[i]?=some x)(hv:Hb X.env.scope x)(h:DF X e f)(hd:(x == ("__debug__":Str))=false:=by decide)(hcd:(x == ("__classdict__":Str))=false:=by decide)
  (hfew:((backTo cpos (starEach [e] X.env)).all (fun x=>!x.1)&&(backToKw cpos (keywordEach [] X.env)).all (fun x=>x.1.isSome)&&decide ([e].length+([]:List Keyword).length+(if ([]:List Keyword).isEmpty then 0 else 1) < 30))=true:=by rfl)
  (hline:(apos.endLine == cpos.line)=true:=by rfl) (hs:starEach [e] X.env=(false,eval e X.env)::starEach [] X.env:=by rfl) :
  DS X HF₀ H₀ (.Expr (.Call (.Attribute (.Name x px) "extend" apos) [e] [] cpos) pos) (rG i fz f) :=
 cW (nL (uO qN PySem.F.slot_list_extend PySem.F.type_list_extend A4 (oF hN hv hd hcd) (cJ h ft hs) rfl hfew hline hs rfl)) fun E σ H ⟨HF,ρ,o,S,hg,q⟩=>by
  obtain⟨us,h1,hg⟩:=bs hg
  obtain⟨ds,es,h2,h3,rfl⟩:=jm hg
  obtain⟨HF1,s1,S1⟩:=S.hand fz
  obtain⟨a,vs,e1,e2,e3,e5,e4⟩:=S1.own i ds h2
  refine⟨.ref a,e1,.inl ⟨rfl,vs,gn.of e2⟩,HF1,_,us,S1.gr.fh,S1.frz,h1,fun b ws H' HF' G hb hf h' r=>?_⟩
  have S2:=S1.grow G
  obtain⟨a',vs',f1,f2,f3,f5,f4⟩:=S2.own i ds h2
  rw[e1] at f1;cases f1
  split at h3
  ·rename_i hz
   cases h3
   exact⟨a,b,vs',ws,rfl,rfl,f2,h',by rw[f4.length,r.length];exact hz,q σ _ HF' (S2.mut h2 e1 f2 (f4.append r)) (s1.trans G.ff)⟩
  ·cases h3
def Ar(ds:List D)(k:Int)(d:D):List D:=let j:=if k < 0 then (k+(ds.length:Int)).toNat else min k.toNat ds.length;ds.take j++d::ds.drop j
def FG:V->List V->Hp->VK->Prop:=fun x vs H Q=>∃l xs k y,x=.ref l/\vs=[.int k,y]/\H l=some (.lst xs)/\xs.length < sizeLine/\-(2 ^ 62)<=k/\k < 2 ^ 62 /\
 Q .non (upd H l (.lst (xs.take (if k < 0 then (k+(xs.length:Int)).toNat else min k.toNat xs.length)++y::xs.drop (if k < 0 then (k+(xs.length:Int)).toNat else min k.toNat xs.length))))
theorem BC:LA X "list.insert" FG:=by
 intro pins s σ H x vs v us Q I rx rv h
 obtain⟨l,xs,k,y,rfl,rfl,hH,hz,k1,k2,q⟩:=h
 cases rx
 obtain⟨u1,u2,rfl,⟨t,rfl⟩,ru⟩:=L2.aF.two rv
 obtain⟨z,its,n,r,hl,e⟩:=I.lstM hH
 have hfit:¬(!Builtin.List.listFitsIndex k)=true:=by
  have:Builtin.List.listFitsIndex k=true:=by
   unfold Builtin.List.listFitsIndex
   simp only[zF,zJ]
   omega
  rw[this];simp
 refine qX F.slot_list_insert ⟨_,e,rfl⟩ F.entry_list_insert (F.args_list_insert_3 _ _ _) (AutoListH.list_insert_list_int_val_1 l its.toArray n k t u2 hfit (by rw[zH];omega)) ⟨e,?_⟩
 have hlen:its.length=xs.length:=hl.symm
 refine⟨.non,_,I.lset (its':=its.take (if k < 0 then (k+(xs.length:Int)).toNat else min k.toNat xs.length)++u2::its.drop (if k < 0 then (k+(xs.length:Int)).toNat else min k.toNat xs.length)) hH e ?_ ((r.take _).append (.cons ru (r.drop _))) ?_,rfl,q⟩
 ·dsimp only
  rw[zH,hlen]
  apply Array.toList_inj.mp
  simp
  exact kJ (by rw[qH,hlen];exact yM _)
 ·rw[zN,zL,jV,qH]
  omega
def B3(i:Nat)(fz:List Nat)(fk f:Env->Option D):ao->Option Out:=fun ρ=>(fk (bf ρ)).bind fun kd=>match kd with
 | .int k=>(jx fz f ρ).bind fun p=>mT i (fun ds=>if Bt k=true/\ds.length < sizeLine then some (Ar ds k p.1) else none) p.2
 | _=>none
theorem Bu(i:Nat)(fz:List Nat)(hN:X.N[i]?=some x)(hv:Hb X.env.scope x)(hk:DE X e fk)(h:DE X e2 f)(hd:(x == ("__debug__":Str))=false:=by decide)(hcd:(x == ("__classdict__":Str))=false:=by decide)
  (hfew:((backTo cpos (starEach [e,e2] X.env)).all (fun x=>!x.1)&&(backToKw cpos (keywordEach [] X.env)).all (fun x=>x.1.isSome)&&decide ([e,e2].length+([]:List Keyword).length+(if ([]:List Keyword).isEmpty then 0 else 1) < 30))=true:=by rfl)
  (hline:(apos.endLine == cpos.line)=true:=by rfl) (hs:starEach [e,e2] X.env=(false,eval e X.env)::starEach [e2] X.env:=by rfl) (hs2:starEach [e2] X.env=(false,eval e2 X.env)::starEach [] X.env:=by rfl) :
  DS X HF₀ H₀ (.Expr (.Call (.Attribute (.Name x px) "insert" apos) [e,e2] [] cpos) pos) (B3 i fz fk f) :=
 cW (nL (uO qN PySem.F.slot_list_insert PySem.F.type_list_insert BC (oF hN hv hd hcd) (cJ hk (cJ h ft hs2) hs) rfl hfew hline hs (by rw[hs2];rfl))) fun E σ H ⟨HF,ρ,o,S,hg,q⟩=>by
  obtain⟨kd,hkd,hg⟩:=bs hg
  cases kd<;>try cases hg
  rename_i k
  obtain⟨⟨d,ρ'⟩,h1,hg⟩:=bs hg
  obtain⟨ds,es,h2,h3,rfl⟩:=jm hg
  have hown:∃ds',ρ[i]?=some (.own ds'):=by
   obtain⟨d1,_,h1⟩:=bs h1
   split at h1
   ·cases h1;exact⟨ds,h2⟩
   ·obtain⟨d2,_,h1⟩:=ag h1
    cases h1
    rw[gx] at h2
    obtain⟨s,hs,h2⟩:=ag h2
    cases s with
    | non=>split at h2<;>cases h2
    | val _=>split at h2<;>cases h2
    | own xs=>exact⟨xs,hs⟩
  obtain⟨ds',hown⟩:=hown
  obtain⟨a,vs,e1,e2,e3,e5,e4⟩:=S.own i ds' hown
  refine⟨.ref a,e1,.inl ⟨rfl,vs,gn.of e2⟩,H,bf ρ,_,.refl _,S.all,hkd,fun vk Hk HFk Gk rk=>?_⟩
  simp only[Rep] at rk
  subst rk
  refine mJ (S.step Gk.hh) h1 fun v H' HF' s1 S' sh r=>?_
  obtain⟨a',vs',f1,f2,f3,f5,f4⟩:=S'.own i ds h2
  rw[e1] at f1;cases f1
  split at h3
  ·rename_i hz
   cases h3
   have ok:=hz.1
   unfold Bt at ok
   rw[zF] at ok
   refine⟨a,vs',k,v,rfl,rfl,f2,by rw[f4.length];exact hz.2,yQ ok.1,yQ ok.2,q σ _ HF' (S'.mut h2 e1 f2 ?_) s1⟩
   unfold Ar
   rw[f4.length]
   exact (f4.take _).append (aq.cons r (f4.drop _))
  ·cases h3
def qv:D->D->Option (List D)
 | .list xs,.list ys=>small (xs++ys)
 | _,_=>none
def CO(K:W.Frag):R2:=fun x y H Q=>∃a b xs ys,x=.ref a/\y=.ref b/\gn K H a xs/\gn K H b ys/\xs.length+ys.length<=sizeLine/\∀p,H p=none->Q (.ref p) (upd H p (.lst (xs++ys)))
theorem u4:gz X (binaryOp .Add) (CO X.K):=by
 intro pins s σ H x y v u Q I rx ry h
 obtain⟨a,b,xs,ys,rfl,rfl,ha,hb,hz,q⟩:=h
 cases rx
 cases ry
 obtain⟨its,r1,p1,_⟩:=I.list ha
 obtain⟨its2,r2,p2,_⟩:=I.list hb
 obtain⟨⟨cls,dd,data,sl⟩,ho,hc,n,hd⟩:=id p1.isList
 obtain⟨⟨cls2,dd2,data2,sl2⟩,ho2,hc2,n2,hd2⟩:=id p2.isList
 simp only at hc hd hc2 hd2
 subst hc hd hc2 hd2
 refine wL ⟨_,ho,rfl⟩ ⟨_,ho2,rfl⟩ noFill_list_add seq_list_add PySem.F.slot_list_add PySem.F.entry_list_add (PySem.F.args_list_add_2 _ _) (list_addW a b its.toArray its2.toArray n n2 dd dd2 sl sl2 (by rw[zH,zH,<- r1.length,<- r2.length];exact hz)) ⟨ho,ho2,?_⟩
 have e:its.toArray++its2.toArray=(its++its2).toArray:=by simp
 rw[e]
 exact⟨.ref s.heap.objs.size,_,I.lnew (t':=s.toks) (r1.append r2) (by rw[zN];exact hz),rfl,q _ I.fresh⟩
def MX(g:D->D->Option (List D))(f1 f2:Env->Option D):Env->Option (List D):=fun ρ=>(f1 ρ).bind fun x=>(f2 ρ).bind fun y=>g x y
theorem HU(ha:DE X a fa)(hb:DE X b fb):DF X (.BinOp a .Add b pos) (MX qv fa fb):=aX (G6 u4 ha hb) fun σ H Q ⟨HF,ρ,d,sm,eo,hf,q⟩=>by
 obtain⟨x,hx,hf⟩:=bs hf
 obtain⟨y,hy,hg⟩:=bs hf
 refine⟨HF,ρ,x,sm,eo,hx,fun v1 H1 HF1 g1 r1=>⟨HF1,ρ,y,g1.fh,eo.mono g1.ff,hy,fun v2 H2 HF2 g2 r2=>?_⟩⟩
 have r1:=r1.mono g2.ff
 cases x<;>cases y<;>simp only[qv] at hg<;>try cases hg
 rename_i xs ys
 obtain⟨rfl,hz⟩:=dF hg
 simp only[Rep] at r1 r2
 obtain⟨a,vs,rfl,ha,ra⟩:=r1
 obtain⟨b,us,rfl,hb,rb⟩:=r2
 have G:=g1.trans g2
 exact⟨a,b,vs,us,rfl,rfl,g2.fh.seq ha,g2.fh.seq hb,by rw[ra.length,rb.length,<- zN];exact hz,fun p hp=>q p _ _ HF2 (G.trans (.own G.fh hp)) (G.hh.free hp) (G.fh.free hp) aJ (ra.append rb)⟩
def boolsOf:List D->Option (List Bool)
 | []=>some []
 | .bool b::r=>(boolsOf r).map (b::·)
 | _::_=>none
theorem gS:∀ {ds:List D}{bs:List Bool},boolsOf ds=some bs->ds=bs.map PyData.bool
 | [],bs,h=>by cases h;rfl
 | d::r,bs,h=>by
  cases d<;>simp only[boolsOf] at h<;>try cases h
  obtain⟨bs',h1,rfl⟩:=ag h
  rw[gS h1]
  rfl
theorem k5{K:W.Frag}:∀ {bs:List Bool}{vs:List V},aq K H (bs.map PyData.bool) vs->vs=bs.map V.bl
 | [],vs,h=>h.nil_inv
 | b::bs,vs,h=>by
  obtain⟨v,r,rfl,a,c⟩:=h.cons_inv
  simp only[Rep] at a
  rw[a,k5 c]
  rfl
theorem j9:∀ {bs:List Bool}{us:List Value},aF (bs.map V.bl) us->us=bs.map Value.bool
 | [],us,h=>by cases h;rfl
 | b::bs,us,h=>by
  cases h with
  | cons r rr=>cases r;rw[j9 rr];rfl
theorem range_all(bs:List Bool):(List.range bs.length).all (fun i=>bs.getD i false)=bs.all id:=by
 induction bs with
 | nil=>rfl
 | cons b bs ih=>rw[zL,vN,xS,List.all_map,xS];simpa [wU] using jC (b&&·) ih
theorem range_any(bs:List Bool):(List.range bs.length).any (fun i=>bs.getD i false)=bs.any id:=by
 induction bs with
 | nil=>rfl
 | cons b bs ih=>rw[zL,vN,vE,wN,vE];simpa [wU] using jC (b||·) ih
theorem ya(hc:X.calm=true):du X (.builtin "all") (fun xs H Q=>∃ (a:Addr) (bs:List Bool),xs=[.ref a]/\gn X.K H a (bs.map V.bl)/\Q (.bl (bs.all id)) H):=by
 intro pins s σ H xs us Q I r h
 obtain⟨a,bs,rfl,hq,q⟩:=h
 obtain⟨u,rfl,rx⟩:=vals1 r
 cases rx
 obtain⟨its,rv,pl,hz⟩:=I.list hq
 have hv:=j9 rv
 subst hv
 have hh:X.A.in1.handled=none:=I.ok.hd hc
 refine call_all_walk (qK pl.isList ?_)
 obtain⟨o,ho,hcl,n,hd⟩:=pl.isList
 have hne:a≠s.heap.objs.size:=yR (zY ho)
 refine⟨_,_,_,_,_,_,fun i=>bs.getD i false,rfl,Walks.list hh s.heap.objs.size a hne (bs.map Value.bool).toArray,⟨⟨_,zX _ rfl,rfl,rfl⟩,pl.isList.push _⟩,fun i v s' Q' E' hP hQ=>?_,fun h' tk kp=>?_⟩
 ·have e:v=Value.bool (bs.getD i false):=by
   have hP:(bs.map Value.bool).toArray[i]?=some v:=hP
   rw[vW,zO] at hP
   obtain⟨b,hb,rfl⟩:=ag hP
   rw[zG,hb]
   rfl
  subst e
  exact xW hQ
 ·refine⟨.bl (bs.all id),H,?_,?_,q⟩
  ·exact I.kept (t':=tk) fun b o' e=>kp b o' (by simp;exact yR (zY e)) (zU _ e)
  ·show Value.bool _=Value.bool _
   have:=range_all bs
   simp only[zH,zD]
   rw[this]
def ju:List D->Option D:=fun ds=>(oneOf ds).bind fun d=>match d with
 | .list es=>(boolsOf es).map fun bs=>.bool (bs.all id)
 | _=>none
theorem Jw(hc:X.calm=true)(B:nR X "all" (.builtin "all"))(ha:DA X [e] fs)(he:starEach [e] X.env=(false,eval e X.env)::starEach [] X.env:=by rfl):DE X (.Call (.Name "all" p) [e] [] pos) (ba ju fs) :=
 gE (ya hc) (by
  intro HF H ds vs d Q sm r hg q
  obtain⟨x,hx,hg⟩:=bs hg
  rw[fI hx] at r
  cases x<;>try cases hg
  obtain⟨bs,hb,rfl⟩:=ag hg
  obtain⟨v,r',rfl,a,b⟩:=r.cons_inv
  rw[b.nil_inv]
  simp only[Rep] at a
  obtain⟨p,us,rfl,h,rr⟩:=a
  rw[gS hb] at rr
  have:=k5 rr
  subst this
  exact⟨p,bs,rfl,sm.seq h,q _ H HF (.refl sm) (by simp[Rep])⟩) B ha (by decide) (by decide) he rfl
end
abbrev lexLt:=HT.lexLt
theorem fw:∀a:List Int,lexLt a a=false
 | []=>rfl
 | x::a=>by show HT.lexLt (x::a) (x::a)=false;rw[HT.cA,yL rfl];exact fw a
theorem dG:∀ {a b c:List Int},lexLt a b=true->lexLt b c=true->lexLt a c=true
 | [],[],_,h,_=>by cases h
 | [],_::_,[],_,h=>by cases h
 | [],_::_,_::_,_,_=>rfl
 | _::_,[],_,h,_=>by cases h
 | _::_,_::_,[],_,h=>by cases h
 | x::a,y::b,z::c,h1,h2=>by
  have h1:HT.lexLt (x::a) (y::b)=true:=h1
  have h2:HT.lexLt (y::b) (z::c)=true:=h2
  show HT.lexLt (x::a) (z::c)=true
  rw[HT.cA] at h1 h2 ⊢
  by_cases e1:x=y
  ·rw[yL e1] at h1
   by_cases e2:y=z
   ·rw[yL e2] at h2
    rw[yL (e1.trans e2)]
    exact dG h1 h2
   ·rw[yN e2] at h2
    rw[yN (by omega)]
    have:=yQ h2
    exact yA (by omega)
  ·rw[yN e1] at h1
   have q1:=yQ h1
   by_cases e2:y=z
   ·rw[yN (by omega)]
    exact yA (by omega)
   ·rw[yN e2] at h2
    have q2:=yQ h2
    rw[yN (by omega)]
    exact yA (by omega)
theorem gm:∀ {a b:List Int},lexLt a b=false->lexLt b a=false->a=b
 | [],[],_,_=>rfl
 | [],_::_,h,_=>by cases h
 | _::_,[],_,h=>by cases h
 | x::a,y::b,h1,h2=>by
  have h1:HT.lexLt (x::a) (y::b)=false:=h1
  have h2:HT.lexLt (y::b) (x::a)=false:=h2
  rw[HT.cA] at h1 h2
  by_cases e:x=y
  ·rw[yL e] at h1
   rw[yL e.symm] at h2
   rw[e,gm h1 h2]
  ·rw[yN e] at h1
   rw[yN (fun z=>e z.symm)] at h2
   have:=wF h1
   have:=wF h2
   omega
def lexLe(a b:List Int):Bool:=!lexLt b a
theorem uY(a b c:List Int)(h1:lexLe a b=true)(h2:lexLe b c=true):lexLe a c=true:=by
 unfold lexLe at *
 rw[yP] at *
 cases e:lexLt c a with
 | false=>rfl
 | true =>
  cases e1:lexLt a b with
  | true=>rw[dG e e1] at h2;cases h2
  | false =>
   have:=gm e1 h1
   subst this
   rw[e] at h2;cases h2
theorem uZ(a b:List Int):(lexLe a b||lexLe b a)=true:=by
 unfold lexLe
 cases e1:lexLt b a with
 | false=>rfl
 | true =>
  cases e2:lexLt a b with
  | false=>rfl
  | true=>have:=dG e1 e2;rw[fw] at this;cases this
theorem oV(h1:lexLe a b=true)(h2:lexLe b a=true):a=b:=by
 unfold lexLe at *
 rw[yP] at *
 exact gm h2 h1
theorem pM{α:Type}{le:α->α->Bool}(anti:∀a b,le a b=true->le b a=true->a=b):∀ {l m:List α},l.Perm m->l.Pairwise (fun a b=>le a b=true)->m.Pairwise (fun a b=>le a b=true)->l=m
 | [],m,p,_,_=>p.nil_eq
 | a::l,[],p,_,_=>by have:=p.length_eq;simp at this
 | a::l,b::m,p,h1,h2=>by
  obtain⟨h1a,h1b⟩:=List.pairwise_cons.mp h1
  obtain⟨h2a,h2b⟩:=List.pairwise_cons.mp h2
  have e:a=b:=by
   have ha:a∈b::m:=p.mem_iff.mp zE
   have hb:b∈a::l:=p.mem_iff.mpr zE
   rcases List.mem_cons.mp ha with e|ha
   ·exact e
   ·rcases List.mem_cons.mp hb with e|hb
    ·exact e.symm
    ·exact anti a b (h1a b hb) (h2a a ha)
  subst e
  rw[pM anti (List.perm_cons a |>.mp p) h1b h2b]
def pj(l:List (List Int)):List (List Int):=l.mergeSort lexLe
theorem Dh(l:List (List Int)):(pj l).Perm l:=List.mergeSort_perm l lexLe
theorem HY(l:List (List Int)):(pj l).Pairwise (fun a b=>lexLe a b=true):=List.pairwise_mergeSort uY uZ l
theorem Dw{l:List (List Int)}(p:l.Perm m)(h:l.Pairwise (fun a b=>lexLe a b=true)):l=pj m:=pM (fun _ _=>oV) (p.trans (Dh m).symm) h (HY m)
def rk(l:List (List Int))(a:List Int):Int:=((l.countP fun b=>lexLt b a:Nat):Int)
theorem Hn(ha:a∈l):lexLt a b=decide (rk l a < rk l b):=by
 unfold rk
 have mono:∀ {a b:List Int},lexLt a b=true->(l.countP fun c=>lexLt c a)<=l.countP fun c=>lexLt c b:=fun {a b} h=>List.countP_mono_left fun c _ hc=>dG hc h
 have strict:∀ {a b:List Int}(ha:a∈l),lexLt a b=true->(l.countP fun c=>lexLt c a) < l.countP fun c=>lexLt c b:=fun {a b} ha h=>by
  have key:∀m:List (List Int),a∈m->(m.countP fun c=>lexLt c a) < m.countP fun c=>lexLt c b:=fun m hm=>by
   induction m with
   | nil=>cases hm
   | cons x m ih =>
    rw[List.countP_cons,List.countP_cons]
    have mo:(m.countP fun c=>lexLt c a)<=m.countP fun c=>lexLt c b:=List.countP_mono_left fun c _ hc=>dG hc h
    rcases List.mem_cons.mp hm with e|hm
    ·subst e
     rw[fw,h]
     simp only[yO,qP,xH]
     omega
    ·have:=ih hm
     by_cases hx:lexLt x a=true
     ·rw[hx,dG hx h];simp only[xH];omega
     ·have hx':lexLt x a=false:=by simpa using hx
      rw[hx']
      simp only[yO,qP]
      split<;>omega
  exact key l ha
 cases e:lexLt a b with
 | true=>exact (yA (by have:=strict ha e;omega)).symm
 | false =>
  refine (zZ ?_).symm
  cases e2:lexLt b a with
  | true=>have:=mono e2;omega
  | false=>rw[gm e e2];omega
section
variable {prog:Program}{w:World}{A:Around}{E:Value->Shared->Prop}{s:Shared}
theorem ur:∀ {us ws:List Value}{ns ms:List Int}(i:Nat),IntsAre us ns->IntsAre ws ms->Q (lexLt ns ms) s->W.KatLex prog w A true (decide (ns.length < ms.length)) Q (us.zip ws) i s
 | [],[],_,_,i,.nil,.nil,h=>h
 | [],_::_,_,_,i,.nil,.cons _ _ _,h=>by
  show Q (decide (0 < _+1)) s
  rw[yA (Nat.succ_pos _)]
  exact h
 | _::_,[],_,_,i,.cons _ _ _,.nil,h=>by
  show Q (decide (_+1 < 0)) s
  rw[zZ (vQ _)]
  exact h
 | _::us,_::ws,_,_,i,.cons n t r1,.cons m u r2,h=>by
  have h:Q (HT.lexLt (n::_) (m::_)) s:=h
  rw[HT.cA] at h
  refine W.kat_cons (SeqAt.EqAt.int_int n t m u prog w _ _ ?_)
  cases e:(n == m) with
  | true =>
   have e':n=m:=eq_of_beq e
   rw[yL e'] at h
   refine W.kat_yes ?_
   have:=ur (i+1) r1 r2 h
   simp only[zL,Nat.add_lt_add_iff_right]
   exact this
  | false =>
   have e':¬ n=m:=fun q=>by rw[q] at e;simp at e
   rw[yN e'] at h
   refine W.kat_no ?_
   by_cases hi:(true&&i == 0)=true
   ·rw[hi]
    exact oneLt_int h
   ·have hi':(true&&i == 0)=false:=by simpa using hi
    rw[hi']
    refine W.kat_one _ _ (lt_int ?_)
    exact h
end
def ae(ns:List Int):D:=.tuple (ns.map PyData.int)
def intsOf:List D->Option (List Int)
 | []=>some []
 | .int n::r=>(intsOf r).map (n::·)
 | _::_=>none
theorem cF:∀ {ds:List D}{ns:List Int},intsOf ds=some ns->ds=ns.map PyData.int
 | [],ns,h=>by cases h;rfl
 | d::r,ns,h=>by
  cases d<;>simp only[intsOf] at h<;>try cases h
  obtain⟨ns',h1,rfl⟩:=ag h
  rw[cF h1]
  rfl
theorem bT:∀ns:List Int,intsOf (ns.map PyData.int)=some ns
 | []=>rfl
 | n::ns=>by simp[intsOf,bT ns]
def zc:D->Option (List Int)|.tuple ds=>(intsOf ds).bind fun ns=>if ns=[] then none else some ns|_=>none
theorem vx(h:zc d=some ns):d=ae ns/\ns≠[]:=by
 cases d<;>try cases h
 obtain⟨ms,h1,h2⟩:=bs h
 split at h2
 ·cases h2
 ·rename_i hn
  cases h2
  rw[cF h1]
  exact⟨rfl,hn⟩
theorem Bv(h:ns≠[]):zc (ae ns)=some ns:=by
 unfold ae zc
 simp only[bT,zA]
 rw[yN h]
def rowsOf:List D->Option (List (List Int))
 | []=>some []
 | d::r=>(zc d).bind fun ns=>(rowsOf r).map (ns::·)
theorem nr:∀ {ds:List D}{nss:List (List Int)},rowsOf ds=some nss->ds=nss.map ae/\∀ns∈nss,ns≠[]
 | [],nss,h=>by cases h;exact⟨rfl,fun _ z=>by cases z⟩
 | d::r,nss,h=>by
  obtain⟨ns,h1,h⟩:=bs h
  obtain⟨rest,h2,rfl⟩:=ag h
  obtain⟨e,hn⟩:=vx h1
  obtain⟨e2,hn2⟩:=nr h2
  refine⟨by rw[e,e2];rfl,fun m hm=>?_⟩
  rcases List.mem_cons.mp hm with q|q
  ·subst q;exact hn
  ·exact hn2 m q
theorem nX:∀ {nss:List (List Int)},(∀ns∈nss,ns≠[])->rowsOf (nss.map ae)=some nss
 | [],_=>rfl
 | ns::r,h=>by
  simp only[zI,rowsOf,Bv (h ns zE),zA,nX fun m hm=>h m (zC _ hm),zB]
structure rN(h:Heap)(v:Value)(ns:List Int):Prop where
 ex:∃ (a:Addr) (o:Obj) (its:Array Value) (n:Nat),v=.ref a/\h.get? a=some o/\o.cls=.type "tuple"/\o.data=.seq its n/\IntsAre its.toList ns
theorem rN.keep(r:rN h v ns)(k:∀b o,h.get? b=some o->h'.get? b=some o):rN h' v ns:=let ⟨a,o,its,n,e,e1,e2,e3,e4⟩:=r.ex;⟨a,o,its,n,e,k _ _ e1,e2,e3,e4⟩
section
theorem uV:∀ {vs:List Value}{nss:List (List Int)},Paired (rN h) vs nss->(∀ns∈nss,ns≠[])->∃fs:List Value,W.KatTups h vs fs/\fs.length=vs.length/\∀f∈fs,∃n t,f=Value.int n t
 | _,_,.nil,_=>⟨[],trivial,rfl,fun _ z=>by cases z⟩
 | _,_,.cons (a:=v) (b:=ns) r p,hn=>by
  obtain⟨fs,h1,h2,h3⟩:=uV p fun m hm=>hn m (zC _ hm)
  obtain⟨a,o,its,n,rfl,e1,e2,e3,e4⟩:=r.ex
  cases hits:its.toList with
  | nil =>
   rw[hits] at e4
   cases e4
   exact absurd rfl (hn [] zE)
  | cons f rest =>
   rw[hits] at e4
   cases e4 with
   | cons m t e5 =>
    have h0:its[0]?=some (.int m t):=by
     have:its.toList[0]?=some (Value.int m t):=by rw[hits];rfl
     simpa using this
    exact⟨.int m t::fs,W.KatTups.cons e1 e2 e3 h0 h1,by simp[h2],fun g hg=>by
     rcases List.mem_cons.mp hg with q|q
     ·exact⟨m,t,q⟩
     ·exact h3 g q⟩
theorem kr:∀ {l:List α}{m:List β}{i:Nat},Paired R l m->i < l.length->R (l.getD i d) (m.getD i d')
 | _,_,i,.nil,h=>by simp at h
 | _,_,0,.cons r _,_=>r
 | _,_,i+1,.cons _ p,h=>by simpa using kr (i:=i) (d:=d) (d':=d') p (by simpa using h)
theorem uJ(hl:Srt.Coll s.heap l vs)(hp:Paired (rN s.heap) vs nss)(hn:∀ns∈nss,ns≠[])(h64:vs.length < 64)
  (h:∀ (h':Heap) (D:Addr) (c:Nat),(∀b o,s.heap.get? b=some o->h'.get? b=some o)->s.heap.objs.size<=D->h'.get? D=some (seqObj "list" (Srt.outV (fun i=>rk nss (nss.getD i [])) vs).toArray c)->Q (.ref D) { s with heap:=h' }) :
  wpAny (model prog w) A (call (.builtin "sorted") [.ref l]) Q E s:=by
 refine Srt.sortedG hl h64 (fun i=>rk nss (nss.getD i [])) (tuples' true) (fun h2 h' kp Q' q=>?_) (fun h2 h' kp i j C hi hj q=>?_) h
 ·have hp':Paired (rN h') vs nss:=Paired.mapP hp fun _ _ r=>r.keep kp
  obtain⟨fs,t,hlen,hf⟩:=uV hp' hn
  refine W.kat_kind (s:={ s with heap:=h' }) (T:=.type "int") t (by omega) (fun v hv=>?_) (by decide) q
  obtain⟨n,t,rfl⟩:=hf v hv
  exact W.Looks.of_pure rfl
 ·have ri:=(kr (d:=Value.none) (d':=[]) hp hi).keep kp
  have rj:=(kr (d:=Value.none) (d':=[]) hp hj).keep kp
  have hlen:=hp.length
  obtain⟨a,o,its,n,ea,e1,e2,e3,e4⟩:=ri.ex
  obtain⟨b,o',its',n',eb,f1,f2,f3,f4⟩:=rj.ex
  unfold W.kas_ask
  rw[ea,eb]
  have hmem:nss.getD i []∈nss:=by
   rw[zG,zK (by omega)]
   exact qA _
  have q':C (lexLt (nss.getD i []) (nss.getD j [])) { s with heap:=h' }:=by
   rw[Hn hmem]
   exact q
  refine W.kat_lt (s:={ s with heap:=h' }) e1 e3 f1 f3 ?_
  have:=ur (prog:=prog) (w:=w) (A:=A.in1.in1) (s:={ s with heap:=h' }) 0 e4 f4 q'
  have l1:its.size=(nss.getD i []).length:=by have:=IntsAre.length e4;simpa using this
  have l2:its'.size=(nss.getD j []).length:=by have:=IntsAre.length f4;simpa using this
  rw[l1,l2]
  exact this
end
def nS(z:Nat->Int)(l:List α)(d:α):List α:=if l.length < 2 then l else (SP.run (SP.dw z) (W.kas_sort l.length)).toList.map fun i=>l.getD i d
theorem fE(l:List α)(d:α):(List.range l.length).map (fun i=>l.getD i d)=l:=by
 apply jH
 ·simp
 ·intro i h1 h2
  simp[h2]
theorem iF(z:Nat->Int)(l:List α)(d:α):(nS z l d).Perm l:=by
 unfold nS
 split
 ·exact List.Perm.refl _
 ·rename_i h
  have:=((SP.eP (z:=z) (n:=l.length) (by omega)).1).map fun i=>l.getD i d
  rw[fE] at this
  exact this
theorem Fz(nss:List (List Int)):nS (fun i=>rk nss (nss.getD i [])) nss []=pj nss:=by
 refine Dw (iF _ _ _) ?_
 unfold nS
 split
 ·rename_i h
  match nss,h with
  | [],_=>exact List.Pairwise.nil
  | [a],_=>exact vI _ _
 ·rename_i h
  obtain⟨hp,hs⟩:=SP.eP (z:=fun i=>rk nss (nss.getD i [])) (n:=nss.length) (by omega)
  rw[jE] at hs ⊢
  refine hs.imp_of_mem fun {i j} hi hj hij=>?_
  have hj':j < nss.length:=by have:=hp.mem_iff.mp hj;simpa using this
  unfold lexLe
  rw[Hn (l:=nss) (a:=nss.getD j []) (by rw[zG,zK hj'];exact qA _)]
  simp only[yP,xB]
  omega
section
theorem uH{K:W.Frag}(z:Nat->Int)(r:aq K HF ds vs):aq K HF (nS z ds .none) (nS z vs .non):=by
 unfold nS
 rw[r.length]
 split
 ·exact r
 ·rename_i h
  obtain⟨hp,_⟩:=SP.eP (z:=z) (n:=ds.length) (by omega)
  have key:∀l:List Nat,(∀i∈l,i < ds.length)->aq K HF (l.map fun i=>ds.getD i .none) (l.map fun i=>vs.getD i .non):=fun l=>by
   induction l with
   | nil=>exact fun _=>aq.nil
   | cons i l ih =>
    intro hl
    have hi:=hl i zE
    obtain⟨v,e1,e2⟩:=r.getD (zK hi)
    refine aq.cons ?_ (ih fun j hj=>hl j (zC _ hj))
    dsimp only
    rw[zG,zG,e1,zK hi]
    exact e2
  exact key _ fun i hi=>by have:=hp.mem_iff.mp hi;simpa using this
theorem n0(z:Nat->Int)(r:aF vs us):aF (nS z vs .non) (Srt.outV z us):=by
 unfold nS Srt.outV
 rw[r.length]
 split
 ·exact r
 ·rename_i h
  obtain⟨hp,_⟩:=SP.eP (z:=z) (n:=us.length) (by omega)
  have key:∀l:List Nat,(∀i∈l,i < vs.length)->aF (l.map fun i=>vs.getD i .non) (l.map fun i=>us.getD i Value.none):=fun l=>by
   induction l with
   | nil=>exact fun _=>.nil
   | cons i l ih =>
    intro hl
    have hi:=hl i zE
    obtain⟨v,e1,e2⟩:=r.get (zK hi)
    refine .cons ?_ (ih fun j hj=>hl j (zC _ hj))
    dsimp only
    rw[zG,zG,e1,zK hi]
    exact e2
  exact key _ fun i hi=>by have:=hp.mem_iff.mp hi;rw[r.length];simpa using this
theorem FV(z:Nat->Int)(nss:List (List Int)):nS z (nss.map ae) .none=(nS z nss []).map ae:=by
 unfold nS
 rw[zD]
 split
 ·rfl
 ·rename_i h
  rw[zM]
  obtain⟨hp,_⟩:=SP.eP (z:=z) (n:=nss.length) (by omega)
  refine yH fun i hi=>?_
  have hi':i < nss.length:=by have:=hp.mem_iff.mp hi;simpa using this
  simp[hi']
theorem sR(I:Inv X pins σ H s)(sm:aQ HF H):∀ {nss:List (List Int)}{vs:List V}{us:List Value},aq X.K HF (nss.map ae) vs->aF vs us->Paired (rN s.heap) us nss
 | [],_,_,h,r=>by rw[h.nil_inv] at r;cases r;exact .nil
 | ns::nss,_,_,h,r=>by
  obtain⟨v,vr,rfl,a,b⟩:=h.cons_inv
  cases r with
  | cons r rr =>
   refine .cons ?_ (sR I sm b rr)
   unfold ae at a
   simp only[Rep] at a
   obtain⟨p,ws,rfl,hs,rw'⟩:=a
   cases r
   obtain⟨its,rv,⟨o,ho,hc,n,hd⟩,_⟩:=I.tuple (aA sm hs)
   have:ws=ns.map V.int:=by
    have key:∀ {ns:List Int}{ws:List V},aq X.K HF (ns.map PyData.int) ws->ws=ns.map V.int:=fun {ns}=>by
     induction ns with
     | nil=>exact fun h=>h.nil_inv
     | cons n ns ih =>
      intro ws h
      obtain⟨v,r,rfl,a,b⟩:=h.cons_inv
      simp only[Rep] at a
      rw[a,ih b]
      rfl
    exact key rw'
   subst this
   exact⟨p,o,its.toArray,n,rfl,ho,hc,hd,intsAre_of rv⟩
theorem ml:du X (.builtin "sorted") (fun xs H Q=>∃ (HF:Hp) (a:Addr) (vs:List V) (nss:List (List Int)),xs=[.ref a]/\aQ HF H/\(gn X.K HF a vs\/gK X.K HF a vs)/\aq X.K HF (nss.map ae) vs/\(∀ns∈nss,ns≠[])/\nss.length < 64 /\
  ∀ (Dn:Addr) (us:List V),H Dn=none->aq X.K HF ((pj nss).map ae) us->Q (.ref Dn) (upd H Dn (.lst us))):=by
 intro pins s σ H xs us Q I r h
 obtain⟨HF,a,vs,nss,rfl,sm,hq,rr,hn,h64,q⟩:=h
 obtain⟨u,rfl,rx⟩:=vals1 r
 cases rx
 obtain⟨its,rv,pl,hz⟩:∃its:List Value,aF vs its/\Srt.Coll s.heap a its/\vs.length<=sizeLine:=by
  rcases hq with hq|hq
  ·obtain⟨its,rv,pl,hz⟩:=I.list (sm.seq hq)
   obtain⟨o,ho,hc,n,hd⟩:=pl.isList
   exact⟨its,rv,⟨o,"list",n,.inl rfl,ho,hc,hd⟩,hz⟩
  ·obtain⟨its,rv,pl,hz⟩:=I.tuple (aA sm hq)
   obtain⟨o,ho,hc,n,hd⟩:=(show s.heap.IsTuple a its.toArray from pl)
   exact⟨its,rv,⟨o,"tuple",n,.inr rfl,ho,hc,hd⟩,hz⟩
 have hl1:=rr.length
 rw[zD] at hl1
 refine uJ pl (sR I sm rr rv) hn (by have:=rv.length;omega) fun h' Dn c kp hD e=>?_
 have hv:=n0 (fun i=>rk nss (nss.getD i [])) rv
 have hr:=uH (fun i=>rk nss (nss.getD i [])) rr
 rw[FV,Fz] at hr
 refine⟨.ref Dn,_,I.laid (t':=s.toks) (o:=.lst (nS (fun i=>rk nss (nss.getD i [])) vs .non)) kp hD ⟨?_,_,c,hv,e⟩,rfl,q Dn _ (I.hok.fresh hD) hr⟩
 rw[(iF _ _ _).length_eq]
 exact hz
def fM:List D->Option (List D):=fun ds=>(oneOf ds).bind fun d=>match d with
 | .list es=>(rowsOf es).bind fun nss=>if nss.length < 64 then some ((pj nss).map ae) else none
 | .tuple es=>(rowsOf es).bind fun nss=>if nss.length < 64 then some ((pj nss).map ae) else none
 | _=>none
theorem BJ(B:nR X "sorted" (.builtin "sorted"))(ha:DA X [e] fs)(he:starEach [e] X.env=(false,eval e X.env)::starEach [] X.env:=by rfl):DF X (.Call (.Name "sorted" p) [e] [] pos) (pH fM fs) :=
 Eh ml (by
  intro HF H ds vs d Q sm r hg q
  obtain⟨x,hx,hg⟩:=bs hg
  rw[fI hx] at r
  have key:∀ (b:Bool) (es:List D),aq X.K HF [if b then .tuple es else .list es] vs->((rowsOf es).bind fun nss=>if nss.length < 64 then some ((pj nss).map ae) else none)=some d->(∃ (HF:Hp) (a:Addr) (us:List V) (nss:List (List Int)),vs=[.ref a]/\aQ HF H/\(gn X.K HF a us\/gK X.K HF a us)/\aq X.K HF (nss.map ae) us/\(∀ns∈nss,ns≠[])/\nss.length < 64/\∀ (Dn:Addr) (ws:List V),H Dn=none->aq X.K HF ((pj nss).map ae) ws->Q (.ref Dn) (upd H Dn (.lst ws))):=fun b es r hg=>by
   obtain⟨nss,hb,hg⟩:=bs hg
   split at hg
   ·rename_i h64
    cases hg
    obtain⟨v,r',rfl,a,e0⟩:=r.cons_inv
    rw[e0.nil_inv]
    obtain⟨e1,e2⟩:=nr hb
    obtain⟨p,us,rfl,h,rr⟩:∃p us,v=.ref p/\(gn X.K HF p us\/gK X.K HF p us)/\aq X.K HF es us:=by
     cases b
     ·simp only[yO,qP,Rep] at a
      obtain⟨p,us,rfl,h,rr⟩:=a
      exact⟨p,us,rfl,.inl h,rr⟩
     ·simp only[xH,Rep] at a
      obtain⟨p,us,rfl,h,rr⟩:=a
      exact⟨p,us,rfl,.inr h,rr⟩
    rw[e1] at rr
    exact⟨HF,p,us,nss,rfl,sm,h,rr,e2,h64,fun Dn ws hD hr=>q Dn ws _ HF (.own sm hD) hD (sm.free hD) aJ hr⟩
   ·cases hg
  cases x<;>try cases hg
  ·exact key false _ r hg
  ·exact key true _ r hg) B ha (by decide) (by decide) he rfl
end
end Dl
namespace En
open PySem PyProof.Rows
open AutoSeq1 (wpAny_loadPart')
section
theorem nextT_item(hj:s.heap.IsTupleIter j t k)(ht:s.heap.IsTuple t its)(hv:its[k]?=some v)
  (hQ:∀g,g.IsTupleIter j t (k+1)->Heap.SameBut j s.heap g->Q v { s with heap:=g }):wpAny (model prog w) A (Builtin.SmallTypes.nextOf (.ref j)) Q E s:=by
 obtain⟨oj,gj,cj,dj⟩:=id hj
 obtain⟨ot,gt,_,nt,dt⟩:=ht
 unfold Builtin.SmallTypes.nextOf
 refine zV (qC (name:=Str.ofString "__next__") hj.typeIs jQ (qV jQ hj.typeIs F.entry_tuple_iterator_next ?_ (F.args_tuple_iterator_next_1 _)))
 refine zV (m:=field (.ref j) 0) (qT gj dj (x:=.ref t) rfl ?_)
 show wpAny _ _ (if (Value.ref t == Value.none)=true then _ else _) _ _ s
 rw[yN (show ¬ ((Value.ref t == Value.none)=true) by exact yZ)]
 refine zV (m:=field (.ref j) 1) (qT gj dj (x:=.int k 0) rfl ?_)
 refine zV (m:=seqItems? (.ref t)) (kH gt dt ?_)
 simp only[yG,hv]
 refine zV (wpAny_setField gj dj (by simp) (zW ⟨v,rfl,zW (hQ _ ⟨_,Heap.get?_update_self _ gj (Obj.isFreed_of_fields (Obj.data_mapFields dj _)),(Obj.cls_mapFields ..).trans cj,?_⟩ (Heap.SameBut.update ..))⟩))
 rw[Obj.data_mapFields dj];simp[rawInt]
theorem nextT_end{Q:Value->Shared->Prop}(hh:A.handled=none)(hj:s.heap.IsTupleIter j t k)(ht:s.heap.IsTuple t its)(hv:its[k]?=none)
  (hE:∀g x,Heap.ExtBut j s.heap g->(∃o,g.get? x=some o/\o.cls=.type "StopIteration")->E (.ref x) { s with heap:=g }):wpAny (model prog w) A (Builtin.SmallTypes.nextOf (.ref j)) Q E s:=by
 obtain⟨oj,gj,cj,dj⟩:=id hj
 obtain⟨ot,gt,_,nt,dt⟩:=ht
 unfold Builtin.SmallTypes.nextOf
 refine zV (qC (name:=Str.ofString "__next__") hj.typeIs jQ (qV jQ hj.typeIs F.entry_tuple_iterator_next ?_ (F.args_tuple_iterator_next_1 _)))
 refine zV (m:=field (.ref j) 0) (qT gj dj (x:=.ref t) rfl ?_)
 show wpAny _ _ (if (Value.ref t == Value.none)=true then _ else _) _ _ s
 rw[yN (show ¬ ((Value.ref t == Value.none)=true) by exact yZ)]
 refine zV (m:=field (.ref j) 1) (qT gj dj (x:=.int k 0) rfl ?_)
 refine zV (m:=seqItems? (.ref t)) (kH gt dt ?_)
 simp only[yG,hv]
 refine zV (wD (zV (wpAny_setField gj dj (by simp) (zV (m:=newExc (.type "StopIteration") []) ?_))))
 simp only[newExc,newTuple]
 refine zV (qL (zV (m:=firstArgMember _ _) (wpAny_of_eq (a:=Value.none) (by first|rfl|(simp only[firstArgMember];rfl)) ?_)) (by size_fits))
 refine qL ?_ (by size_fits);simp only[raiseNew]
 refine zV (wpAny_handled ?_)
 first|rw[show A.in1.handled=none from hh]|rw[hh]
 exact zV (zW (wpAny_throw (hE _ _ (((Heap.SameBut.update ..).extBut.push _).push _) ⟨_,zX _ rfl,rfl⟩)))
theorem meets_enumT(t:Addr)(its:Array Value)(n:Nat)(dd:Option Addr)(sl:Array (Option Value)) :
  Meets (Builtin.«enumerate.__new__» ⟨[.type "enumerate",.ref t],[]⟩) (fun _ R s=>s.heap.get? t=some { cls:=.type "tuple",dict:=dd,data:=.seq its n,slots:=sl } /\
   R (.ok (.ret (.ref (s.heap.push { cls:=.type "tuple_iterator",data:=.fields #[.ref t,.int 0 0] }).objs.size)))
    { s with heap:=(s.heap.push { cls:=.type "tuple_iterator",data:=.fields #[.ref t,.int 0 0] }).push { cls:=.type "enumerate",data:=.fields #[.none,.bool false,.ref s.heap.objs.size,rawInt 0,.none,.none] } }) :=
 .of_wp fun prog w A R s h=>by
  obtain⟨hp,g,d,tk,os⟩:=s
  obtain⟨hl,h⟩:=h
  have hsub:=sub_enumerate
  have hL:Heap.IsTuple (Shared.heap ⟨hp,g,d,tk,os⟩) t its:=⟨_,hl,rfl,n,rfl⟩
  wp_walk using wpAny_loadPart' hl
  refine wpAny_stack_any fun st=>zW ?_
  split
  ·rename_i c _ _ _ _ _
   cases (c == Value.type "enumerate")
   ·wp_walk using wpAny_loadPart' hl,xR hL
    exact⟨_,rfl,h⟩
   ·wp_walk using wpAny_loadPart' hl,xR hL
    exact⟨_,rfl,h⟩
  ·wp_walk using wpAny_loadPart' hl,xR hL
   exact⟨_,rfl,h⟩
theorem call_enumT(ht:s.heap.IsTuple t its)
  (h:∀h',IsEnum h' (s.heap.objs.size+1) s.heap.objs.size 0 .none->h'.IsTupleIter s.heap.objs.size t 0->h'.objs.size=s.heap.objs.size+2->(∀b o,s.heap.get? b=some o->h'.get? b=some o)->Q (.ref (s.heap.objs.size+1)) { s with heap:=h' }) :
  wpAny (model prog w) A (call (.type "enumerate") [.ref t]) Q E s:=by
 obtain⟨⟨c,dct,dt,sl⟩,hl,hc,n,hd⟩:=ht
 simp only at hc hd
 subst hc hd
 refine callType_new F.called_enumerate (by decide) (F.typeCall_enumerate_1 _) (F.newCall_enumerate_1 _) (fun obj=>F.args_object_init_2 obj _) F.entry_enumerate_new (meets_enumT t its n dct sl) ⟨hl,?_⟩
 have hz:(s.heap.push { cls:=.type "tuple_iterator",data:=.fields #[.ref t,.int 0 0] }).objs.size=s.heap.objs.size+1:=by rw[xJ]
 have he:=zX (s.heap.push { cls:=.type "tuple_iterator",data:=.fields #[.ref t,.int 0 0] }) (o:={ cls:=.type "enumerate",data:=.fields #[.none,.bool false,.ref s.heap.objs.size,rawInt 0,.none,.none] }) rfl
 show _/\_
 rw[hz] at he ⊢
 refine⟨⟨_,he,rfl⟩,h _ he ⟨_,zU _ (zX _ rfl),rfl,rfl⟩ ?_ fun b o x=>zU _ (zU _ x)⟩
 show (Heap.push _ _).objs.size=_
 rw[xJ,hz]
end
end En
namespace Dl
open PySem L2 PySem.Spec PyProof.Rows
section
variable {ch:List Addr}
theorem uw(I:Inv X pins σ H s)(hch:∀b∈ch,cx X pins H b)(k:∀b o,b∉ch->s.heap.get? b=some o->h'.get? b=some o){T:Addr}{vals:List Value}{xs:List V}(hT:s.heap.objs.size<=T)(ht:n5 h' T vals.toArray)
  (rv:aF xs vals) (hz:xs.length<=sizeLine):Inv X pins σ (upd H T (.tup xs)) { s with heap:=h',toks:=t' }:=by
 have nT:H T=none:=I.hok.fresh hT
 have ne:∀b o,s.heap.get? b=some o->b≠T:=fun b o e=>yR (zP (zY e) hT)
 have ne2:∀b o,H b=some o->b≠T:=fun b o e=>aM e nT
 have nch:∀b o,H b=some o->b∉ch:=fun b o e z=>by rw[(hch b z).1] at e;cases e
 refine I.step (g':=s.gens) (d':=s.drawn) (ch:=ch) (fun b hb=>?_) (fun b o _ _ hc e _=>k b o hc e) (fun b o _ _ hc e _=>⟨o.slots,k b o hc e⟩) (fun b o _ e n=>by rw[ay (ne b o e)];exact n)
  (fun b o hc e=>⟨o,k b o hc e⟩) (fun b ys e=>by rw[ay (ne2 b _ e)];exact e) (fun b o u e=>by rw[ay (ne2 b _ e)];exact e) (.kept (fun b u ⟨q,z⟩ e=>k b u (nch b _ z) e) fun b u e _=>by rw[ay (ne2 b _ e)];exact e) (fun m hm=>?_) (fun b u e=>?_) I.bare
 ·obtain⟨f0,f1,f2,f3,f4,f5⟩:=hch b hb
  exact⟨f3,f1,f4,f5⟩
 ·obtain⟨o,es,ep,ho,r⟩:=hm
  exact⟨o,es,ep,k _ o (fun z=>(hch _ z).2.1 rfl) ho,r⟩
 ·by_cases hb:b=T
  ·subst hb
   rw[aJ] at e
   cases e
   exact⟨hz,vals,rv,ht⟩
  ·rw[ay hb] at e
   refine (I.hok b u e).stay (fun c v hc q=>k c v ?_ q) (fun _ q=>?_) fun c v q _=>?_
   ·rcases hc with z|z
    ·rw[z];exact nch b u e
    ·exact nch c _ z
   all_goals first
    | (rw[ay (ne2 _ _ q)];exact q)
    | exact q
theorem Ln(I:Inv X pins σ H s)(hf:cx X pins H b)(h:X.K.lookup a=some o):a≠b:=by
 rintro rfl
 have hb:=I.ok.mod.kin a o h
 rcases hf.2.2.2.1 with z|z
 ·exact I.ok.noex a o hb z
 ·exact absurd (zP (zY (I.ok.bs a o hb).1) z) (qE _)
theorem I0(I:Inv X pins σ H s)(hf:cx X pins H b)(h:gn X.K H a xs):a≠b:=by
 rcases h with (h|⟨o,h⟩)|⟨o,its,n,h,_⟩
 ·exact aM h hf.1
 ·exact aM h hf.1
 ·exact Ln I hf h
theorem HR(I:Inv X pins σ H s)(hf:cx X pins H b)(h:gK X.K H a xs):a≠b:=by
 rcases h with (h|⟨o,h⟩)|⟨o,its,n,h,_⟩
 ·exact aM h hf.1
 ·exact aM h hf.1
 ·exact Ln I hf h
end
def Mv(sq:Hp->List V->Prop):It:=⟨fun i H=>∃xs x,sq H xs/\xs[i]?=some x,fun i H v H'=>∃T y,v=.ref T/\H T=none/\H'=upd H T (.tup [.int (i:Nat),y])/\∀xs,sq H xs->xs[i]?=some y,fun i H=>∃xs,sq H xs/\xs.length<=i⟩
def bu(k:Nat):List D->List D
 | []=>[]
 | d::ds=>.tuple [.int (k:Nat),d]::bu (k+1) ds
theorem qu:∀ {ds:List D}{k i:Nat}{d:D},(bu k ds)[i]?=some d->∃x,ds[i]?=some x/\d=.tuple [.int ((k+i:Nat):Int),x]
 | [],k,i,d,h=>by simp[bu] at h
 | x::ds,k,0,d,h=>by simp[bu] at h;exact⟨x,rfl,h.symm⟩
 | x::ds,k,i+1,d,h=>by
  simp only[bu,yY] at h
  obtain⟨y,h1,h2⟩:=qu h
  refine⟨y,by simpa using h1,?_⟩
  rw[h2,show k+1+i=k+(i+1) by omega]
theorem jj:∀ (ds:List D) (k:Nat),(bu k ds).length=ds.length
 | [],k=>rfl
 | x::ds,k=>by simp[bu,jj ds (k+1)]
theorem AS{K:W.Frag}(h:sq HF vs)(mo:∀H H',aQ H H'->sq H vs->sq H' vs)(r:aq K HF ds vs):pO K (Mv sq) HF (bu 0 ds) where
 go:=fun i d H₁ HF₁ e s1 s2=>by
  obtain⟨x,hx,rfl⟩:=qu e
  rw[jD]
  obtain⟨v,hv,rv⟩:=r.getD hx
  have q:=mo _ _ s2 (mo _ _ s1 h)
  refine⟨⟨vs,v,q,hv⟩,fun y H₂ ⟨T,z,e1,hT,e2,hy⟩=>?_⟩
  have:=hy vs q
  rw[hv] at this
  cases this
  subst e1 e2
  exact⟨_,.new s2 hT,dE (s2.free hT) (aq.cons (by simp[Rep]) (aq.cons (rv.mono s1) aq.nil))⟩
 stop:=fun H₁ HF₁ s1 s2=>⟨vs,mo _ _ s2 (mo _ _ s1 h),by rw[jj,r.length];exact yM _⟩
def Mg(sq1 sq2:Hp->List V->Prop):It:=⟨fun i H=>∃xs ys x y,sq1 H xs/\sq2 H ys/\xs[i]?=some x/\ys[i]?=some y,
 fun i H v H'=>∃T x y,v=.ref T/\H T=none/\H'=upd H T (.tup [x,y])/\(∀xs,sq1 H xs->xs[i]?=some x)/\∀ys,sq2 H ys->ys[i]?=some y,
 fun i H=>∃xs ys,sq1 H xs/\sq2 H ys/\(xs.length<=i\/ys.length<=i)⟩
section
variable {ch:List Addr}
theorem AY(I:Inv X pins σ H s)(hch:∀b∈ch,cx X pins H b)(k:∀b o,b∉ch->s.heap.get? b=some o->h'.get? b=some o):Inv X pins σ H { s with heap:=h',toks:=t' }:=by
 have nch:∀b o,H b=some o->b∉ch:=fun b o e z=>by rw[(hch b z).1] at e;cases e
 refine I.step (g':=s.gens) (d':=s.drawn) (ch:=ch) (fun b hb=>?_) (fun b o _ _ hc e _=>k b o hc e) (fun b o _ _ hc e _=>⟨o.slots,k b o hc e⟩) (fun b o _ e n=>n)
  (fun b o hc e=>⟨o,k b o hc e⟩) (fun b ys e=>e) (fun b o u e=>e) (.kept (fun b u ⟨q,z⟩ e=>k b u (nch b _ z) e) fun b u e _=>e) (fun m hm=>?_) (fun b u e=>?_) I.bare
 ·obtain⟨f0,f1,f2,f3,f4,f5⟩:=hch b hb
  exact⟨f3,f1,f4,f5⟩
 ·obtain⟨o,es,ep,ho,r⟩:=hm
  exact⟨o,es,ep,k _ o (fun z=>(hch _ z).2.1 rfl) ho,r⟩
 ·refine (I.hok b u e).stay (fun c v hc q=>k c v ?_ q) (fun _ q=>q) fun c v q _=>q
  rcases hc with z|z
  ·rw[z];exact nch b u e
  ·exact nch c _ z
end
structure Nk(z TI TO i1 i2:Addr):Prop where
 a1:TI≠z
 a2:TO≠z
 a3:i1≠z
 a4:i2≠z
 a5:TI≠TO
 a6:TI≠i1
 a7:TI≠i2
 a8:TO≠i1
 a9:TO≠i2
 a0:i1≠i2
section
def g9:List D->List D->List D
 | x::xs,y::ys=>.tuple [x,y]::g9 xs ys
 | _,_=>[]
theorem ow:∀ {xs ys:List D}{i:Nat}{d:D},(g9 xs ys)[i]?=some d->∃x y,xs[i]?=some x/\ys[i]?=some y/\d=.tuple [x,y]
 | [],_,i,d,h=>by simp[g9] at h
 | _::_,[],i,d,h=>by simp[g9] at h
 | x::xs,y::ys,0,d,h=>by simp[g9] at h;exact⟨x,y,rfl,rfl,h.symm⟩
 | x::xs,y::ys,i+1,d,h=>by
  simp only[g9,yY] at h
  obtain⟨a,b,h1,h2,h3⟩:=ow h
  exact⟨a,b,by simpa using h1,by simpa using h2,h3⟩
theorem lY:∀ (xs ys:List D),(g9 xs ys).length=min xs.length ys.length
 | [],_=>by simp[g9]
 | _::_,[]=>by simp[g9]
 | x::xs,y::ys=>by simp[g9,lY xs ys]
theorem Cu{K:W.Frag}(h1:sq1 HF vs)(mo1:∀H H',aQ H H'->sq1 H vs->sq1 H' vs)(h2:sq2 HF us)(mo2:∀H H',aQ H H'->sq2 H us->sq2 H' us)(r1:aq K HF xs vs)(r2:aq K HF ys us) :
  pO K (Mg sq1 sq2) HF (g9 xs ys) where
 go:=fun i d H₁ HF₁ e s1 s2=>by
  obtain⟨x,y,hx,hy,rfl⟩:=ow e
  obtain⟨v,hv,rv⟩:=r1.getD hx
  obtain⟨u,hu,ru⟩:=r2.getD hy
  have q1:=mo1 _ _ s2 (mo1 _ _ s1 h1)
  have q2:=mo2 _ _ s2 (mo2 _ _ s1 h2)
  refine⟨⟨vs,us,v,u,q1,q2,hv,hu⟩,fun w H₂ ⟨T,a,b,e1,hT,e2,ha,hb⟩=>?_⟩
  have ea:=ha vs q1
  have eb:=hb us q2
  rw[hv] at ea
  rw[hu] at eb
  cases ea
  cases eb
  subst e1 e2
  exact⟨_,.new s2 hT,dE (s2.free hT) (aq.cons (rv.mono s1) (aq.cons (ru.mono s1) aq.nil))⟩
 stop:=fun H₁ HF₁ s1 s2=>⟨vs,us,mo1 _ _ s2 (mo1 _ _ s1 h1),mo2 _ _ s2 (mo2 _ _ s1 h2),by rw[lY,r1.length,r2.length];omega⟩
end
def cut(xs:List α)(lo hi:Option Int):List α:=(xs.drop (HT.cZ xs.length 0 lo)).take (HT.cZ xs.length xs.length hi - HT.cZ xs.length 0 lo)
theorem Fx(xs:List α)(lo hi:Option Int):(cut xs lo hi).length<=xs.length:=by
 unfold cut;rw[jV,qH];omega
theorem oA{K:W.Frag}(r:aq K H ds vs)(lo hi:Option Int):aq K H (cut ds lo hi) (cut vs lo hi):=by
 unfold cut;rw[r.length];exact (r.drop _).take _
section
theorem AL{vl:Value}{lo:Option Int}(ht:IsTup s.heap t its)(hs:s.heap.IsSliceOf sl vl vu .none)(pl:IsPart vl lo)(pu:IsPart vu hi)
  (hw:HT.cZ its.size 0 lo=0/\HT.cZ its.size its.size hi=its.size) (h:Q (.ref t) s):wpAny (model prog w) A (getItem (.ref t) (.ref sl)) Q E s:=by
 obtain⟨os,hos,hcs,hds⟩:=id hs
 have hTs:s.TypeIs (.ref sl) "slice":=⟨os,hos,hcs⟩
 unfold getItem
 try with_reducible refine xX ?_
 first|refine zV (zW ?_)|skip
 refine zV (wpAny_sequenceKey ht.typeIs (by decide) (zV (qC (name:=Str.ofString "__getitem__") ht.typeIs jF (qV jF ht.typeIs entry_tuple_getitem ?_ (args_tuple_getitem _ _)))))
 refine zV (m:=Builtin.Tuple.tupleItemsOf (.ref t)) (tupleItemsOf_ ht (zV (wJ hTs ?_)))
 rw[yL (by decide)]
 refine zV (HT.gF hs pl pu ?_)
 show wpAny _ _ (if (((HT.cZ its.size 0 lo:Nat):Int) == 0&&(1:Int) == 1&&(HT.cZ its.size its.size hi - HT.cZ its.size 0 lo) == its.size)=true then _ else _) _ _ s
 rw[hw.1,hw.2,yL (by simp)]
 unfold Builtin.Tuple.tupleIsExact
 refine zV (zV (wJ ht.typeIs (zW ?_)))
 rw[yL (by decide)]
 first
  | exact zV (wD (zW ⟨_,rfl,zW h⟩))
  | exact zV (wD (zV (zW (zW ⟨_,rfl,zW h⟩))))
def Ml(K:W.Frag):V->Option Int->Option Int->Hp->VK->Prop:=fun x lo hi H Q=>∃a xs,x=.ref a/\gK K H a xs/\(cut xs lo hi=xs->Q (.ref a) H)/\∀p,H p=none->Q (.ref p) (upd H p (.tup (cut xs lo hi)))
theorem JZ:Hm X (Ml X.K):=by
 intro pins s σ H x v vl vu lo hi sl Q I rx hs pl pu h
 obtain⟨a,xs,rfl,hx,q1,q2⟩:=h
 by_cases hw:HT.cZ xs.length 0 lo=0/\HT.cZ xs.length xs.length hi=xs.length
 ·cases rx
  obtain⟨its,r,ht,hz⟩:=I.tuple hx
  have hlen:its.toArray.size=xs.length:=by rw[zH];exact r.length.symm
  refine⟨"tuple",_,PyProof.Rows.slot_tuple_getitem.lookup,ht.typeIs,AL ht hs pl pu (by rw[hlen];exact hw) ⟨.ref a,H,I,rfl,q1 ?_⟩⟩
  unfold cut
  rw[hw.1,hw.2,List.drop_zero,Nat.sub_zero,List.take_length]
 ·exact IP pins s σ H (.ref a) v vl vu lo hi sl Q I rx hs pl pu ⟨a,xs,rfl,hx,hw,q2⟩
def Mj(K:W.Frag):V->Option Int->Option Int->Hp->VK->Prop:=fun x lo hi H Q=>∃a xs,x=.ref a/\gn K H a xs/\∀p,H p=none->Q (.ref p) (upd H p (.lst (cut xs lo hi)))
theorem vj(lo hi:Option Int)(n:Nat):sliceBounds lo hi none n=(((HT.cZ n 0 lo:Nat):Int),((HT.cZ n n hi:Nat):Int),1):=by
 have h1:(1:Int) > 0:=by omega
 refine Prod.ext ?_ (Prod.ext ?_ rfl)
 ·cases lo with
  | none=>simp[sliceBounds,HT.cZ]
  | some x =>
   by_cases h:x < 0
   ·simp only[sliceBounds,HT.cZ,kL,h1,xH,yL h];omega
   ·simp only[sliceBounds,HT.cZ,kL,h1,xH,yN h];omega
 ·cases hi with
  | none=>simp[sliceBounds,HT.cZ]
  | some x =>
   by_cases h:x < 0
   ·simp only[sliceBounds,HT.cZ,kL,h1,xH,yL h];omega
   ·simp only[sliceBounds,HT.cZ,kL,h1,xH,yN h];omega
theorem Fb:Hm X (Mj X.K):=by
 intro pins s σ H x v vl vu lo hi sl Q I rx hs pl pu h
 obtain⟨a,xs,rfl,hx,q⟩:=h
 cases rx
 obtain⟨its,r,p,hz⟩:=I.list hx
 have hlen:=r.length
 refine⟨"list",_,slot_list_getitem.lookup,p.isList.typeIs,wpAny_getItem_list_slice p.isList hs pl pu .none (by simp) ?_ (by rw[zH];omega)⟩
 rw[W.kmk_pick_nat its.toArray (vj lo hi its.toArray.size)]
 have e:((its.toArray.toList.drop (HT.cZ its.toArray.size 0 lo)).take (HT.cZ its.toArray.size its.toArray.size hi - HT.cZ its.toArray.size 0 lo))=cut its lo hi:=by unfold cut;simp
 rw[e]
 have rc:aF (cut xs lo hi) (cut its lo hi):=by unfold cut;rw[hlen];exact (r.drop _).take _
 exact⟨.ref s.heap.objs.size,_,I.lnew (t':=s.toks) rc (yD (Fx xs lo hi) hz),rfl,q _ I.fresh⟩
def Nt(K:W.Frag)(f:Env->Option (Option Int)):TO:=fun σ H Q=>∃HF ρ o,aQ HF H/\cE K HF ρ σ/\f ρ=some o/\∀H' HF',cw HF H HF' H'->Q o H'
def DO(X:Cx)(e:Option Expr)(f:Env->Option (Option Int)):Prop:=PO X e (Nt X.K f)
def mz:Env->Option (Option Int):=fun _=>some none
def gI:D->Option Int|.int i=>some i|_=>none
def A7(f:Env->Option D):Env->Option (Option Int):=fun ρ=>(f ρ).bind fun d=>(gI d).map some
theorem FY:DO X none mz:=fun pins s σ H Q I ⟨HF,ρ,o,sm,eo,hf,q⟩=>FO pins s σ H Q I (by cases hf;exact q H HF (.refl sm))
theorem E5(h:DE X e f):DO X (some e) (A7 f):=fun pins s σ H Q I ⟨HF,ρ,o,sm,eo,hf,q⟩=>F8 h pins s σ H Q I (by
 obtain⟨d,hd,hf⟩:=bs hf
 obtain⟨i,hi,rfl⟩:=ag hf
 cases d<;>try cases hi
 exact⟨HF,ρ,_,sm,eo,hd,fun v H1 HF1 g1 r1=>⟨_,by simpa only[Rep] using r1,q H1 HF1 g1⟩⟩)
variable {lo hi:Option Expr}{fl fh:Env->Option (Option Int)}
def mH(g:D->Option Int->Option Int->Option β)(fa:Env->Option D)(fl fh:Env->Option (Option Int)):Env->Option β:=fun ρ=>(fa ρ).bind fun x=>(fl ρ).bind fun l=>(fh ρ).bind fun h=>g x l h
end
section
def f1(g:D->Option D)(f:Env->Option D):Env->Option D:=fun ρ=>(f ρ).bind g
end
end Dl
namespace HT
open PySem PyProof.Rows
section
open PySem.SeqAt
open PySem.AutoSeq1 (wpAny_loadPart')
open PySem.MeetsSeq PySem.MeetsSeq2 PySem.MeetsSeq3
end
end HT
namespace Dl
open PySem L2 PySem.Spec PyProof.Rows
section
def ij:D->Option (List Int)|.tuple ds=>intsOf ds|_=>none
theorem gR(h:ij x=some ns):x=.tuple (ns.map PyData.int):=by
 cases x<;>try cases h
 rename_i xs
 have h:intsOf xs=some ns:=h
 rw[cF h]
theorem zu(I:Inv X pins σ H s)(sm:aQ HF H)(r:Rep X.K HF (.tuple (ns.map PyData.int)) v)(rv:RelV v u):∃a its,u=.ref a/\IsTup s.heap a its/\IntsAre its.toList ns:=by
 have p:rN s.heap u ns:=by
  cases sR (X:=X) (us:=[u]) (vs:=[v]) (nss:=[ns]) I sm (aq.cons r aq.nil) (.cons rv .nil) with
  | cons p _=>exact p
 obtain⟨a,o,its,n,rfl,e1,e2,e3,e4⟩:=p.ex
 exact⟨a,its,rfl,⟨o,e1,e2,n,e3⟩,e4⟩
def HK:D->D->Option Bool:=fun x y=>(ij x).bind fun ns=>(ij y).map fun ms=>lexLt ns ms
theorem sv(hu:X.A.units < cLine):gz X (compareOp .Lt) (K6 X.K HK):=by
 intro pins s σ H v1 v2 u1 u2 Q I rx ry h
 obtain⟨HF,x,y,k,sm,r1,r2,hg,q⟩:=h
 obtain⟨ns,h1,hg⟩:=bs hg
 obtain⟨ms,h2,rfl⟩:=ag hg
 rw[gR h1] at r1
 rw[gR h2] at r2
 obtain⟨a,its,rfl,t1,i1⟩:=zu I sm r1 rx
 obtain⟨b,its2,rfl,t2,i2⟩:=zu I sm r2 ry
 exact HT.o4 t1 t2 i1 i2 hu ⟨.bl _,H,I,rfl,q⟩
end
end Dl
namespace En
open PySem PyProof.Rows
open AutoSeq1 (wpAny_loadPart')
theorem noFill_tup:fillsNumberSlot (.type "tuple") "mul"=pure false:=PySem.fillsNumberSlot_seq (id:="tuple.__mul__") (r:=some (.builtin "tuple.__rmul__")) F.slot_tuple_mul.lookup (by decide +kernel) F.slot_tuple_rmul.lookup (by decide +kernel)
theorem repeat_tup:seqRepeat? (.type "tuple")=pure (some (.builtin "tuple.__mul__")):=by
 unfold seqRepeat?
 rw[PySem.seqSlot_of (T:="tuple") (name:="__mul__") (id:="tuple.__mul__") F.slot_tuple_mul.lookup (by decide +kernel),PySem.seqSlot_of (T:="tuple") (name:="__rmul__") (id:="tuple.__rmul__") F.slot_tuple_rmul.lookup (by decide +kernel)];rfl
theorem rmul_tup(a:Int)(t:Tok)(l:Addr)(its:Array Value)(n:Nat)(dd:Option Addr)(sl:Array (Option Value)) :
  Meets (Builtin.«int.__rmul__» ⟨[.int a t,.ref l],[]⟩) (fun _ R s=>s.heap.get? l=some { cls:=.type "tuple",dict:=dd,data:=.seq its n,slots:=sl }/\R (.ok (.ret Value.notImplemented)) s) :=
 .of_wp fun prog w A R s h=>by
  obtain⟨hp,g,d,tk,os⟩:=s;obtain⟨hl,h⟩:=h
  wp_walk
  exact⟨_,rfl,h⟩
theorem mulT_same(l:Addr)(its:Array Value)(n:Nat)(dd:Option Addr)(sl:Array (Option Value))(k:Int)(t:Tok)(h1:¬ (decide (k < -(2 ^ 63))||decide (k >= 2 ^ 63))=true)(h2:(its.isEmpty||k == 1)=true) :
  Meets (Builtin.«tuple.__mul__» ⟨[.ref l,.int k t],[]⟩) (fun _ R s=>s.heap.get? l=some { cls:=.type "tuple",dict:=dd,data:=.seq its n,slots:=sl }/\R (.ok (.ret (.ref l))) s) :=
 .of_wp fun prog w A R s h=>by
  obtain⟨hp,g,d,tk,os⟩:=s;obtain⟨hl,h⟩:=h
  have f1:=AutoSeq1.idx_int
  wp_walk using wpAny_loadPart' hl
  rw[yN h1]
  wp_walk using wpAny_loadPart' hl
  exact⟨_,rfl,h⟩
theorem mulT_none(l:Addr)(its:Array Value)(n:Nat)(dd:Option Addr)(sl:Array (Option Value))(k:Int)(t:Tok)(h1:¬ (decide (k < -(2 ^ 63))||decide (k >= 2 ^ 63))=true)(h2:¬ (its.isEmpty||k == 1)=true)(h3:(decide (k<=0)||its.isEmpty)=true) :
  Meets (Builtin.«tuple.__mul__» ⟨[.ref l,.int k t],[]⟩) (fun _ R s=>s.heap.get? l=some { cls:=.type "tuple",dict:=dd,data:=.seq its n,slots:=sl }/\R (.ok (.ret (.ref s.heap.objs.size))) { s with heap:=s.heap.push { cls:=.type "tuple",data:=.seq #[] } }) :=
 .of_wp fun prog w A R s h=>by
  obtain⟨hp,g,d,tk,os⟩:=s;obtain⟨hl,h⟩:=h
  have f1:=AutoSeq1.idx_int
  wp_walk using wpAny_loadPart' hl
  rw[yN h1]
  wp_walk using wpAny_loadPart' hl
  exact⟨_,rfl,h⟩
theorem mulT_many(l:Addr)(its:Array Value)(n:Nat)(dd:Option Addr)(sl:Array (Option Value))(k:Int)(t:Tok)(h1:¬ (decide (k < -(2 ^ 63))||decide (k >= 2 ^ 63))=true)(h2:¬ (its.isEmpty||k == 1)=true)(h3:¬ (decide (k<=0)||its.isEmpty)=true)
  (h4:¬ ((its.size:Nat):Int) * k > (2 ^ 63 - 1) / 8) (h5:¬ Builtin.Tuple.tupleTooMany (((its.size:Nat):Int) * k)=true) (hz:((List.replicate k.toNat its).foldl (·++·) #[]).size<=sizeLine) :
  Meets (Builtin.«tuple.__mul__» ⟨[.ref l,.int k t],[]⟩) (fun _ R s=>s.heap.get? l=some { cls:=.type "tuple",dict:=dd,data:=.seq its n,slots:=sl }/\R (.ok (.ret (.ref s.heap.objs.size))) { s with heap:=s.heap.push { cls:=.type "tuple",data:=.seq ((List.replicate k.toNat its).foldl (·++·) #[]) } }) :=
 .of_wp fun prog w A R s h=>by
  obtain⟨hp,g,d,tk,os⟩:=s;obtain⟨hl,h⟩:=h
  have f1:=AutoSeq1.idx_int
  wp_walk using wpAny_loadPart' hl
  rw[yN h1]
  wp_walk using wpAny_loadPart' hl
  rw[yN h4]
  wp_walk using wpAny_loadPart' hl
  exact⟨_,rfl,h⟩
end En
namespace Dl
open PySem L2 PySem.Spec PyProof.Rows
section
def HC(K:W.Frag):R2:=fun x y H Q=>∃a k xs,x=.ref a/\y=.int k/\gK K H a xs/\-(2 ^ 62)<=k/\k < 2 ^ 62/\xs.length * k.toNat<=sizeLine/\((List.replicate k.toNat xs).flatten=xs->Q (.ref a) H) /\
 ∀p,H p=none->Q (.ref p) (upd H p (.tup (List.replicate k.toNat xs).flatten))
theorem GV:gz X (binaryOp .Mult) (HC X.K):=by
 intro pins s σ H x y v u Q I rx ry h
 obtain⟨a,k,xs,rfl,rfl,hq,k1,k2,hz,q1,q2⟩:=h
 cases rx
 obtain⟨t,rfl⟩:=ry
 obtain⟨its,r,pl,hzx⟩:=I.tuple hq
 have hl:=r.length
 obtain⟨⟨cls,dd,data,sl⟩,ho,hc,n,hd⟩:=id pl
 simp only at hc hd
 subst hc hd
 have b1:¬ (decide (k < -(2 ^ 63))||decide (k >= 2 ^ 63))=true:=by
  simp only[jB,zJ]
  omega
 refine wpAny_binaryOp_repeat_ref (T:="tuple") (U:="int") (by decide) ⟨_,ho,rfl⟩ (fun s'=>typeIs_int s' k t) En.noFill_tup F.fills_int_mul F.slot_int_rmul En.repeat_tup F.slot_int_index.lookup
  (qX F.slot_int_rmul (typeIs_int s k t) F.entry_int_rmul (F.args_int_rmul_2 _ _) (En.rmul_tup k t a its.toArray n dd sl) ⟨ho,rfl,⟨_,ho,rfl⟩,?_⟩)
 have hfl:∀m:Nat,List.foldl (fun x1 x2=>x1++x2) #[] (List.replicate m its.toArray)=(List.replicate m its).flatten.toArray:=fun m=>by
  have:=foldl_rep its m []
  rw[xO] at this
  exact this
 by_cases h2:(its.toArray.isEmpty||k == 1)=true
 ·refine qX F.slot_tuple_mul ⟨_,ho,rfl⟩ wV (wH _ _) (En.mulT_same a its.toArray n dd sl k t b1 h2) ⟨ho,⟨.ref a,H,I,rfl,q1 ?_⟩⟩
  rw[jB] at h2
  rcases h2 with h2|h2
  ·have:xs=[]:=by
    have e:its=[]:=by simpa using h2
    rw[e] at hl
    exact List.length_eq_zero_iff.mp hl
   rw[this]
   simp
  ·have:k=1:=eq_of_beq h2
   subst this
   simp
 ·by_cases h3:(decide (k<=0)||its.toArray.isEmpty)=true
  ·refine qX F.slot_tuple_mul ⟨_,ho,rfl⟩ wV (wH _ _) (En.mulT_none a its.toArray n dd sl k t b1 h2 h3) ⟨ho,?_⟩
   have hk0:k.toNat=0:=by
    simp only[jB,zJ] at h3 h2
    rcases h3 with h3|h3
    ·omega
    ·exact absurd (.inl h3) h2
   have q3:=q2 s.heap.objs.size I.fresh
   rw[hk0] at q3
   exact⟨.ref s.heap.objs.size,_,I.laid (t':=s.toks) (o:=.tup []) (fun b ob q=>zU _ q) (yM _) ⟨xV _,[],.nil,n5.new _ _⟩,rfl,q3⟩
  ·have hm:its.length * k.toNat<=sizeLine:=by rw[<- hl];exact hz
   have hkn:(k.toNat:Int)=k:=by
    simp only[jB,zJ,not_or] at h3
    omega
   have hmi:((its.toArray.size:Nat):Int) * k=((its.length * k.toNat:Nat):Int):=by rw[zH,Int.natCast_mul,hkn]
   have hv:=L2.aF.rep r k.toNat
   have hlen2:(List.replicate k.toNat xs).flatten.length<=sizeLine:=by rw[len_rep,Nat.mul_comm];exact hz
   have hs8:(sizeLine:Nat)<=(2 ^ 63 - 1) / 8:=by decide
   have h4:¬ ((its.toArray.size:Nat):Int) * k > (2 ^ 63 - 1) / 8:=by rw[hmi];omega
   have h5:¬ Builtin.Tuple.tupleTooMany (((its.toArray.size:Nat):Int) * k)=true:=by
    unfold Builtin.Tuple.tupleTooMany
    rw[hmi]
    simp only[zJ]
    omega
   refine qX F.slot_tuple_mul ⟨_,ho,rfl⟩ wV (wH _ _) (En.mulT_many a its.toArray n dd sl k t b1 h2 h3 h4 h5 (by rw[hfl,zH,<- hv.length];exact hlen2)) ⟨ho,?_⟩
   rw[hfl]
   exact⟨.ref s.heap.objs.size,_,I.laid (t':=s.toks) (o:=.tup (List.replicate k.toNat xs).flatten) (fun b ob q=>zU _ q) (yM _) ⟨hlen2,_,hv,n5.new _ _⟩,rfl,q2 _ I.fresh⟩
def DQ:D->D->Option D
 | .tuple ds,.int k=>if Bt k=true/\ds.length * k.toNat<=sizeLine then some (.tuple (List.replicate k.toNat ds).flatten) else none
 | _,_=>none
theorem o6{K:W.Frag}(r:aq K HF ds vs):∀k:Nat,aq K HF (List.replicate k ds).flatten (List.replicate k vs).flatten
 | 0=>aq.nil
 | k+1=>by rw[xE,xE,qM,qM];exact r.append (o6 r k)
theorem CU{K:W.Frag}:eN K (HC K) DQ:=by
 intro HF H x y v1 v2 d Q sm r1 r2 hg q
 cases x<;>cases y<;>simp only[DQ] at hg<;>try cases hg
 split at hg
 ·rename_i xs k hh
  cases hg
  simp only[Rep] at r1 r2
  obtain⟨a,vs,rfl,ha,ra⟩:=r1
  have ok:=hh.1
  unfold Bt at ok
  rw[zF] at ok
  refine⟨a,k,vs,rfl,r2,aA sm ha,yQ ok.1,yQ ok.2,by rw[ra.length];exact hh.2,fun e=>q _ H HF (.refl sm) ?_,fun p hp=>q _ _ _ (.new sm hp) (dE (sm.free hp) (o6 ra _))⟩
  simp only[Rep]
  refine⟨a,vs,rfl,ha,?_⟩
  have:=o6 ra k.toNat
  rw[e] at this
  exact this
 ·cases hg
end
end Dl
namespace En
open PySem PyProof.Rows
section
theorem call_setT(hh:A.handled=none)(hl:s.heap.IsTuple l its)(hi:IntsAre its.toList ns)(hb:its.size+1 < scanBound)
  (h:∀ (h':Heap) (tk:Nat),h'.SetOf (intKind prog w) s.heap.objs.size (fun k'=>(firstMet (fun i=>ns.getD i 0) its.size).any (· == k')) (firstMet (fun i=>ns.getD i 0) its.size).length->(∀b o,b < s.heap.objs.size->s.heap.get? b=some o->h'.get? b=some o)->Q (.ref s.heap.objs.size) { s with heap:=h',toks:=tk }) :
  wpAny (model prog w) A (call (.type "set") [.ref l]) Q E s:=by
 obtain⟨c,tl,hmro⟩:=F.called_set.mro
 have hmade:=F.called_set.made
 have hsub:=F.called_set.sub
 refine wpAny_call (codeAny_of_tree ?_);show wpAny _ _ (callAny (.type "set") _) _ _ _
 refine zW ⟨wI _ (by decide +kernel),kF F.entry_type_call ?_⟩
 rw[Around.under_plain (weight_type_call_type "set" [.ref l] []) rfl]
 have h1:=F.called_set.notType
 have h2:=F.called_set.canCreate
 have hct:=F.typeCall_set_1 (.ref l)
 repeat (any_goals (first|assumption|wp_step))
 refine jR (code_set_new_1 (.ref l) (E:=E) (Q₁:=fun obj s1=>∃led:Bool,obj=.ref s.heap.objs.size/\s1={ s with heap:=s.heap.push { cls:=.type "set",dict:=none,data:=.set #[] 0 (.fresh 0 0 led) } }) fun led=>⟨led,rfl,rfl⟩) fun r s1 hr=>?_
 cases r with
 | error e=>exact hr
 | ok fl =>
  cases fl with
  | ret obj =>
   obtain⟨led,rfl,rfl⟩:=hr
   have hS:(s.heap.push { cls:=.type "set",dict:=none,data:=.set #[] 0 (.fresh 0 0 led) }).get? s.heap.objs.size=some { cls:=.type "set",dict:=none,data:=.set #[] 0 (.fresh 0 0 led) }:=by exact zX _ rfl
   have hT:Shared.TypeIs { s with heap:=s.heap.push { cls:=.type "set",dict:=none,data:=.set #[] 0 (.fresh 0 0 led) } } (.ref s.heap.objs.size) "set":=⟨_,hS,rfl⟩
   have hli:=F.called_set.init.lookup
   have hbi:=F.called_set.init.bind (.ref s.heap.objs.size)
   repeat (any_goals (first|assumption|wp_step))
   refine jR (codeAny_call_builtin (R:=wants (fun r s2=>r=.none/\∃h' tk,s2={ s with heap:=h',toks:=tk }/\h'.SetOf (intKind prog w) s.heap.objs.size (fun k'=>(firstMet (fun i=>ns.getD i 0) its.size).any (· == k')) (firstMet (fun i=>ns.getD i 0) its.size).length /\
     (∀b o,b < s.heap.objs.size->s.heap.get? b=some o->h'.get? b=some o)) E) F.called_set.init.plain F.entry_set_init (check_set_init_1 hT ?_)) fun r2 s2 hr2=>?_
   ·obtain⟨ol,hol,hcl,nl,hdl⟩:=hl
    obtain⟨ocls,odict,odata,oslots⟩:=ol
    simp only at hcl hdl
    subst hcl hdl
    have hol':(s.heap.push { cls:=.type "set",dict:=none,data:=.set #[] 0 (.fresh 0 0 led) }).get? l=some { cls:=.type "tuple",dict:=odict,data:=.seq its nl,slots:=oslots }:=zU _ hol
    have hsls:=F.sub_tuple_set
    have hslf:=F.sub_tuple_frozenset
    have hne:(Value.type "tuple" == Value.type "dict")=false:=by decide
    have hl1:(s.heap.push { cls:=.type "set",dict:=none,data:=.set #[] 0 (.fresh 0 0 led) }).IsTuple l its:=⟨_,hol',rfl,nl,rfl⟩
    unfold Builtin.«set.__init__» noKeywords Builtin.Frozenset.updateFrom
    generalize hPI:pyIter=PI
    wp_walk
    subst hPI
    refine xR hl1 (zV (wpAny_runValue ?_))
    have hlS:l < s.heap.objs.size:=zY hol
    have hh3:A.in1.in1.in1.handled=none:=by simp[hh]
    have hneI:l≠(s.heap.push { cls:=.type "set",dict:=none,data:=.set #[] 0 (.fresh 0 0 led) }).objs.size:=by rw[xJ];exact yR (jN hlS)
    have hSf:s.heap.objs.size∉[(s.heap.push { cls:=.type "set",dict:=none,data:=.set #[] 0 (.fresh 0 0 led) }).objs.size,l]:=by
     rw[xJ];simp only[zQ,yF,xU,not_or]
     exact⟨yR (kM _),jI hlS⟩
    have hval:∀ (i:Nat) (v:Value),its[i]?=some v->∃t,v=.int ((fun i=>ns.getD i 0) i) t:=fun i v hv=>IntsAre.int_at hi i v (by rw[Array.getElem?_toList];exact hv)
    refine codeAny_set_update_loopS ((Walks.tuple hh3 _ l hneI its).toS) s.heap.objs.size hSf (fun i=>ns.getD i 0) hval hb (its.size - 0) 0 _ (by omega) (xV _) ⟨⟨_,zX _ rfl,rfl,rfl⟩,?ht⟩ ?hS0 ?hR
    case ht=>exact⟨_,zU _ hol',rfl,nl,rfl⟩
    case hS0 =>
     have hget:((s.heap.push { cls:=.type "set",dict:=none,data:=.set #[] 0 (.fresh 0 0 led) }).push { cls:=.type "tuple_iterator",data:=.fields #[.ref l,.int 0 0] }).get? s.heap.objs.size=some { cls:=.type "set",dict:=none,data:=.set #[] 0 (.fresh 0 0 led) }:=by exact zU _ hS
     exact SetOf_congr ((setObjOf_fresh (knd:=intKind prog w) led).setOf hget (by unfold scanBound;omega)) (fun _=>rfl) rfl
    case hR =>
     intro s' hm hS'
     obtain⟨h',g',d',tk',os'⟩:=s'
     have eg:g'=s.gens:=hm.gens
     have ed:d'=s.drawn:=hm.drawn
     have eo:os'=s.os:=hm.os
     subst eg ed eo
     show wpAny _ _ _ _ _ _
     refine zW ?_
     show wpAny _ _ (ret Value.none) _ _ _
     refine zW ⟨rfl,h',tk',rfl,hS',fun b o hb' e=>?_⟩
     refine hm.heap b o ?_ (zU _ (zU _ e))
     simp only[zQ,yF,xU,not_or]
     exact⟨yR hb',by rw[xJ];exact yR (jN hb')⟩
   ·cases r2 with
    | error e=>exact hr2
    | ok fl2 =>
     cases fl2 with
     | ret r =>
      obtain⟨rfl,h',tk,rfl,hS',hk'⟩:=hr2
      repeat (any_goals (first|assumption|wp_step))
      exact h _ _ hS' hk'
     | _=>exact hr2.elim
  | _=>exact hr.elim
end
end En
namespace Dl
open PySem L2 PySem.Spec PyProof.Rows
def many(ns:List Int):Nat:=(firstMet (fun i=>ns.getD i 0) ns.length).length
section
theorem BA(hc:X.calm=true):du X (.type "set") (fun xs H Q=>∃ (a:Addr) (ns:List Int),xs=[.ref a]/\gK X.K H a (ns.map V.int)/\ns.length+1 < scanBound/\∀q S,H q=none->Q (.ref q) (upd H q (.set S (many ns)))):=by
 intro pins s σ H xs us Q I r h
 obtain⟨a,ns,rfl,hq,hb,q⟩:=h
 obtain⟨u,rfl,rx⟩:=vals1 r
 cases rx
 obtain⟨its,rv,pl,hz⟩:=I.tuple hq
 have hi:IntsAre its.toArray.toList ns:=intsAre_of rv
 have hlen:its.toArray.size=ns.length:=by have:=rv.length;simpa using this.symm
 refine En.call_setT (I.ok.hd hc) (show s.heap.IsTuple a its.toArray from pl) hi (by rw[hlen];exact hb) fun h' tk hS hk=>?_
 rw[hlen] at hS
 exact⟨.ref s.heap.objs.size,_,I.laid (t':=tk) (fun b o e=>hk b o (zY e) e) (yM _) (show dv X.prog X.w _ h' _ (.set _ (many ns)) from hS),rfl,q _ _ I.fresh⟩
theorem By:du X (.builtin "len") (fun xs H Q=>∃ (a:Addr) (S:Int->Bool) (n:Nat),xs=[.ref a]/\H a=some (.set S n)/\Q (.int n) H):=by
 intro pins s σ H xs us Q I r h
 obtain⟨a,S,n,rfl,hq,q⟩:=h
 obtain⟨u,rfl,rx⟩:=vals1 r
 cases rx
 obtain⟨o,es,ep,t,ho,hex,hd,hel,hmem,hlt,hf,hn⟩:=(show s.heap.SetOf (intKind X.prog X.w) a S n from I.hok a _ hq)
 have hfit:((es.size:Nat):Int) < 2 ^ 63:=by unfold scanBound at hlt;omega
 refine call_len_set ho hex hd hf hfit ⟨.int n,H,I.tok _,⟨s.toks+1,by rw[hn]⟩,q⟩
def jo:D->Option D:=fun d=>(ij d).bind fun ns=>if ns.length+1 < scanBound then some (.int (many ns)) else none
theorem BB(hc:X.calm=true)(B:nR X "len" (.builtin "len"))(C:nR X "set" (.type "set"))(h:DE X e f)(he:starEach [e] X.env=(false,eval e X.env)::starEach [] X.env:=by rfl) :
  DE X (.Call (.Name "len" p) [.Call (.Name "set" p') [e] [] pos'] [] pos) (f1 jo f) :=
 aX (jc By B.gl B.mg B.bt (cJ (mN (BA hc) C.gl C.mg C.bt (cJ h ft he) (by decide) (by decide) he rfl) ft) (by decide) (by decide) rfl rfl) fun σ H Q ⟨HF,ρ,d,sm,eo,hf,q⟩=>by
  obtain⟨x,hx,hf⟩:=bs hf
  obtain⟨ns,h1,hf⟩:=bs hf
  split at hf
  ·rename_i hb
   cases hf
   refine⟨HF,ρ,x,sm,eo,hx,fun v1 H1 HF1 g1 r1=>?_⟩
   rw[gR h1] at r1
   simp only[Rep] at r1
   obtain⟨a,vs,rfl,hs,rr⟩:=r1
   have key:∀ {ns:List Int}{ws:List V},aq X.K HF1 (ns.map PyData.int) ws->ws=ns.map V.int:=fun {ns}=>by
    induction ns with
    | nil=>exact fun h=>h.nil_inv
    | cons n ns ih =>
     intro ws h
     obtain⟨v,r,rfl,a,b⟩:=h.cons_inv
     simp only[Rep] at a
     rw[a,ih b]
     rfl
   have:=key rr
   subst this
   refine⟨a,ns,rfl,aA g1.fh hs,hb,fun b S hb'=>⟨b,S,_,rfl,aJ,q _ _ HF1 (g1.trans (.own g1.fh hb')) (by simp[Rep])⟩⟩
  ·cases hf
end
theorem je(val:Nat->Int):∀i,(firstMet val i).length=i↔((List.range i).map val).Nodup
 | 0=>by simp[firstMet]
 | i+1=>by
  have hle:=firstMet_length_le val i
  rw[firstMet_succ,step_length,vR,jA,wR]
  have ha:=firstMet_any val i (val i)
  have ih:=je val i
  constructor
  ·intro h
   by_cases hin:(firstMet val i).any (· == val i)=true
   ·rw[yL hin] at h;omega
   ·rw[yN hin] at h
    refine⟨ih.mp (by omega),by simp,fun a hm b hb z=>?_⟩
    have hb':b=val i:=by simpa using hb
    subst z hb'
    rw[ha] at hin
    exact hin (List.any_eq_true.mpr ⟨_,hm,by simp⟩)
  ·rintro⟨h1,_,h3⟩
   rw[yN ?_]
   ·rw[ih.mpr h1]
   ·rw[ha]
    intro hin
    obtain⟨x,hx,he⟩:=List.any_eq_true.mp hin
    have he':x=val i:=by simpa using he
    exact h3 x hx (val i) (by simp) he'
theorem ye(ns:List Int):many ns=ns.length↔ns.Nodup:=by
 unfold many
 rw[je]
 have:(List.range ns.length).map (fun i=>ns.getD i 0)=ns:=fE ns 0
 rw[this]
section
theorem md{K:W.Frag}(h:eN K r g)(h':eN K r' g'):eN K (fun x y H Q=>r x y H Q\/r' x y H Q) (fun x y=>(g x y).or (g' x y)):=by
 intro HF H x y v1 v2 d Q sm r1 r2 hg q
 cases e:g x y with
 | some d' =>
  have hg:(g x y).or (g' x y)=some d:=hg
  rw[e] at hg
  cases hg
  exact .inl (h HF H x y v1 v2 d Q sm r1 r2 e q)
 | none =>
  have hg:(g x y).or (g' x y)=some d:=hg
  rw[e] at hg
  exact .inr (h' HF H x y v1 v2 d Q sm r1 r2 hg q)
theorem A5{K:W.Frag}:eN K (CO K) (fun x y=>(qv x y).map PyData.list):=by
 intro HF H x y v1 v2 d Q sm r1 r2 hg q
 obtain⟨zs,hg',rfl⟩:=ag hg
 clear hg
 cases x<;>cases y<;>simp only[qv] at hg'<;>try cases hg'
 obtain⟨rfl,hz⟩:=dF hg'
 simp only[Rep] at r1 r2
 obtain⟨a,vs,rfl,ha,ra⟩:=r1
 obtain⟨b,us,rfl,hb,rb⟩:=r2
 refine⟨a,b,vs,us,rfl,rfl,sm.seq ha,sm.seq hb,by rw[ra.length,rb.length,<- zN];exact hz,fun p hp=>q _ _ _ (.new sm hp) ?_⟩
 simp only[Rep]
 exact⟨p,_,rfl,.inl (.inl aJ),(ra.append rb).mono (da (sm.free hp))⟩
def aI:D->D->Option D:=fun x y=>((sZ (fun _ _=>True) fun i j=>.int (i+j)) x y).or ((GK x y).or ((qv x y).map PyData.list))
theorem Bk.add(C:Bk X N sc k)(ha:DE X a fa)(hb:DE X b fb):DE X (.BinOp a .Add b pos) (f2 aI fa fb):=uv (Jg.or (Bc.or u4)) (md B6 (md GH A5)) ha hb
def i4:D->D->Option D:=sZ (fun _ _=>True) fun i j=>.int (i - j)
theorem Bk.sub(C:Bk X N sc k)(ha:DE X a fa)(hb:DE X b fb):DE X (.BinOp a .Sub b pos) (f2 i4 fa fb):=uv HW B6 ha hb
def eK:D->D->Option D:=fun x y=>((sZ su fun i j=>.int (i * j)) x y).or (DQ x y)
theorem Bk.mul(C:Bk X N sc k)(ha:DE X a fa)(hb:DE X b fb):DE X (.BinOp a .Mult b pos) (f2 eK fa fb):=uv (HP.or GV) (md Di CU) ha hb
def lr:D->D->Option D:=sZ Fp fun i j=>.int (i / j)
theorem Bk.div(C:Bk X N sc k)(ha:DE X a fa)(hb:DE X b fb):DE X (.BinOp a .FloorDiv b pos) (f2 lr fa fb):=uv GO Di ha hb
def jv:D->D->Option D:=sZ (fun _ j=>0 < j) fun i j=>.int (i % j)
theorem Bk.mod(C:Bk X N sc k)(ha:DE X a fa)(hb:DE X b fb):DE X (.BinOp a .Mod b pos) (f2 jv fa fb):=uv Ih Di ha hb
def tN:D->D->Option D:=fun x y=>((sZ (fun _ _=>True) fun i j=>.bool (decide (i < j))) x y).or ((HK x y).map PyData.bool)
def AA:D->D->Option D:=sZ (fun _ _=>True) fun i j=>.bool (decide (i<=j))
def BQ:D->D->Option D:=sZ (fun _ _=>True) fun i j=>.bool (decide (j < i))
def bJ:D->D->Option D:=fun x y=>(Jm x y).map PyData.bool
def mw:D->D->Option D:=fun x y=>(Kv x y).map PyData.bool
def vo:D->D->Option D:=fun x y=>(LJ x y).map PyData.bool
theorem Bk.u64(C:Bk X N sc k):X.A.units+64 < cLine:=C.room.units
theorem Bk.u66(C:Bk X N sc k):X.A.units+66 < cLine:=by have:=C.room.un;omega
theorem Bk.lt(C:Bk X N sc k)(ha:DE X a fa)(hb:DE X b fb):DE X (.Compare a [.Lt] [b] pos) (f2 tN fa fb):=iZ (Ef.or (sv C.room.units0)) (md i6 ip) ha hb (di _)
theorem Bk.le(C:Bk X N sc k)(ha:DE X a fa)(hb:DE X b fb):DE X (.Compare a [.LtE] [b] pos) (f2 AA fa fb):=iZ BX i6 ha hb (di _)
theorem Bk.gt(C:Bk X N sc k)(ha:DE X a fa)(hb:DE X b fb):DE X (.Compare a [.Gt] [b] pos) (f2 BQ fa fb):=iZ Hl i6 ha hb (di _)
theorem Bk.eq(C:Bk X N sc k)(ha:DE X a fa)(hb:DE X b fb):DE X (.Compare a [.Eq] [b] pos) (f2 bJ fa fb):=iZ (D2 C.u64) ip ha hb (di _)
theorem Bk.ne(C:Bk X N sc k)(ha:DE X a fa)(hb:DE X b fb):DE X (.Compare a [.NotEq] [b] pos) (f2 mw fa fb):=iZ (EL C.u64) ip ha hb (di _)
theorem Bk.isin(C:Bk X N sc k)(ha:DE X a fa)(hb:DE X b fb)(hm:behindInMarks .In b=false:=by rfl):DE X (.Compare a [.In] [b] pos) (f2 vo fa fb):=iZ (C4 C.u66) ip ha hb hm
theorem Bk.tlt(C:Bk X N sc k)(ha:DE X a fa)(hb:DE X b fb):DT X (.Compare a [.Lt] [b] pos) (fB (f2 tN fa fb)):=iJ (Ef.or (sv C.room.units0)) (md i6 ip) ha hb (di _)
theorem Bk.tle(C:Bk X N sc k)(ha:DE X a fa)(hb:DE X b fb):DT X (.Compare a [.LtE] [b] pos) (fB (f2 AA fa fb)):=iJ BX i6 ha hb (di _)
theorem Bk.tgt(C:Bk X N sc k)(ha:DE X a fa)(hb:DE X b fb):DT X (.Compare a [.Gt] [b] pos) (fB (f2 BQ fa fb)):=iJ Hl i6 ha hb (di _)
theorem Bk.teq(C:Bk X N sc k)(ha:DE X a fa)(hb:DE X b fb):DT X (.Compare a [.Eq] [b] pos) (fB (f2 bJ fa fb)):=iJ (D2 C.u64) ip ha hb (di _)
theorem Bk.tne(C:Bk X N sc k)(ha:DE X a fa)(hb:DE X b fb):DT X (.Compare a [.NotEq] [b] pos) (fB (f2 mw fa fb)):=iJ (EL C.u64) ip ha hb (di _)
theorem Bk.tin(C:Bk X N sc k)(ha:DE X a fa)(hb:DE X b fb)(hm:behindInMarks .In b=false:=by rfl):DT X (.Compare a [.In] [b] pos) (fB (f2 vo fa fb)):=iJ (C4 C.u66) ip ha hb hm
def gu:D->Option Int->Option Int->Option D|.tuple ds,lo,hi=>some (.tuple (cut ds lo hi))|.list ds,lo,hi=>some (.list (cut ds lo hi))|_,_,_=>none
theorem Bk.cut(C:Bk X N sc k){lo:Option Expr}{fl:Env->Option (Option Int)}(ha:DE X a fa)(hl:DO X lo fl)(hh:DO X hi fh):DE X (.Subscript a (.Slice lo hi none p2) pos) (mH gu fa fl fh):=aX (Do (JZ.or Fb) ha hl hh) fun σ H Q ⟨HF,ρ,d,sm,eo,hf,q⟩=>by
 obtain⟨x,hx,hf⟩:=bs hf
 obtain⟨l,hl,hf⟩:=bs hf
 obtain⟨u,hu,hf⟩:=bs hf
 refine⟨HF,ρ,x,sm,eo,hx,fun v1 H1 HF1 g1 r1=>⟨HF1,ρ,l,g1.fh,eo.mono g1.ff,hl,fun H2 HF2 g2=>⟨HF2,ρ,u,g2.fh,eo.mono (g1.ff.trans g2.ff),hu,fun H3 HF3 g3=>?_⟩⟩⟩
 have G:=(g1.trans g2).trans g3
 have r3:=r1.mono (g2.ff.trans g3.ff)
 cases x<;>try cases hf
 ·simp only[Rep] at r3
  obtain⟨b,vs,rfl,hs,rr⟩:=r3
  refine .inr ⟨b,vs,rfl,G.fh.seq hs,fun p hp=>q _ _ _ (G.trans (.new G.fh hp)) ?_⟩
  simp only[Rep]
  exact⟨p,_,rfl,.inl (.inl aJ),(oA rr l u).mono (da (G.fh.free hp))⟩
 ·simp only[Rep] at r3
  obtain⟨b,vs,rfl,hs,rr⟩:=r3
  refine .inl ⟨b,vs,rfl,aA G.fh hs,fun e=>q _ H3 HF3 G ?_,fun p hp=>q _ _ _ (G.trans (.new G.fh hp)) (dE (G.fh.free hp) (oA rr l u))⟩
  simp only[Rep]
  refine⟨b,vs,rfl,hs,?_⟩
  have:=oA rr l u
  rw[e] at this
  exact this
def Kj:D->Option D|.int i=>some (.int (-i))|_=>none
theorem Bk.neg(C:Bk X N sc k)(ha:DE X a fa):DE X (.UnaryOp .USub a pos) (f1 Kj fa):=aX (Lh IL ha) fun σ H Q ⟨HF,ρ,d,sm,eo,hf,q⟩=>by
 obtain⟨x,hx,hf⟩:=bs hf
 refine⟨HF,ρ,x,sm,eo,hx,fun v1 H1 HF1 g1 r1=>?_⟩
 cases x<;>try cases hf
 exact⟨_,by simpa only[Rep] using r1,q _ H1 HF1 g1 (by simp[Rep])⟩
theorem EA:bootBuiltins "len"=some (.builtin "len"):=by decide +kernel
theorem pG:bootBuiltins "isinstance"=some (.builtin "isinstance"):=by decide +kernel
theorem ER:bootBuiltins "tuple"=some (.type "tuple"):=by decide +kernel
theorem Ek:bootBuiltins "range"=some (.type "range"):=by decide +kernel
theorem Jy:bootBuiltins "all"=some (.builtin "all"):=by decide +kernel
theorem CH:bootBuiltins "set"=some (.type "set"):=by decide +kernel
theorem mL:bootBuiltins "sorted"=some (.builtin "sorted"):=by decide +kernel
theorem sV:bootBuiltins "enumerate"=some (.type "enumerate"):=by decide +kernel
theorem Iv:bootBuiltins "zip"=some (.type "zip"):=by decide +kernel
end
abbrev cf(f:Env->Option (List D)):Env->Option D:=fun ρ=>(f ρ).map PyData.list
abbrev bx:List D->Option D:=fun ds=>(d9 ds).map PyData.tuple
section
theorem Bk.locl(C:Bk X N sc k)(h:decide (sc.names.lookup x=some .local)=true):X.env.scope.names.lookup x=some .local:=by
 rcases C.tb x _ (yQ h) with q|⟨q,_⟩
 ·exact q
 ·cases q
def isStar:Expr->Bool|.Starred ..=>true|_=>false
theorem bC{env:PySem.Env}(h:isStar e=false):starEach (e::es) env=(false,eval e env)::starEach es env:=by
 cases e<;>first|rfl|cases h
theorem Je(he:DE X e f)(hs:DA X es g)(h:isStar e=false:=by rfl):DA X (e::es) (aa f g):=zq he hs (bC h)
theorem pd{env:PySem.Env}:swapsWith (.ListComp elt gens scope pos) (some (.Name x py)) line env=pure (env.blockKind == .function&&env.kindOf x == some .local && py.line == pos.line
     &&!(scope.names.any fun (n,k)=>n == x&&(k == .local || k == .cell))):=rfl
theorem G9{env:PySem.Env}(h:env.scope.kind=.function):env.blockKind=.function:=by unfold PySem.Env.blockKind;rw[h];rfl
theorem Bk.swap(C:Bk X N sc k)(h:decide (sc.names.lookup x=some .local)=true)(h2:(py.line == pos.line&&!(scope.names.any fun (n,k)=>n == x&&(k == .local || k == .cell)))=true) :
  swapsWith (.ListComp elt gens scope pos) (some (.Name x py)) line X.env=pure true:=by
 rw[pd,G9 C.kd,show X.env.kindOf x=some .local from C.locl h]
 rw[Bool.and_assoc,h2]
 rfl
theorem Bk.noswap(C:Bk X N sc k)(h:decide (sc.names.lookup x=some .cell)=true) :
  swapsWith (.ListComp elt gens scope pos) (some (.Name x py)) line X.env=pure false:=by
 have q:X.env.kindOf x=some .cell:=by
  rcases C.tb x _ (yQ h) with q|⟨q,_⟩
  ·exact q
  ·cases q
 rw[pd,q,G9 C.kd]
 rfl
end
section
variable {K:W.Frag}
structure iu(K:W.Frag)(x:Str)(st:Stmt)(ps:List Str):Prop where
 ex:∃ (f:Addr) (fd:FuncData),W.nsIn K mainGlobals x=some (some (.ref f))/\FA K x x st f fd/\Binds K fd ps []
structure Fh(K:W.Frag)(mg:Str->Option Value)(x:Str)(st:Stmt)(ps:List Str):Prop where
 ex:∃ (f:Addr) (fd:FuncData),mg x=some (.ref f)/\FA K x x st f fd/\Binds K fd ps []
theorem iu.mg{h:Heap}{mg:Str->Option Value}{st:Stmt}(D:iu K x st ps)(X:K.In h)(G:h.Ns mainGlobals mg):Fh K mg x st ps:=by
 obtain⟨f,fd,a,b,c⟩:=D.ex
 exact⟨f,fd,W.mg_of X G a,b,c⟩
def fY(st:Stmt)(ps:List Str):Prop:=∀ (x qual:Str) (kV doc pm:Value) (an:Option Addr) (cdv ct:Value) (us:List Value),us.length=ps.length->bindArgs (W.fnOf x qual (eM st) (bK st) (aD st) .none kV doc pm an cdv ct) ⟨us,[]⟩=pure (ps.zip us)
theorem K7{st:Stmt}{kV:Value}(hb:fY st ps)(a:W.nsIn K mainGlobals x=some (some (.ref f)))(l:K.lookup f=some ⟨oc,od,.func (W.fnOf x x (eM st) (bK st) (aD st) .none kV doc pm an cdv ct),osl⟩)
  (c:W.codeIn K cdv x=true) (k:W.keepIn K (.ref f)=true):iu K x st ps:=⟨f,_,a,sJ (st:=st) l c k,(sJ (st:=st) l c k).binds fun kV doc pm an cdv ct us h=>hb _ _ kV doc pm an cdv ct us h⟩
structure oJ(K:W.Frag)(x:Str)(st:Stmt)(ps:List Str):Prop where
 ex:∃ (f:Addr) (fd:FuncData) (c P:Addr),W.nsIn K mainGlobals x=some (some (.ref f))/\FA K x x st f fd/\Binds K fd ps []/\fd.code=.ref c/\W.codeHdIn K c P=true
structure JC(K:W.Frag)(mg:Str->Option Value)(x:Str)(st:Stmt)(ps:List Str):Prop where
 ex:∃ (f:Addr) (fd:FuncData) (c P:Addr),mg x=some (.ref f)/\FA K x x st f fd/\Binds K fd ps []/\fd.code=.ref c/\W.codeHdIn K c P=true
theorem oJ.mg{h:Heap}{mg:Str->Option Value}{st:Stmt}(D:oJ K x st ps)(X:K.In h)(G:h.Ns mainGlobals mg):JC K mg x st ps:=by
 obtain⟨f,fd,c,P,a,b⟩:=D.ex
 exact⟨f,fd,c,P,W.mg_of X G a,b⟩
def FM(K:W.Frag)(c:Addr):Addr:=match K.lookup c with
 | some ⟨_,_,.fields vs,_⟩=>(match (vs[11]?:Option Value) with|some (.ref P)=>P|_=>0)
 | _=>0
theorem KE{st:Stmt}{kV:Value}(hb:fY st ps)(a:W.nsIn K mainGlobals x=some (some (.ref f)))(l:K.lookup f=some ⟨oc,od,.func (W.fnOf x x (eM st) (bK st) (aD st) .none kV doc pm an (.ref c) ct),osl⟩)
  (cd:W.codeIn K (.ref c) x=true) (k:W.keepIn K (.ref f)=true) (hh:W.codeHdIn K c (FM K c)=true):oJ K x st ps:=⟨f,_,c,FM K c,a,sJ (st:=st) l cd k,(sJ (st:=st) l cd k).binds fun kV doc pm an cdv ct us h=>hb _ _ kV doc pm an cdv ct us h,rfl,hh⟩
theorem IG{K:W.Frag}(h:(dg.all fun x=>match W.nsIn K mainGlobals x with|some none=>true|_=>false)=true):∀x∈dg,W.nsIn K mainGlobals x=some none:=by
 intro x hx
 have:=List.all_eq_true.mp h x hx
 split at this
 ·assumption
 ·cases this
theorem v8{K:W.Frag}{H:Hp}{a:Addr}{ns:List Int}{m:List D->Option D}(hS:gn K H a (ns.map V.int))(hT:fj K H)(h:m [.list (ns.map PyData.int)]=some (.bool true)){X:_}:Lv K 1 m [.ref a] H (fun v _=>v=.bl true) X:=by
 refine⟨H,[.list (ns.map PyData.int)],.bool true,.refl _,hT,aq.cons ?_ aq.nil,rfl,h,fun v H' HF' G r=>by simpa only[Rep] using r⟩
 simp only[Rep]
 refine⟨a,_,rfl,hS,?_⟩
 clear h hS hT
 induction ns with
 | nil=>exact aq.nil
 | cons n ns ih=>exact aq.cons (by simp[Rep]) ih
end
theorem LS(h:isStar e=false)(he:DE X e f)(hs:DA X es g):DA X (e::es) (aa f g):=Je he hs h
section
def Ka:ao->Option Out:=fun _=>none
theorem Ks{st:Stmt}:DS X HF₀ H₀ st Ka:=fun pins s σ H E I ⟨HF,ρ,o,S,hg,q⟩=>by cases hg
def fK(f:Env->Option D):ao->Option Out:=fun ρ=>(f (bf ρ)).map fun _=>.nx ρ
theorem E7(hs:swapsWith e none pos.line X.env=pure false)(h:DE X e f):DS X HF₀ H₀ (.Expr e pos) (fK f):=cW (nL h hs) fun E σ H ⟨HF,ρ,o,S,hg,q⟩=>by
 obtain⟨d,h,rfl⟩:=ag hg
 exact⟨H,bf ρ,d,.refl _,S.all,h,fun v H' HF' G r=>q σ H' HF (S.step G.hh) (.refl _)⟩
def F2(t:Env->Option Bool)(gb:ao->Option Out):Nat->ao->Option Out
 | 0,_=>none
 | n+1,ρ=>(t (bf ρ)).bind fun b=>if b=true then (gb ρ).bind fun|.nx ρ'=>F2 t gb n ρ'|.rt d=>some (.rt d) else some (.nx ρ)
theorem Dj(n:Nat)(hp:PassesOwn (model X.prog X.w) X.A X.env X.xe)(hc:DT X c t)(hb:BN X HF₀ H₀ body gb):DS X HF₀ H₀ (.While c body [] pos) (F2 t gb n) :=
 cW (Em hp hc hb) fun E σ H ⟨HF,ρ,o,S,hg,q⟩=>by
  refine⟨fun m σ' H'=>∃HF' ρ',iE X.K HF₀ H₀ HF' H' ρ' σ'/\aQ HF HF'/\F2 t gb m ρ'=some o,⟨n,HF,ρ,S,.refl _,hg⟩,?_⟩
  rintro m σ' H' ⟨HF',ρ',S',s',hf⟩
  cases m with
  | zero=>cases hf
  | succ m =>
   unfold F2 at hf
   obtain⟨b,hb,hf⟩:=bs hf
   refine⟨H',bf ρ',b,.refl _,S'.all,hb,fun H1 HF1 G=>?_⟩
   cases b with
   | false =>
    rw[yN yZ] at hf ⊢
    cases hf
    exact q σ' H1 HF' (S'.step G.hh) s'
   | true =>
    rw[yL rfl] at hf ⊢
    obtain⟨o1,h2,hf⟩:=bs hf
    refine⟨fun σ2 H3=>∃HF3 ρ3,iE X.K HF₀ H₀ HF3 H3 ρ3 σ2/\aQ HF HF3/\F2 t gb m ρ3=some o,fun σ2 H3 ⟨HF3,ρ3,a1,a2,a3⟩=>⟨m,kM _,HF3,ρ3,a1,a2,a3⟩,HF',ρ',o1,S'.step G.hh,h2,?_⟩
    cases o1 with
    | nx ρ2=>exact fun σ4 H4 HF4 S4 s4=>⟨HF4,ρ2,S4,s'.trans s4,hf⟩
    | rt d=>cases hf;exact q
def uI:List D->Option D
 | [.int a,.int b]=>some (.int (min a b))
 | [.int a,.int b,.int c]=>some (.int (min (min a b) c))
 | _=>none
theorem Cn(hc:X.calm=true):du X (.builtin "min") (fun xs H Q=>(∃a b:Int,xs=[.int a,.int b]/\Q (.int (min a b)) H)\/(∃a b c:Int,xs=[.int a,.int b,.int c]/\Q (.int (min (min a b) c)) H)):=by
 intro pins s σ H xs us Q I r h
 have hh:X.A.handled=none:=I.ok.hd hc
 rcases h with ⟨a,b,rfl,q⟩|⟨a,b,c,rfl,q⟩
 ·cases r with
  | cons r1 r =>
   cases r with
   | cons r2 r =>
    cases r
    obtain⟨t,rfl⟩:=r1
    obtain⟨u,rfl⟩:=r2
    refine min_two_ints hh fun h' tk kp=>⟨.int (min a b),H,I.kept (t':=tk) kp,?_,q⟩
    by_cases h:b < a
    ·rw[yL h,show min a b=b by omega];exact⟨_,rfl⟩
    ·rw[yN h,show min a b=a by omega];exact⟨_,rfl⟩
 ·cases r with
  | cons r1 r =>
   cases r with
   | cons r2 r =>
    cases r with
    | cons r3 r =>
     cases r
     obtain⟨t,rfl⟩:=r1
     obtain⟨u,rfl⟩:=r2
     obtain⟨x,rfl⟩:=r3
     refine min_three_ints hh fun h' tk kp=>⟨.int (min (min a b) c),H,I.kept (t':=tk) kp,?_,q⟩
     by_cases h:b < a
     ·rw[yL h]
      by_cases h2:c < b
      ·rw[yL h2,show min (min a b) c=c by omega];exact⟨_,rfl⟩
      ·rw[yN h2,show min (min a b) c=b by omega];exact⟨_,rfl⟩
     ·rw[yN h]
      by_cases h2:c < a
      ·rw[yL h2,show min (min a b) c=c by omega];exact⟨_,rfl⟩
      ·rw[yN h2,show min (min a b) c=a by omega];exact⟨_,rfl⟩
theorem tP{K:W.Frag}(r:Rep K H d v):∀ {ds:List D}{vs:List V}(j:Nat),aq K H ds vs->aq K H (ds.set j d) (vs.set j v)
 | [],vs,j,h=>by rw[h.nil_inv];exact aq.nil
 | x::ds,vs,j,h=>by
  obtain⟨u,us,rfl,a,b⟩:=h.cons_inv
  cases j with
  | zero=>exact aq.cons r b
  | succ j=>exact aq.cons a (tP r j b)
def xi(i:Nat)(fz:List Nat)(fk f:Env->Option D):ao->Option Out:=fun ρ=>(jx fz f ρ).bind fun p=>(fk (bf p.2)).bind fun kd=>match kd with
 | .int k=>mT i (fun ds=>(EW ds.length k).map fun j=>ds.set j p.1) p.2
 | _=>none
theorem EO(i:Nat)(fz:List Nat)(hN:X.N[i]?=some x)(hv:Hb X.env.scope x)(hk:DE X e fk)(h:DE X e2 f)(hd:(x == ("__debug__":Str))=false:=by decide)(hcd:(x == ("__classdict__":Str))=false:=by decide)
  (ha:∀v,assign (.Subscript (.Name x px) e spos) X.env v=(do
   let ov <- holding [v] (eval (.Name x px) X.env)
   let iv <- holding [v,ov] (eval e X.env)
   standAt spos
   holding [v,ov,iv] (setItem ov iv v)
   release [v,ov,iv] []):=by intro _;rfl)
  (hs:swapsWithSole [.Subscript (.Name x px) e spos] e2 pos.line X.env=pure false:=by rfl) (hw:swappedStores [.Subscript (.Name x px) e spos] e2 X.env=pure none:=by rfl)
  (h1:(assignEach [.Subscript (.Name x px) e spos] X.env).map (·.2)=[assign (.Subscript (.Name x px) e spos) X.env]:=by rfl):DS X HF₀ H₀ (.Assign [.Subscript (.Name x px) e spos] e2 pos) (xi i fz fk f) :=
 cW (C7 h (HI (oF hN hv hd hcd) hk set_list ha) hs hw h1) fun E σ H ⟨HF,ρ,o,S,hg,q⟩=>by
  obtain⟨⟨d,ρ'⟩,h1,hg⟩:=bs hg
  obtain⟨kd,h2,hg⟩:=bs hg
  cases kd<;>try cases hg
  rename_i k
  obtain⟨ds,es,h3,h4,rfl⟩:=jm hg
  obtain⟨j,hj,rfl⟩:=ag h4
  refine mJ S h1 fun v H1 HF1 s1 S1 s2 r=>?_
  obtain⟨a,vs,e1,e2,e3,e5,e4⟩:=S1.own i ds h3
  refine⟨.ref a,e1,H1,bf ρ',.int k,.refl _,S1.all,h2,fun kv H2 HF2 G rk=>?_⟩
  simp only[Rep] at rk
  have S2:=S1.step G.hh
  obtain⟨a',vs',f1,f2,f3,f5,f4⟩:=S2.own i ds h3
  rw[e1] at f1;cases f1
  exact⟨a,vs',k,j,rfl,rk,f2,by rw[f4.length];exact hj,q σ _ HF1 (S2.mut h3 e1 f2 (tP r j f4)) s1⟩
end
section
def Lr:D->Bool|.none=>true|_=>false
theorem nG{K:W.Frag}(r:Rep K HF d v):decide (v=.non)=Lr d:=by
 cases d<;>simp only[Rep] at r<;>first
  | (subst r;rfl)
  | (obtain⟨a,vs,rfl,_⟩:=r;rfl)
  | exact r.elim
def pI:D->D->Option D:=fun x y=>if Lr y=true then some (.bool (Lr x)) else none
def mZ:D->D->Option D:=fun x y=>if Lr y=true then some (.bool (!Lr x)) else none
theorem zl{K:W.Frag}:eN K (fun x y H Q=>y=.non/\Q (.bl (decide (x=.non))) H) pI:=by
 intro HF H x y v1 v2 d Q sm r1 r2 hg q
 unfold pI at hg
 split at hg
 ·rename_i h
  cases hg
  have h2:=nG r2
  rw[h,zJ] at h2
  refine⟨h2,?_⟩
  rw[nG r1]
  exact q _ H HF (.refl sm) (by simp[Rep])
 ·cases hg
theorem u3{K:W.Frag}:eN K (fun x y H Q=>y=.non/\Q (.bl (!decide (x=.non))) H) mZ:=by
 intro HF H x y v1 v2 d Q sm r1 r2 hg q
 unfold mZ at hg
 split at hg
 ·rename_i h
  cases hg
  have h2:=nG r2
  rw[h,zJ] at h2
  refine⟨h2,?_⟩
  rw[nG r1]
  exact q _ H HF (.refl sm) (by simp[Rep])
 ·cases hg
theorem Bk.is0(C:Bk X N sc k)(ha:DE X a fa)(hb:DE X b fb):DE X (.Compare a [.Is] [b] pos) (f2 pI fa fb):=iZ BV zl ha hb (di _)
theorem Bk.not0(C:Bk X N sc k)(ha:DE X a fa)(hb:DE X b fb):DE X (.Compare a [.IsNot] [b] pos) (f2 mZ fa fb):=iZ zd u3 ha hb (di _)
theorem Bk.tis0(C:Bk X N sc k)(ha:DE X a fa)(hb:DE X b fb):DT X (.Compare a [.Is] [b] pos) (fB (f2 pI fa fb)):=iJ BV zl ha hb (di _)
theorem Bk.tnot0(C:Bk X N sc k)(ha:DE X a fa)(hb:DE X b fb):DT X (.Compare a [.IsNot] [b] pos) (fB (f2 mZ fa fb)):=iJ zd u3 ha hb (di _)
theorem Jo(hc:X.calm=true)(B:nR X "min" (.builtin "min"))(he:starEach (e::es) X.env=(false,eval e X.env)::starEach es X.env)(hpl:(backTo pos (starEach es X.env)).any (·.1)=false)(ha:DA X (e::es) fs):DE X (.Call (.Name "min" p) (e::es) [] pos) (ba uI fs) :=
 gE (Cn hc) (by
  intro HF H ds vs d Q sm r hg q
  unfold uI at hg
  split at hg
  ·cases hg
   obtain⟨v1,r1,rfl,a1,b1⟩:=r.cons_inv
   obtain⟨v2,r2,rfl,a2,b2⟩:=b1.cons_inv
   rw[b2.nil_inv]
   simp only[Rep] at a1 a2
   exact .inl ⟨_,_,by rw[a1,a2],q _ H HF (.refl sm) (by simp[Rep])⟩
  ·cases hg
   obtain⟨v1,r1,rfl,a1,b1⟩:=r.cons_inv
   obtain⟨v2,r2,rfl,a2,b2⟩:=b1.cons_inv
   obtain⟨v3,r3,rfl,a3,b3⟩:=b2.cons_inv
   rw[b3.nil_inv]
   simp only[Rep] at a1 a2 a3
   exact .inr ⟨_,_,_,by rw[a1,a2,a3],q _ H HF (.refl sm) (by simp[Rep])⟩
  ·cases hg) B ha (by decide) (by decide) he hpl
end
section
variable {fl fs:Env->Option (List D)}
theorem xb(hc:X.calm=true):du X (.builtin "any") (fun xs H Q=>∃ (a:Addr) (bs:List Bool),xs=[.ref a]/\gn X.K H a (bs.map V.bl)/\Q (.bl (bs.any id)) H):=by
 intro pins s σ H xs us Q I r h
 obtain⟨a,bs,rfl,hq,q⟩:=h
 obtain⟨u,rfl,rx⟩:=vals1 r
 cases rx
 obtain⟨its,rv,pl,hz⟩:=I.list hq
 have hv:=j9 rv
 subst hv
 have hh:X.A.in1.handled=none:=I.ok.hd hc
 refine call_any_walk (qK pl.isList ?_)
 obtain⟨o,ho,hcl,n,hd⟩:=pl.isList
 have hne:a≠s.heap.objs.size:=yR (zY ho)
 refine⟨_,_,_,_,_,_,fun i=>bs.getD i false,rfl,Walks.list hh s.heap.objs.size a hne (bs.map Value.bool).toArray,⟨⟨_,zX _ rfl,rfl,rfl⟩,pl.isList.push _⟩,fun i v s' Q' E' hP hQ=>?_,fun h' tk kp=>?_⟩
 ·have e:v=Value.bool (bs.getD i false):=by
   have hP:(bs.map Value.bool).toArray[i]?=some v:=hP
   rw[vW,zO] at hP
   obtain⟨b,hb,rfl⟩:=ag hP
   rw[zG,hb]
   rfl
  subst e
  exact xW hQ
 ·refine⟨.bl (bs.any id),H,?_,?_,q⟩
  ·exact I.kept (t':=tk) fun b o' e=>kp b o' (by simp;exact yR (zY e)) (zU _ e)
  ·show Value.bool _=Value.bool _
   have:=range_any bs
   simp only[zH,zD]
   rw[this]
end
section
theorem JW(hc:X.calm=true)(B:nR X "any" (.builtin "any"))(he:starEach [e] X.env=(false,eval e X.env)::starEach [] X.env)(ha:DA X [e] fs):DE X (.Call (.Name "any" p) [e] [] pos) (ba (fun ds=>(oneOf ds).bind fun d=>match d with
 | .list es=>(boolsOf es).map fun bs=>.bool (bs.any id)
 | _=>none) fs) :=
 gE (xb hc) (by
  intro HF H ds vs d Q sm r hg q
  obtain⟨x,hx,hg⟩:=bs hg
  rw[fI hx] at r
  cases x<;>try cases hg
  obtain⟨bs,hb,rfl⟩:=ag hg
  obtain⟨v,r',rfl,a,b⟩:=r.cons_inv
  rw[b.nil_inv]
  simp only[Rep] at a
  obtain⟨p,us,rfl,h,rr⟩:=a
  rw[gS hb] at rr
  have:=k5 rr
  subst this
  exact⟨p,bs,rfl,sm.seq h,q _ H HF (.refl sm) (by simp[Rep])⟩) B ha (by decide) (by decide) he rfl
theorem m8(ns:List Int):∀j:Nat,preSum (fun i=>ns.getD i 0) j=(ns.take j).sum
 | 0=>by simp[preSum]
 | j+1=>by
  rw[preSum,m8 ns j,List.take_add_one,List.sum_append]
  congr 1
  rw[zG]
  cases ns[j]?<;>simp
theorem pY(val:Nat->Int)(B:Int)(h:∀i,-B<=val i/\val i<=B):∀j:Nat,-(B * j)<=preSum val j/\preSum val j<=B * j
 | 0=>by simp[preSum]
 | j+1=>by
  have ih:=pY val B h j
  have:=h j
  rw[preSum]
  have e:B * ((j+1:Nat):Int)=B * (j:Int)+B:=by rw[Int.natCast_add,Int.mul_add];simp
  rw[e]
  omega
def Jj(ns:List Int):Bool:=decide (ns.length<=1000)&&ns.all fun n=>decide (-1000000<=n)&&decide (n<=1000000)
theorem HM(h:Jj ns=true):ns.length<=1000/\∀i,-1000000<=ns.getD i 0/\ns.getD i 0<=1000000:=by
 unfold Jj at h
 rw[zF,zJ,xG] at h
 refine⟨h.1,fun i=>?_⟩
 rw[zG]
 cases e:ns[i]? with
 | none=>simp
 | some n =>
  have:=h.2 n (qB e)
  simpa using this
theorem nV{ns:List Int}{its:List Value}(r:aF (ns.map V.int) its){i:Nat}(h:its.toArray[i]?=some v):∃t,v=.int (ns.getD i 0) t:=by
 rw[vW] at h
 induction ns generalizing its i with
 | nil=>cases r;simp at h
 | cons n ns ih =>
  cases r with
  | cons r1 rr =>
   cases i with
   | zero =>
    simp only[xQ,yK] at h
    subst h
    obtain⟨t,rfl⟩:=r1
    exact⟨t,rfl⟩
   | succ i =>
    simp only[yY] at h
    exact ih rr h
theorem yb(hc:X.calm=true):du X (.builtin "sum") (fun xs H Q=>∃ (a:Addr) (ns:List Int),xs=[.ref a]/\(gn X.K H a (ns.map V.int)\/gK X.K H a (ns.map V.int))/\Jj ns=true/\Q (.int ns.sum) H):=by
 intro pins s σ H xs us Q I r h
 obtain⟨a,ns,rfl,hq,hok,q⟩:=h
 obtain⟨u,rfl,rx⟩:=vals1 r
 cases rx
 have hh:X.A.in1.handled=none:=I.ok.hd hc
 obtain⟨hlen,hbd⟩:=HM hok
 have hin:∀n:Nat,n<=1000->∀j,j < n->InLong ((fun i=>ns.getD i 0) j)/\InLong (preSum (fun i=>ns.getD i 0) (j+1)):=fun n hn j hj=>by
  have h1:=hbd j
  have h2:=pY (fun i=>ns.getD i 0) 1000000 hbd (j+1)
  refine⟨⟨?_,?_⟩,?_,?_⟩
  ·show -(2 ^ 63)<=ns.getD j 0
   omega
  ·show ns.getD j 0 < 2 ^ 63
   omega
  ·omega
  ·omega
 have hsum:preSum (fun i=>ns.getD i 0) ns.length=ns.sum:=by rw[m8,List.take_length]
 rcases hq with hq|hq
 ·obtain⟨its,rv,pl,hz⟩:=I.list hq
  have hl:its.length=ns.length:=by rw[<- rv.length,zD]
  refine call_sum_walk (qK pl.isList ?_)
  obtain⟨o,ho,hcl,n,hd⟩:=pl.isList
  have hlt:=zY ho
  have hne:a≠s.heap.objs.size:=yR hlt
  refine⟨_,_,_,_,_,_,fun i=>ns.getD i 0,rfl,Walks.list hh s.heap.objs.size a hne its.toArray,⟨⟨_,zX _ rfl,rfl,rfl⟩,pl.isList.push _⟩,fun b hb=>?_,fun i v hP=>nV rv hP,by rw[zH,hl];exact hin _ hlen,fun h' tk t' kp=>?_⟩
  ·show b < (s.heap.push _).objs.size
   rw[xJ]
   simp only[zQ,yF,xU] at hb
   rcases hb with rfl|rfl
   ·exact kM _
   ·exact jN hlt
  ·refine⟨.int ns.sum,H,I.kept (t':=tk) fun b o' e=>kp b o' (by simp;exact yR (zY e)) (zU _ e),⟨t',?_⟩,q⟩
   rw[zH,hl,hsum]
 ·obtain⟨its,rv,pl,hz⟩:=I.tuple hq
  have pl:s.heap.IsTuple a its.toArray:=pl
  have hl:its.length=ns.length:=by rw[<- rv.length,zD]
  refine call_sum_walk (xR pl ?_)
  obtain⟨o,ho,hcl,n,hd⟩:=id pl
  have hlt:=zY ho
  have hne:a≠s.heap.objs.size:=yR hlt
  refine⟨_,_,_,_,_,_,fun i=>ns.getD i 0,rfl,Walks.tuple hh s.heap.objs.size a hne its.toArray,⟨⟨_,zX _ rfl,rfl,rfl⟩,pl.push _⟩,fun b hb=>?_,fun i v hP=>nV rv hP,by rw[zH,hl];exact hin _ hlen,fun h' tk t' kp=>?_⟩
  ·show b < (s.heap.push _).objs.size
   rw[xJ]
   simp only[zQ,yF,xU] at hb
   rcases hb with rfl|rfl
   ·exact kM _
   ·exact jN hlt
  ·refine⟨.int ns.sum,H,I.kept (t':=tk) fun b o' e=>kp b o' (by simp;exact yR (zY e)) (zU _ e),⟨t',?_⟩,q⟩
   rw[zH,hl,hsum]
end
section
def AV:List D->Option D:=fun ds=>(d9 ds).bind fun es=>(intsOf es).bind fun ns=>if Jj ns=true then some (.int ns.sum) else none
theorem gH{K:W.Frag}:∀ {ns:List Int}{vs:List V},aq K H (ns.map PyData.int) vs->vs=ns.map V.int
 | [],vs,h=>h.nil_inv
 | b::bs,vs,h=>by
  obtain⟨v,r,rfl,a,c⟩:=h.cons_inv
  simp only[Rep] at a
  rw[a,gH c]
  rfl
theorem Jb(hc:X.calm=true)(B:nR X "sum" (.builtin "sum"))(he:starEach [e] X.env=(false,eval e X.env)::starEach [] X.env)(ha:DA X [e] fs):DE X (.Call (.Name "sum" p) [e] [] pos) (ba AV fs) :=
 gE (yb hc) (by
  intro HF H ds vs d Q sm r hg q
  obtain⟨es,h1,hg⟩:=bs hg
  obtain⟨ns,h2,hg⟩:=bs hg
  have hg:(if Jj ns=true then some (PyData.int ns.sum) else none)=some d:=hg
  split at hg
  ·rename_i hok
   cases hg
   have e2:=cF h2
   subst e2
   rcases ja h1 with rfl|rfl
   all_goals
    obtain⟨v,r',rfl,a,b⟩:=r.cons_inv
    rw[b.nil_inv]
    simp only[Rep] at a
    obtain⟨p,us,rfl,h,rr⟩:=a
    have:=gH rr
    subst this
   ·exact⟨p,ns,rfl,.inr (aA sm h),hok,q _ H HF (.refl sm) (by simp[Rep])⟩
   ·exact⟨p,ns,rfl,.inl (sm.seq h),hok,q _ H HF (.refl sm) (by simp[Rep])⟩
  ·cases hg) B ha (by decide) (by decide) he rfl
end
section
def Kd(i:Int):Value->Bool|.int a _=>a == i|_=>false
theorem AX:LA X "list.index" (fun x vs H Q=>∃ (l:Addr) (ns:List Int) (i:Int) (j:Nat),x=.ref l/\vs=[.int i]/\gn X.K H l (ns.map V.int)/\ns[j]?=some i/\(∀m,m < j->ns[m]?≠some i)/\Q (.int j) H):=by
 intro pins s σ H x vs v us Q I rx rv h
 obtain⟨l,ns,i,j,rfl,rfl,hq,hj,hno,q⟩:=h
 cases rx
 obtain⟨u,rfl,ru⟩:=rv.one
 obtain⟨t,rfl⟩:=ru
 obtain⟨its,r,pl,hz⟩:=I.list hq
 obtain⟨⟨cls,dd,data,sl⟩,ho,hc,n,hd⟩:=id pl.isList
 simp only at hc hd
 subst hc hd
 have hl:its.length=ns.length:=by rw[<- r.length,zD]
 have hj1:j < ns.length:=(List.getElem?_eq_some_iff.mp hj).1
 have hz':ns.length<=sizeLine:=by rw[zD] at hz;exact hz
 have hs63:(sizeLine:Nat) < 2 ^ 62:=by decide
 have at_:∀m (hm:m < its.toArray.size),∃t',its.toArray[m]=.int (ns.getD m 0) t':=fun m hm=>nV r (jY hm)
 refine qX F.slot_list_index ⟨_,ho,rfl⟩ F.entry_list_index (F.args_list_index_2 _ _) (PySem.SeqAt.list_indexAt l its.toArray n dd sl (.int i t) (Kd i) j (by rw[zH,hl];exact hj1) (by omega) ?_ ?_) ⟨ho,?_,?_⟩
 ·obtain⟨t',e⟩:=at_ j (by rw[zH,hl];exact hj1)
  rw[e,Kd,zG,hj]
  simp
 ·intro m hm hmj
  obtain⟨t',e⟩:=at_ m hm
  have hm':m < ns.length:=by omega
  have:=hno m hmj
  rw[e,Kd,zG]
  rw[zK hm'] at this ⊢
  simp only[qG,beq_eq_false_iff_ne]
  exact fun h=>this (by rw[h])
 ·intro y hy
  obtain⟨m,hm,rfl⟩:=Array.getElem_of_mem hy
  obtain⟨t',e⟩:=at_ m hm
  rw[e]
  exact PySem.SeqAt.EqAt.int_int _ _ _ _
 ·exact⟨.int j,H,I.tok _,⟨_,rfl⟩,q⟩
def tT(i:Int):List Int->Option Nat
 | []=>none
 | n::ns=>if n=i then some 0 else (tT i ns).map (·+1)
theorem mn:∀ {ns:List Int}{j:Nat},tT i ns=some j->ns[j]?=some i/\∀m,m < j->ns[m]?≠some i
 | [],j,h=>by cases h
 | n::ns,j,h=>by
  unfold tT at h
  split at h
  ·cases h
   rename_i e
   exact⟨by rw[e];rfl,fun m hm=>absurd hm (vQ _)⟩
  ·rename_i e
   obtain⟨k,hk,rfl⟩:=ag h
   obtain⟨a,b⟩:=mn hk
   refine⟨by simpa using a,fun m hm=>?_⟩
   cases m with
   | zero=>simpa using e
   | succ m=>simpa using b m (by omega)
def Mh:D->D->Option D
 | .list es,.int i=>(intsOf es).bind fun ns=>(tT i ns).map fun j=>.int ((j:Nat):Int)
 | _,_=>none
theorem CI{fo:Env->Option D}(hbase:attributeBase o "index" X.env (eval o X.env)=eval o X.env)
  (hfew:((backTo cpos (starEach [e] X.env)).all (fun x=>!x.1)&&(backToKw cpos (keywordEach [] X.env)).all (fun x=>x.1.isSome)&&decide ([e].length+([]:List Keyword).length+(if ([]:List Keyword).isEmpty then 0 else 1) < 30))=true)
  (hline:(apos.endLine == cpos.line)=true) (hs:starEach [e] X.env=(false,eval e X.env)::starEach [] X.env) (ho:DE X o fo) (he:DE X e fe):DE X (.Call (.Attribute o "index" apos) [e] [] cpos) (f2 Mh fo fe) :=
 aX (uO qN PySem.F.slot_list_index PySem.F.type_list_index AX ho (cJ he ft hs) hbase hfew hline hs rfl) fun σ H Q ⟨HF,ρ,d,sm,eo,hf,q⟩=>by
  obtain⟨x,hx,hf⟩:=bs hf
  obtain⟨y,hy,hg⟩:=bs hf
  refine⟨HF,ρ,x,sm,eo,hx,fun v1 H1 HF1 g1 r1=>?_⟩
  cases x<;>try cases hg
  cases y<;>try cases hg
  rename_i es i
  obtain⟨ns,h1,hg⟩:=bs hg
  obtain⟨j,h2,rfl⟩:=ag hg
  have e1:=cF h1
  subst e1
  simp only[Rep] at r1
  obtain⟨l,us,rfl,hq,rr⟩:=r1
  have:=gH rr
  subst this
  refine⟨.inl ⟨rfl,_,g1.fh.seq hq⟩,HF1,ρ,.int i,g1.fh,eo.mono g1.ff,hy,fun v2 H2 HF2 g2 r2=>?_⟩
  simp only[Rep] at r2
  obtain⟨a,b⟩:=mn h2
  exact⟨l,ns,i,j,rfl,by rw[r2],g2.fh.seq (g2.ff.seq hq),a,b,q _ H2 HF2 (g1.trans g2) (by simp[Rep])⟩
end
end Dl
namespace Tx
open PySem PySem.SeqAt PyProof.Rows
open PySem.AutoSeq1 (wpAny_loadPart')
open PySem.MeetsSeq PySem.MeetsSeq2 PySem.MeetsSeq3
theorem wpR(f:Nat->β->Sem (ForInStep β))(I:List Nat->β->Shared->Prop)(Q:β->Shared->Prop)
  (turn:∀x rest b s,I (x::rest) b s->wpAny M A (f x b) (fun r s'=>match r with|.yield b'=>I rest b' s'|.done b'=>Q b' s') E s)
  (fin:∀b s,I [] b s->Q b s) (n:Nat) (b:β) (h:I (List.range' 0 n 1) b s):wpAny M A (forIn [:n] b f) Q E s:=by
 have e:forIn [:n] b f=forIn (List.range' 0 n 1) b f:=by
  rw[Std.Legacy.Range.forIn_eq_forIn_range']
  simp[Std.Legacy.Range.size]
 rw[e]
 exact wpAny_forIn_list f I Q turn fin _ b h
theorem tuple_indexAt(l:Addr)(items:Array Value)(n:Nat)(dd:Option Addr)(sl:Array (Option Value))(x:Value)(e:Value->Bool)(j:Nat)(hj:j < items.size)(h1:e items[j]=true)(h2:∀m (hm:m < items.size),m < j->e items[m]=false) :
  Meets (Builtin.«tuple.index» ⟨[.ref l,x],[]⟩)
   (fun A R s=>s.heap.get? l=some { cls:=.type "tuple",dict:=dd,data:=.seq items n,slots:=sl }/\(∀y,y∈items->EqAt A.in1 s y x (e y))/\R (.ok (.ret (.int (j:Nat) s.toks))) { s with toks:=s.toks+1 }) :=
 .of_wp fun prog w A R s h=>by
  obtain⟨hp,g,d,tk,os⟩:=s;obtain⟨hl,he,h⟩:=h
  wp_walk using wpAny_loadPart' hl,wpR _ (fun rest b s'=>s'=⟨hp,g,d,tk,os⟩/\b.1=none/\∃i,i<=j/\rest=List.range' i (items.size - i) 1) _
  case turn =>
   rintro i rest b s' ⟨rfl,hb,i',hi,e1⟩
   have hlt:i' < items.size:=by omega
   rw[show items.size - i'=(items.size - (i'+1))+1 by omega,vG] at e1
   injection e1 with e2 e3
   subst e2
   subst e3
   simp only[jY hlt]
   refine zV (he _ (Array.getElem_mem hlt) prog w _ _ ?_)
   by_cases hij:i=j
   ·subst hij
    rw[h1]
    wp_walk
    exact⟨_,rfl,h⟩
   ·rw[h2 i hlt (by omega)]
    wp_walk
    exact⟨rfl,rfl,i+1,by omega,rfl⟩
  case fin =>
   rintro b s' ⟨rfl,hb,i,hi,e1⟩
   have:=jC List.length e1
   simp at this
   omega
  case h =>
   exact⟨rfl,rfl,0,xV _,by simp⟩
end Tx
namespace Dl
open PySem L2 PySem.Spec PyProof.Rows
section
theorem Bz:LA X "tuple.index" (fun x vs H Q=>∃ (l:Addr) (ns:List Int) (i:Int) (j:Nat),x=.ref l/\vs=[.int i]/\gK X.K H l (ns.map V.int)/\ns[j]?=some i/\(∀m,m < j->ns[m]?≠some i)/\Q (.int j) H):=by
 intro pins s σ H x vs v us Q I rx rv h
 obtain⟨l,ns,i,j,rfl,rfl,hq,hj,hno,q⟩:=h
 cases rx
 obtain⟨u,rfl,ru⟩:=rv.one
 obtain⟨t,rfl⟩:=ru
 obtain⟨its,r,pl,hz⟩:=I.tuple hq
 obtain⟨⟨cls,dd,data,sl⟩,ho,hc,n,hd⟩:=id pl
 simp only at hc hd
 subst hc hd
 have hl:its.length=ns.length:=by rw[<- r.length,zD]
 have hj1:j < ns.length:=(List.getElem?_eq_some_iff.mp hj).1
 have at_:∀m (hm:m < its.toArray.size),∃t',its.toArray[m]=.int (ns.getD m 0) t':=fun m hm=>nV r (jY hm)
 refine qX F.slot_tuple_index ⟨_,ho,rfl⟩ F.entry_tuple_index (F.args_tuple_index_2 _ _) (Tx.tuple_indexAt l its.toArray n dd sl (.int i t) (Kd i) j (by rw[zH,hl];exact hj1) ?_ ?_) ⟨ho,?_,?_⟩
 ·obtain⟨t',e⟩:=at_ j (by rw[zH,hl];exact hj1)
  rw[e,Kd,zG,hj]
  simp
 ·intro m hm hmj
  obtain⟨t',e⟩:=at_ m hm
  have hm':m < ns.length:=by
   rw[zH] at hm
   omega
  have:=hno m hmj
  rw[e,Kd,zG]
  rw[zK hm'] at this ⊢
  simp only[qG,beq_eq_false_iff_ne]
  exact fun h=>this (by rw[h])
 ·intro y hy
  obtain⟨m,hm,rfl⟩:=Array.getElem_of_mem hy
  obtain⟨t',e⟩:=at_ m hm
  rw[e]
  exact PySem.SeqAt.EqAt.int_int _ _ _ _
 ·exact⟨.int j,H,I.tok _,⟨_,rfl⟩,q⟩
theorem DK(h:PE X e t)(g:PE X e u):PE X e (fun σ H Q=>t σ H Q\/u σ H Q):=fun pins s σ H Q I q=>q.elim (h pins s σ H Q I) (g pins s σ H Q I)
def ny:D->D->Option D
 | .list es,.int i=>(intsOf es).bind fun ns=>(tT i ns).map fun j=>.int ((j:Nat):Int)
 | .tuple es,.int i=>(intsOf es).bind fun ns=>(tT i ns).map fun j=>.int ((j:Nat):Int)
 | _,_=>none
theorem AJ{fo:Env->Option D}(hbase:attributeBase o "index" X.env (eval o X.env)=eval o X.env)
  (hfew:((backTo cpos (starEach [e] X.env)).all (fun x=>!x.1)&&(backToKw cpos (keywordEach [] X.env)).all (fun x=>x.1.isSome)&&decide ([e].length+([]:List Keyword).length+(if ([]:List Keyword).isEmpty then 0 else 1) < 30))=true)
  (hline:(apos.endLine == cpos.line)=true) (hs:starEach [e] X.env=(false,eval e X.env)::starEach [] X.env) (ho:DE X o fo) (he:DE X e fe):DE X (.Call (.Attribute o "index" apos) [e] [] cpos) (f2 ny fo fe) :=
 aX (DK (CI hbase hfew hline hs ho he) (uO PySem.F.plainAttrs_tuple PySem.F.slot_tuple_index PySem.F.type_tuple_index Bz ho (cJ he ft hs) hbase hfew hline hs rfl)) fun σ H Q ⟨HF,ρ,d,sm,eo,hf,q⟩=>by
  obtain⟨x,hx,hf⟩:=bs hf
  obtain⟨y,hy,hg⟩:=bs hf
  cases x<;>try cases hg
  ·cases y<;>try cases hg
   rename_i es i
   exact .inl ⟨HF,ρ,d,sm,eo,by simp only[f2,hx,hy,zA];exact hg,q⟩
  ·cases y<;>try cases hg
   rename_i es i
   obtain⟨ns,h1,hg⟩:=bs hg
   obtain⟨j,h2,rfl⟩:=ag hg
   have e1:=cF h1
   subst e1
   refine .inr ⟨HF,ρ,_,sm,eo,hx,fun v1 H1 HF1 g1 r1=>?_⟩
   simp only[Rep] at r1
   obtain⟨l,us,rfl,hq,rr⟩:=r1
   have:=gH rr
   subst this
   refine⟨?_,HF1,ρ,.int i,g1.fh,eo.mono g1.ff,hy,fun v2 H2 HF2 g2 r2=>?_⟩
   ·first|exact .inr (.inl ⟨rfl,_,aA g1.fh hq⟩)|exact .inl ⟨rfl,_,aA g1.fh hq⟩|exact .inr ⟨rfl,_,aA g1.fh hq⟩
   ·simp only[Rep] at r2
    obtain⟨a,b⟩:=mn h2
    exact⟨l,ns,i,j,rfl,by rw[r2],aA g2.fh (aA g2.ff hq),a,b,q _ H2 HF2 (g1.trans g2) (by simp[Rep])⟩
end
end Dl
namespace Zp
open PySem PyProof.Rows
def IsI(b:Bool)(h:Heap)(it l:Addr)(k:Nat):Prop:=match b with|true=>h.IsTupleIter it l k|false=>h.IsListIter it l k
def IsS(b:Bool)(h:Heap)(l:Addr)(xs:Array Value):Prop:=match b with|true=>h.IsTuple l xs|false=>h.IsList l xs
theorem IsI.obj(x:IsI b h it l k):∃o,h.get? it=some o/\∀v,o.data≠.cell v:=by
 cases b
 ·obtain⟨o,e,_,d⟩:=(show h.IsListIter it l k from x);exact⟨o,e,fun v q=>by rw[d] at q;cases q⟩
 ·obtain⟨o,e,_,d⟩:=(show h.IsTupleIter it l k from x);exact⟨o,e,fun v q=>by rw[d] at q;cases q⟩
theorem IsI.at(x:IsI b h it l k)(e:∀o,h.get? it=some o->h'.get? it=some o):IsI b h' it l k:=by
 cases b
 ·exact Heap.IsListIter.at x e
 ·exact Heap.IsTupleIter.at x e
theorem IsI.extBut(x:IsI b h it l k)(e:Heap.ExtBut a h h')(n:it≠a):IsI b h' it l k:=x.at fun o q=>e it o n q
theorem IsS.at(x:IsS b h l xs)(e:∀o,h.get? l=some o->h'.get? l=some o):IsS b h' l xs:=by
 cases b
 ·obtain⟨o,q,r⟩:=(show h.IsList l xs from x);exact⟨o,e o q,r⟩
 ·obtain⟨o,q,r⟩:=(show h.IsTuple l xs from x);exact⟨o,e o q,r⟩
theorem IsS.extBut(x:IsS b h l xs)(e:Heap.ExtBut a h h')(n:l≠a):IsS b h' l xs:=x.at fun o q=>e l o n q
section
theorem nxt(hj:IsI b s.heap j t k)(ht:IsS b s.heap t its)(hv:its[k]?=some v)
  (hQ:∀g,IsI b g j t (k+1)->Heap.SameBut j s.heap g->Q v { s with heap:=g }):wpAny (model prog w) A (Builtin.SmallTypes.nextOf (.ref j)) Q E s:=by
 cases b
 ·exact wpAny_nextOf_list_item hj ht hv hQ
 ·exact En.nextT_item hj ht hv hQ
theorem nxtE{Q:Value->Shared->Prop}(hh:A.handled=none)(hj:IsI b s.heap j t k)(ht:IsS b s.heap t its)(hv:its[k]?=none)
  (hE:∀g x,Heap.ExtBut j s.heap g->(∃o,g.get? x=some o/\o.cls=.type "StopIteration")->E (.ref x) { s with heap:=g }):wpAny (model prog w) A (Builtin.SmallTypes.nextOf (.ref j)) Q E s:=by
 cases b
 ·exact wpAny_nextOf_list_end hh hj ht hv hE
 ·exact En.nextT_end hh hj ht hv hE
structure ZS(b₁ b₂:Bool)(h₀ h:Heap)(z TI TO i j l m:Addr)(xs ys:Array Value)(f:Value)(p q:Nat)(a b:Value):Prop where
 zo:IsZip h z TI TO f
 ti:IsPair h TI (.ref i) (.ref j)
 to:IsPair h TO a b
 wi:IsI b₁ h i l p
 wj:IsI b₂ h j m q
 sl:IsS b₁ h l xs
 sm:IsS b₂ h m ys
 kp:∀c o,c≠z->c≠TO->c≠i->c≠j->h₀.get? c=some o->h.get? c=some o
 sz:h.objs.size=h₀.objs.size
section
variable {z TI TO i j l m:Addr}
theorem ZS.fl(Z:ZS b₁ b₂ h₀ h z TI TO i j l m xs ys f p q a b)(D:ZipApart z TI TO i j l m)(e:IsZip g z TI TO f')(t:Heap.SameBut z h g):ZS b₁ b₂ h₀ g z TI TO i j l m xs ys f' p q a b :=
 ⟨e,t.extBut _ _ D.TIz Z.ti,t.extBut _ _ D.TOz Z.to,Z.wi.extBut t.extBut D.i1z,Z.wj.extBut t.extBut D.i2z,Z.sl.extBut t.extBut D.l1z,Z.sm.extBut t.extBut D.l2z,fun c o n1 n2 n3 n4 r=>t.extBut _ _ n1 (Z.kp c o n1 n2 n3 n4 r),t.1.trans Z.sz⟩
theorem ZS.fst(Z:ZS b₁ b₂ h₀ h z TI TO i j l m xs ys f p q a b)(D:ZipApart z TI TO i j l m)(e:IsI b₁ g i l (p+1))(t:Heap.SameBut i h g):ZS b₁ b₂ h₀ g z TI TO i j l m xs ys f (p+1) q a b :=
 ⟨t.extBut _ _ D.i1z.symm Z.zo,t.extBut _ _ D.TIi1 Z.ti,t.extBut _ _ D.TOi1 Z.to,e,Z.wj.extBut t.extBut D.i12.symm,Z.sl.extBut t.extBut D.l1i1,Z.sm.extBut t.extBut D.l2i1,fun c o n1 n2 n3 n4 r=>t.extBut _ _ n3 (Z.kp c o n1 n2 n3 n4 r),t.1.trans Z.sz⟩
theorem ZS.snd(Z:ZS b₁ b₂ h₀ h z TI TO i j l m xs ys f p q a b)(D:ZipApart z TI TO i j l m)(e:IsI b₂ g j m (q+1))(t:Heap.SameBut j h g):ZS b₁ b₂ h₀ g z TI TO i j l m xs ys f p (q+1) a b :=
 ⟨t.extBut _ _ D.i2z.symm Z.zo,t.extBut _ _ D.TIi2 Z.ti,t.extBut _ _ D.TOi2 Z.to,Z.wi.extBut t.extBut D.i12,e,Z.sl.extBut t.extBut D.l1i2,Z.sm.extBut t.extBut D.l2i2,fun c o n1 n2 n3 n4 r=>t.extBut _ _ n4 (Z.kp c o n1 n2 n3 n4 r),t.1.trans Z.sz⟩
theorem ZS.put(Z:ZS b₁ b₂ h₀ h z TI TO i j l m xs ys f p q a b)(D:ZipApart z TI TO i j l m)(e:IsPair g TO x y)(t:Heap.SameBut TO h g):ZS b₁ b₂ h₀ g z TI TO i j l m xs ys f p q x y :=
 ⟨t.extBut _ _ D.TOz.symm Z.zo,t.extBut _ _ D.TITO Z.ti,e,Z.wi.extBut t.extBut D.TOi1.symm,Z.wj.extBut t.extBut D.TOi2.symm,Z.sl.extBut t.extBut D.l1TO,Z.sm.extBut t.extBut D.l2TO,fun c o n1 n2 n3 n4 r=>t.extBut _ _ n2 (Z.kp c o n1 n2 n3 n4 r),t.1.trans Z.sz⟩
end
variable {z TI TO i j l m:Addr}
theorem zipN{Q:Value->Shared->Prop}(hn:A.handled=none)(D:ZipApart z TI TO i j l m)(Z:ZS b₁ b₂ s.heap s.heap z TI TO i j l m xs ys .none p q a b)
  (item:∀x y g g',xs[p]?=some x->ys[q]?=some y->ZS b₁ b₂ s.heap g z TI TO i j l m xs ys .ellipsis (p+1) (q+1) x y->IsZip g' z TI TO (rawInt g.objs.size) ->
   Heap.SameBut z (g.push { cls:=.type "tuple",data:=.seq #[x,y] }) g'->Q (.ref g.objs.size) { s with heap:=g' })
  (over:(xs[p]?=none\/ys[q]?=none)->∀g e,(∀c o,c≠z->c≠TO->c≠i->c≠j->s.heap.get? c=some o->g.get? c=some o)->(∃o,g.get? e=some o/\o.cls=.type "StopIteration")->E (.ref e) { s with heap:=g }) :
  wpAny (model prog w) A (Builtin.«zip.__next__» ⟨[.ref z],[]⟩) (fun r s'=>∃v,r=.done (.ret v)/\Q v s') E s:=by
 have stop:∀ {g1 g2:Heap}{e:Addr}{c:Addr}{p' q':Nat}{a' b':Value},ZS b₁ b₂ s.heap g1 z TI TO i j l m xs ys .ellipsis p' q' a' b'->(c=i\/c=j)->(xs[p]?=none\/ys[q]?=none)->Heap.ExtBut c g1 g2 ->
   (∃o,g2.get? e=some o/\o.cls=.type "StopIteration")->wpAny (model prog w) A (setField (.ref z) 0 Value.none) (fun _ t=>E (.ref e) t) E { s with heap:=g2 }:=by
  intro g1 g2 e c p' q' a' b' Y hc hv k ⟨o,ho,ht⟩
  have cz:z≠c:=hc.elim (fun e=>e ▸ D.i1z.symm) fun e=>e ▸ D.i2z.symm
  have Yz:IsZip g2 z TI TO .ellipsis:=k _ _ cz Y.zo
  refine kY Yz (by simp) fun g3 _ t=>over hv g3 e (fun d u n1 n2 n3 n4 r=>t.extBut _ _ n1 (k _ _ ?_ (Y.kp d u n1 n2 n3 n4 r))) ⟨o,t.extBut _ _ ?_ ho,ht⟩
  ·exact hc.elim (fun e=>e ▸ n3) fun e=>e ▸ n4
  ·rintro rfl;rw[Yz] at ho;cases ho;simp at ht
 show wpAny _ _ (field (.ref z) 2 >>= _) _ _ _
 refine zV (qT Z.zo rfl (x:=.bool false) rfl (zV (qT Z.zo rfl (x:=.ref TI) rfl (zV (kH Z.ti rfl (zV (m:=Builtin.SmallTypes.ownedTupleIsFree _) ?_))))))
 refine zV (qT Z.zo rfl (x:=.none) rfl (zW ?_))
 rw[yL rfl]
 refine zV (wD (zV (qT Z.zo rfl (x:=.ref TO) rfl (zV (kY Z.zo (by simp) fun g1 e1 t1=>?_)))))
 have Z1:=Z.fl D (f':=.ellipsis) e1 t1
 refine zV ?_
 simp only[List.zipIdx_cons,List.zipIdx_nil,List.forIn_cons,List.forIn_nil]
 refine zV (zV (wpAny_onRaise (zV (m:=Builtin.SmallTypes.nextOf _) ?_)))
 cases hx:xs[p]? with
 | none=>exact nxtE hn Z1.wi Z1.sl hx fun g2 e k o=>stop Z1 (.inl rfl) (.inl hx) k o
 | some x =>
 refine nxt Z1.wi Z1.sl hx fun g2 e2 t2=>zW ?_
 have Z2:=Z1.fst D e2 t2
 refine zV (kH Z2.to rfl (zV (wpAny_updateSeq_pair Z2.to fun g3 e3 t3=>zV (wpAny_letGo (zW ?_)))))
 have Z3:=Z2.put D (x:=x) (y:=b) e3 t3
 refine zV (zV (wpAny_onRaise (zV (m:=Builtin.SmallTypes.nextOf _) ?_)))
 cases hy:ys[q]? with
 | none=>exact nxtE hn Z3.wj Z3.sm hy fun g4 e k o=>stop Z3 (.inr rfl) (.inr hy) k o
 | some y =>
 refine nxt Z3.wj Z3.sm hy fun g4 e4 t4=>zW ?_
 have Z4:=Z3.snd D e4 t4
 refine zV (kH Z4.to rfl (zV (wpAny_updateSeq_pair Z4.to fun g5 e5 t5=>zV (wpAny_letGo (zW (zW ?_))))))
 have Z5:=Z4.put D (x:=x) (y:=y) e5 t5
 refine zV (kH Z5.to rfl (zV (wpAny_newTuple (zV (m:=Builtin.SmallTypes.ownedTupleHandOut _ _) ?_))))
 refine zV (kY (zU _ Z5.zo) (by simp) fun g6 e6 t6=>kY e6 (by simp) fun g7 e7 t7=>zW ⟨_,rfl,?_⟩)
 exact item x y g5 g7 hx hy Z5 e7 (t6.trans t7)
theorem nextZ(hn:A.handled=none)(D:ZipApart z TI TO i j l m)
  (qz:IsZip s.heap z TI TO .none) (qI:IsPair s.heap TI (.ref i) (.ref j)) (qO:IsPair s.heap TO a b)
  (p1:IsI b₁ s.heap i l p) (p2:IsI b₂ s.heap j m q) (r1:IsS b₁ s.heap l xs) (r2:IsS b₂ s.heap m ys) (ex:xs[p]?=some x) (ey:ys[q]?=some y)
  (kQ:∀g,IsZip g z TI TO (rawInt s.heap.objs.size)->IsPair g TO x y->IsI b₁ g i l (p+1)->IsI b₂ g j m (q+1)->IsPair g s.heap.objs.size x y->g.objs.size=s.heap.objs.size+1 ->
   (∀c o,c≠z->c≠TO->c≠i->c≠j->s.heap.get? c=some o->g.get? c=some o)->Q (some (.ref s.heap.objs.size)) { s with heap:=g }) :
  wpAny (model prog w) A (pyNext (.ref z)) Q E s:=by
 have ty:s.TypeIs (.ref z) "zip":=⟨_,qz,rfl⟩
 have Z:ZS b₁ b₂ s.heap s.heap z TI TO i j l m xs ys .none p q a b:=⟨qz,qI,qO,p1,p2,r1,r2,fun _ _ _ _ _ _ e=>e,rfl⟩
 refine zV (kO (qC (name:=Str.ofString "__next__") ty vV (qV vV ty F.entry_zip_next (zipN hn D Z ?_ ?_) (F.args_zip_next_1 _))))
 ·intro x' y' g g' hx hy Y ez t
  rw[ex] at hx;rw[ey] at hy;cases hx;cases hy
  rw[Y.sz] at ez ⊢
  have lt:=zY Y.zo
  have up:∀c o,c≠z->g.get? c=some o->g'.get? c=some o:=fun c o n e=>t.extBut _ _ n (zU _ e)
  refine zW (kQ g' ez (up _ _ D.TOz Y.to) (Y.wi.at fun o e=>up _ _ D.i1z e) (Y.wj.at fun o e=>up _ _ D.i2z e) ?_ (by rw[t.1,xJ,Y.sz]) fun c o n1 n2 n3 n4 e=>up c o n1 (Y.kp c o n1 n2 n3 n4 e))
  rw[<- Y.sz]
  exact t.extBut _ _ (jI lt) (zX _ rfl)
 ·intro no
  rw[ex,ey] at no
  rcases no with no|no<;>cases no
theorem nextZE(hn:A.handled=none)(D:ZipApart z TI TO i j l m)
  (qz:IsZip s.heap z TI TO .none) (qI:IsPair s.heap TI (.ref i) (.ref j)) (qO:IsPair s.heap TO a b)
  (p1:IsI b₁ s.heap i l p) (p2:IsI b₂ s.heap j m q) (r1:IsS b₁ s.heap l xs) (r2:IsS b₂ s.heap m ys) (ends:xs[p]?=none\/ys[q]?=none)
  (kQ:∀g,(∀c o,c≠z->c≠TO->c≠i->c≠j->s.heap.get? c=some o->g.get? c=some o)->Q none { s with heap:=g }):wpAny (model prog w) A (pyNext (.ref z)) Q E s:=by
 have ty:s.TypeIs (.ref z) "zip":=⟨_,qz,rfl⟩
 have Z:ZS b₁ b₂ s.heap s.heap z TI TO i j l m xs ys .none p q a b:=⟨qz,qI,qO,p1,p2,r1,r2,fun _ _ _ _ _ _ e=>e,rfl⟩
 refine zV (kO (qC (name:=Str.ofString "__next__") ty vV (qV vV ty F.entry_zip_next (zipN hn D Z ?_ ?_) (F.args_zip_next_1 _))))
 ·intro x y g g' hx hy
  rw[hx,hy] at ends
  rcases ends with no|no<;>cases no
 ·rintro _ g e kp ⟨o,ho,ht⟩
  exact zV (wpAny_isInstance (T:="StopIteration") (b:=true) ⟨o,ho,ht⟩ isSubtype_stop (zW (kQ _ kp)))
end
abbrev itO(b:Bool)(l:Addr):Obj:={ cls:=.type (if b then "tuple_iterator" else "list_iterator"),data:=.fields #[.ref l,.int 0 0] }
abbrev z1(b:Bool)(h:Heap)(l:Addr):Heap:=h.push (itO b l)
abbrev z2(b c:Bool)(h:Heap)(l m:Addr):Heap:=(z1 b h l).push (itO c m)
abbrev z3(b c:Bool)(h:Heap)(l m:Addr):Heap:=(z2 b c h l m).push { cls:=.type "tuple",data:=.seq #[.ref h.objs.size,.ref (z1 b h l).objs.size] }
abbrev z4(b c:Bool)(h:Heap)(l m:Addr):Heap:=(z3 b c h l m).push { cls:=.type "tuple",data:=.seq #[.none,.none] }
abbrev z5(b c:Bool)(h:Heap)(l m:Addr):Heap:=(z4 b c h l m).push { cls:=.type "zip",data:=.fields #[.none,.bool false,.bool false,.ref (z2 b c h l m).objs.size,.ref (z3 b c h l m).objs.size] }
theorem IsS.push(x:IsS b h l xs)(o:Obj):IsS b (h.push o) l xs:=x.at fun o' e=>zU _ e
theorem new_zip(b c:Bool)(l m:Addr)(xs ys:Array Value):Meets (Builtin.«zip.__new__» ⟨[.type "zip",.ref l,.ref m],[]⟩) (fun _ R s=>IsS b s.heap l xs/\IsS c s.heap m ys/\R (.ok (.ret (.ref (z4 b c s.heap l m).objs.size))) { s with heap:=z5 b c s.heap l m }) :=
 .of_wp fun prog w A R s h=>by
  obtain⟨hp,g,d,tk,os⟩:=s;obtain⟨q1,q2,h⟩:=h
  have hsub:=sub_zip
  cases b<;>cases c
  ·have L1:Heap.IsList (Shared.heap ⟨hp,g,d,tk,os⟩) l xs:=q1
   have L2:Heap.IsList (Shared.heap ⟨hp.push { cls:=.type "list_iterator",data:=.fields #[.ref l,.int 0 0] },g,d,tk,os⟩) m ys:=IsS.push (b:=false) q2 _
   wp_walk using qK L1,qK L2
   exact⟨_,rfl,h⟩
  ·have L1:Heap.IsList (Shared.heap ⟨hp,g,d,tk,os⟩) l xs:=q1
   have L2:Heap.IsTuple (Shared.heap ⟨hp.push { cls:=.type "list_iterator",data:=.fields #[.ref l,.int 0 0] },g,d,tk,os⟩) m ys:=IsS.push (b:=true) q2 _
   wp_walk using qK L1,xR L2
   exact⟨_,rfl,h⟩
  ·have L1:Heap.IsTuple (Shared.heap ⟨hp,g,d,tk,os⟩) l xs:=q1
   have L2:Heap.IsList (Shared.heap ⟨hp.push { cls:=.type "tuple_iterator",data:=.fields #[.ref l,.int 0 0] },g,d,tk,os⟩) m ys:=IsS.push (b:=false) q2 _
   wp_walk using xR L1,qK L2
   exact⟨_,rfl,h⟩
  ·have L1:Heap.IsTuple (Shared.heap ⟨hp,g,d,tk,os⟩) l xs:=q1
   have L2:Heap.IsTuple (Shared.heap ⟨hp.push { cls:=.type "tuple_iterator",data:=.fields #[.ref l,.int 0 0] },g,d,tk,os⟩) m ys:=IsS.push (b:=true) q2 _
   wp_walk using xR L1,xR L2
   exact⟨_,rfl,h⟩
section
theorem isI_new(e:h.get? it=some (itO b l)):IsI b h it l 0:=by
 cases b
 ·exact⟨_,e,rfl,rfl⟩
 ·exact⟨_,e,rfl,rfl⟩
theorem call_zip(q1:IsS b s.heap l xs)(q2:IsS c s.heap m ys)
  (h:∀g,IsZip g (s.heap.objs.size+4) (s.heap.objs.size+2) (s.heap.objs.size+3) .none->IsPair g (s.heap.objs.size+2) (.ref s.heap.objs.size) (.ref (s.heap.objs.size+1))->IsPair g (s.heap.objs.size+3) .none .none ->
   IsI b g s.heap.objs.size l 0->IsI c g (s.heap.objs.size+1) m 0->(∀a o,s.heap.get? a=some o->g.get? a=some o)->Q (.ref (s.heap.objs.size+4)) { s with heap:=g }) :
  wpAny (model prog w) A (call (.type "zip") [.ref l,.ref m]) Q E s:=by
 refine callType_new F.called_zip (by decide) (F.typeCall_zip_2 _ _) (F.newCall_zip_2 _ _) (fun obj=>F.args_object_init_3 obj _ _) F.entry_zip_new (new_zip b c l m xs ys) ⟨q1,q2,?_⟩
 have n1:(z1 b s.heap l).objs.size=s.heap.objs.size+1:=xJ ..
 have n2:(z2 b c s.heap l m).objs.size=s.heap.objs.size+2:=by rw[xJ,n1]
 have n3:(z3 b c s.heap l m).objs.size=s.heap.objs.size+3:=by rw[xJ,n2]
 have n4:(z4 b c s.heap l m).objs.size=s.heap.objs.size+4:=by rw[xJ,n3]
 have g5:(z5 b c s.heap l m).get? (z4 b c s.heap l m).objs.size=some _:=zX _ rfl
 have g4:(z5 b c s.heap l m).get? (z3 b c s.heap l m).objs.size=some _:=zU _ (zX _ rfl)
 have g3:(z5 b c s.heap l m).get? (z2 b c s.heap l m).objs.size=some _:=zU _ (zU _ (zX _ rfl))
 have g2:(z5 b c s.heap l m).get? (z1 b s.heap l).objs.size=some (itO c m):=zU _ (zU _ (zU _ (zX _ rfl)))
 have g1:(z5 b c s.heap l m).get? s.heap.objs.size=some (itO b l):=zU _ (zU _ (zU _ (zU _ (zX _ rfl))))
 show _/\_
 rw[n2,n3,n4] at g5
 rw[n1,n2] at g3
 rw[n3] at g4
 rw[n1] at g2
 rw[n4]
 exact⟨⟨_,g5,rfl⟩,h _ g5 g3 g4 (isI_new g1) (isI_new g2) fun a o x=>zU _ (zU _ (zU _ (zU _ (zU _ x))))⟩
end
end Zp
namespace Dl
open PySem L2 PySem.Spec PyProof.Rows Zp
def qk(K:W.Frag)(b:Bool)(a:Addr)(H:Hp)(xs:List V):Prop:=match b with|true=>gK K H a xs|false=>gn K H a xs
section
theorem qk.src(I:Inv X pins σ H s)(h:qk X.K b a H xs):∃its:List Value,aF xs its/\IsS b s.heap a its.toArray/\xs.length<=sizeLine:=by
 cases b
 ·obtain⟨its,rv,pl,hz⟩:=I.list (show gn X.K H a xs from h);exact⟨its,rv,pl.isList,hz⟩
 ·obtain⟨its,rv,pl,hz⟩:=I.tuple (show gK X.K H a xs from h);exact⟨its,rv,pl,hz⟩
theorem qk.ne(I:Inv X pins σ H s)(hf:cx X pins H c)(h:qk X.K b a H xs):a≠c:=by
 cases b
 ·exact I0 I hf h
 ·exact HR I hf h
theorem qk.inj(I:Inv X pins σ H s)(h:qk X.K b a H xs)(h':qk X.K b a H ys):xs=ys:=by
 cases b
 ·exact I.list_inj h h'
 ·exact I.tuple_inj h h'
theorem qk.mono{K:W.Frag}(e:aQ H H')(h:qk K b a H xs):qk K b a H' xs:=by
 cases b
 ·exact e.seq h
 ·exact aA e h
end
theorem Bq{K:W.Frag}(b c:Bool)(l1 l2 z TI TO i1 i2:Addr)(Z:Nk z TI TO i1 i2) :
  Turn P w K (.Tuple elts k pos) (Mg (qk K b l1) (qk K c l2)) [z,TI,TO,i1,i2] z (fun i h=>IsZip h z TI TO .none/\IsPair h TI (.ref i1) (.ref i2)/\(∃a b,IsPair h TO a b)/\IsI b h i1 l1 i/\IsI c h i2 l2 i) where
 mem:=by simp
 obj:=fun i h st d hd=>by
  obtain⟨hz,hTI,⟨a,b',hTO⟩,p1,p2⟩:=st
  simp only[zQ,yF,xU] at hd
  rcases hd with rfl|rfl|rfl|rfl|rfl
  ·exact⟨_,hz,fun v q=>by have q:Data.fields _=Data.cell v:=q;cases q⟩
  ·exact⟨_,hTI,fun v q=>by have q:Data.seq _ _=Data.cell v:=q;cases q⟩
  ·exact⟨_,hTO,fun v q=>by have q:Data.seq _ _=Data.cell v:=q;cases q⟩
  ·exact p1.obj
  ·exact p2.obj
 keep:=fun i h h' st kk=>by
  obtain⟨hz,hTI,⟨a,b',hTO⟩,h1,h2⟩:=st
  exact⟨kk z (by simp) _ hz,kk TI (by simp) _ hTI,⟨a,b',kk TO (by simp) _ hTO⟩,h1.at fun o q=>kk i1 (by simp) o q,h2.at fun o q=>kk i2 (by simp) o q⟩
 item:=by
  intro X hP hw hK hc i pins s σ H E I hf st hg
  subst hP hw hK
  obtain⟨xs,ys,x,y,hq1,hq2,hx,hy⟩:=hg
  obtain⟨its1,rv1,p1,hz1⟩:=hq1.src I
  obtain⟨its2,rv2,p2,hz2⟩:=hq2.src I
  obtain⟨u1,hu1,ru1⟩:=rv1.get hx
  obtain⟨u2,hu2,ru2⟩:=rv2.get hy
  have D:ZipApart z TI TO i1 i2 l1 l2:=⟨Z.a1,Z.a2,Z.a3,Z.a4,Z.a5,Z.a6,Z.a7,Z.a8,Z.a9,Z.a0,hq1.ne I (hf z (by simp)),hq1.ne I (hf TO (by simp)),hq1.ne I (hf i1 (by simp)),hq1.ne I (hf i2 (by simp)),hq2.ne I (hf z (by simp)),hq2.ne I (hf TO (by simp)),hq2.ne I (hf i1 (by simp)),hq2.ne I (hf i2 (by simp))⟩
  obtain⟨hz,hTI,⟨a,b',hTO⟩,h1,h2⟩:=st
  refine nextZ (I.ok.hd hc) D hz hTI hTO h1 h2 p1 p2 (x:=u1) (y:=u2) (by simpa using hu1) (by simpa using hu2) fun g b1 b2 b3 b4 b5 b6 hk=>⟨.ref s.heap.objs.size,rfl,?_⟩
  have lt:∀ {c:Addr}{o:Obj},s.heap.get? c=some o->s.heap.objs.size≠c:=fun e=>jI (zY e)
  refine wpAny_letOwnedTupleGo_zip (s:={ s with heap:=g }) b1 fun g' hz' hs'=>?_
  have b5':g'.get? s.heap.objs.size=some { cls:=.type "tuple",data:=.seq #[u1,u2] }:=hs'.extBut _ _ (lt hz) b5
  have ht:n5 g' s.heap.objs.size (List.toArray [u1,u2]):=⟨⟨_,b5',rfl,_,rfl⟩,_,b5',rfl⟩
  refine⟨.ref s.heap.objs.size,_,uw (ch:=[z,TI,TO,i1,i2]) (xs:=[x,y]) (t':=s.toks) I hf (fun b o hb q=>?_) (yM _) ht (.cons ru1 (.cons ru2 .nil)) (by show 2<=sizeLine;decide),rfl,
   ⟨s.heap.objs.size,x,y,rfl,I.fresh,rfl,fun zs hzs=>by rw[hzs.inj I hq1];exact hx,fun zs hzs=>by rw[hzs.inj I hq2];exact hy⟩,
   ⟨hz',hs'.extBut _ _ Z.a1 (hk _ _ D.TIz D.TITO D.TIi1 D.TIi2 hTI),⟨_,_,hs'.extBut _ _ Z.a2 b2⟩,b3.extBut hs'.extBut Z.a3,b4.extBut hs'.extBut Z.a4⟩,fun b hb=>?_⟩
  ·simp only[zQ,yF,xU,not_or] at hb
   exact hs'.extBut _ _ hb.1 (hk b o hb.1 hb.2.2.1 hb.2.2.2.1 hb.2.2.2.2 q)
  ·have:s.heap.objs.size≠b:=by
    simp only[zQ,yF,xU] at hb
    obtain⟨o1,g1,_⟩:=h1.obj
    obtain⟨o2,g2,_⟩:=h2.obj
    rcases hb with rfl|rfl|rfl|rfl|rfl
    ·exact lt hz
    ·exact lt hTI
    ·exact lt hTO
    ·exact lt g1
    ·exact lt g2
   rw[ay (jM this)]
   exact (hf b hb).1
 done:=by
  intro X hP hw hK hc i pins s σ H E I hf st hg
  subst hP hw hK
  obtain⟨xs,ys,hq1,hq2,hx⟩:=hg
  obtain⟨its1,rv1,p1,hz1⟩:=hq1.src I
  obtain⟨its2,rv2,p2,hz2⟩:=hq2.src I
  have D:ZipApart z TI TO i1 i2 l1 l2:=⟨Z.a1,Z.a2,Z.a3,Z.a4,Z.a5,Z.a6,Z.a7,Z.a8,Z.a9,Z.a0,hq1.ne I (hf z (by simp)),hq1.ne I (hf TO (by simp)),hq1.ne I (hf i1 (by simp)),hq1.ne I (hf i2 (by simp)),hq2.ne I (hf z (by simp)),hq2.ne I (hf TO (by simp)),hq2.ne I (hf i1 (by simp)),hq2.ne I (hf i2 (by simp))⟩
  obtain⟨hz,hTI,⟨a,b',hTO⟩,h1,h2⟩:=st
  have e1:=rv1.length
  have e2:=rv2.length
  refine nextZE (I.ok.hd hc) D hz hTI hTO h1 h2 p1 p2 (hx.elim (fun q=>.inl (by simp;omega)) fun q=>.inr (by simp;omega)) fun g hk=>⟨rfl,?_⟩
  refine AY (ch:=[z,TI,TO,i1,i2]) (t':=s.toks) I hf fun b o hb q=>?_
  simp only[zQ,yF,xU,not_or] at hb
  exact hk b o hb.1 hb.2.2.1 hb.2.2.2.1 hb.2.2.2.2 q
 self:=fun _ _ _ _ _ st h=>wpAny_pyIter_zip st.1 h
section
theorem Gq(B:nR X "zip" (.type "zip"))(ha:PA X [l,l'] tl)(hs:starEach [l,l'] X.env=(false,eval l X.env)::starEach [l'] X.env)(hs2:(backTo pos (starEach [l'] X.env)).any (·.1)=false) :
  PI X (.Tuple elts k tp) (.Call (.Name "zip" p) [l,l'] [] pos) (fun σ H R=>tl σ H fun vs H1=>∃a b,vs=[.ref a,.ref b]/\∃c d xs ys,qk X.K c a H1 xs/\qk X.K d b H1 ys/\R (Mg (qk X.K c a) (qk X.K d b)) H1):=by
 intro pins s σ H R I h
 refine Call_ (k7 I B.gl B.mg B.bt (qS (bW (ha pos pins s σ H _ I h) fun us s1 ⟨vs,H1,I1,r1,q1⟩=>?_) hs hs2))
 obtain⟨a,b,e,c,d,xs,ys,hq1,hq2,q⟩:=q1
 subst e
 obtain⟨u,u',rfl,rx,ry⟩:=vals2 r1
 cases rx
 cases ry
 obtain⟨its,rv,pl,hz⟩:=hq1.src I1
 obtain⟨its',rv',pl',hz'⟩:=hq2.src I1
 refine call_zip pl pl' fun g b1 b2 b3 b4 b5 kp=>wpAny_pyIter_zip (s:={ s1 with heap:=g }) b1 ?_
 refine⟨_,_,_,_,H1,rfl,I1.kept (t':=s1.toks) kp,Bq c d a b (s1.heap.objs.size+4) (s1.heap.objs.size+2) (s1.heap.objs.size+3) s1.heap.objs.size (s1.heap.objs.size+1) ?_,⟨b1,b2,⟨_,_,b3⟩,b4,b5⟩,fun c hc=>?_,q⟩
 ·constructor<;>(intro z;have z:(_:Nat)=_:=z;omega)
 ·have hge:s1.heap.objs.size<=c:=by
   simp only[zQ,yF,xU] at hc
   rcases hc with rfl|rfl|rfl|rfl|rfl
   ·exact jU _ _
   ·exact jU _ _
   ·exact jU _ _
   ·exact yM _
   ·exact jU _ _
  exact I1.fpOk hge (I1.hok.fresh hge)
def KC:List D->Option (List D):=fun ds=>match ds with
 | [x,y]=>(fN x).bind fun xs=>(fN y).map fun ys=>g9 xs ys
 | _=>none
theorem xp{K:W.Frag}(h:fN d=some xs)(r:Rep K HF d v):∃b a vs,v=.ref a/\qk K b a HF vs/\aq K HF xs vs:=by
 rcases ki h with rfl|rfl
 ·simp only[Rep] at r
  obtain⟨a,vs,rfl,q,rr⟩:=r
  exact⟨true,a,vs,rfl,q,rr⟩
 ·simp only[Rep] at r
  obtain⟨a,vs,rfl,q,rr⟩:=r
  exact⟨false,a,vs,rfl,q,rr⟩
def fx(fs:Env->Option (List D)):Env->Option (List D):=fun ρ=>(fs ρ).bind KC
theorem GU(B:nR X "zip" (.type "zip"))(hs:starEach [l,l'] X.env=(false,eval l X.env)::starEach [l'] X.env)(hs2:(backTo pos (starEach [l'] X.env)).any (·.1)=false)(h:DA X [l,l'] fs) :
  DI X (.Tuple elts k tp) (.Call (.Name "zip" p) [l,l'] [] pos) (fx fs) :=
 r9 (Gq B h hs hs2) fun σ H R ⟨HF,ρ,ds,sm,eo,hf,q⟩=>by
  obtain⟨x,hx,hf⟩:=bs hf
  refine⟨HF,ρ,_,sm,eo,hx,fun vs H1 HF1 g1 r1=>?_⟩
  unfold KC at hf
  split at hf
  ·obtain⟨xs,h1,hf⟩:=bs hf
   obtain⟨ys,h2,rfl⟩:=ag hf
   obtain⟨v,r',rfl,a,b⟩:=r1.cons_inv
   obtain⟨v',r'',rfl,a',b'⟩:=b.cons_inv
   rw[b'.nil_inv]
   obtain⟨c,ad,us,rfl,hq,rr⟩:=xp h1 a
   obtain⟨c',ad',us',rfl,hq',rr'⟩:=xp h2 a'
   exact⟨ad,ad',rfl,c,c',us,us',hq.mono g1.fh,hq'.mono g1.fh,q _ H1 HF1 g1 (Cu hq (fun _ _ s h=>h.mono s) hq' (fun _ _ s h=>h.mono s) rr rr')⟩
  ·cases hf
end
end Dl
namespace Zp
open PySem PyProof.Rows
theorem IsI.ne(x:IsI b h it l k)(y:IsS b h l xs):l≠it:=by
 rintro rfl
 cases b
 ·obtain⟨o,e,c,d⟩:=(show h.IsListIter l l k from x)
  obtain⟨o',e',r⟩:=(show h.IsList l xs from y)
  rw[e] at e';cases e'
  simp_all
 ·obtain⟨o,e,c,d⟩:=(show h.IsTupleIter l l k from x)
  obtain⟨o',e',r⟩:=(show h.IsTuple l xs from y)
  rw[e] at e';cases e'
  simp_all
section
theorem drawsI(hn:A.handled=none)(b:Bool)(it l:Addr)(xs:Array Value):Draws prog w A it [it,l] xs.size (fun i x=>xs[i]?=some x) (fun i h=>IsI b h it l i/\IsS b h l xs) where
 live:=fun i h st=>let ⟨o,e,_⟩:=st.1.obj;⟨o,e⟩
 frame:=fun i h h' st k=>⟨st.1.at (k it (by simp)),st.2.at (k l (by simp))⟩
 item:=fun i s Q E hi st hQ=>nxt st.1 st.2 (v:=xs[i]) (by simp[hi]) fun g e t=>hQ _ g s.toks (by simp[hi]) ⟨e,st.2.extBut t.extBut (st.1.ne st.2)⟩ t
 done:=fun s Q E st hE=>nxtE hn st.1 st.2 (by simp) hE
theorem nextE{b₁:Bool}{e it l:Addr}{i:Nat}{items:Array Value}{x old:Value}{Q:Option Value->Shared->Prop}(hn:A.handled=none)
  (qe:IsEnum s.heap e it i old) (qi:IsI b₁ s.heap it l i) (ql:IsS b₁ s.heap l items) (ex:items[i]?=some x) (nei:e≠it)
  (kQ:∀g tk,IsEnumOut g e it ((i:Int)+1) x s.heap.objs.size->IsI b₁ g it l (i+1)->g.get? s.heap.objs.size=some { cls:=.type "tuple",data:=.seq #[.int i tk,x] } ->
   g.objs.size=s.heap.objs.size+1->(∀c o,c≠e->c≠it->s.heap.get? c=some o->g.get? c=some o)->Q (some (.ref s.heap.objs.size)) { s with heap:=g,toks:=tk+1 }) :
  wpAny (model prog w) A (pyNext (.ref e)) Q E s:=by
 have nel:e≠l:=by
  rintro rfl
  cases b₁
  ·obtain⟨o,e1,r⟩:=(show s.heap.IsList e items from ql)
   rw[qe] at e1;cases e1;simp at r
  ·obtain⟨o,e1,r⟩:=(show s.heap.IsTuple e items from ql)
   rw[qe] at e1;cases e1;simp at r
 have D:Draws prog w A.in1 it [it,l] items.size (fun i x=>items[i]?=some x) (fun i h=>IsI b₁ h it l i/\IsS b₁ h l items):=drawsI (A:=A.in1) hn b₁ it l items
 refine wpAny_pyNext_enum_itemD D qe ⟨qi,ql⟩ (Array.getElem?_eq_some_iff.mp ex).1 nei (by simp[nei,nel]) fun y g tk hy a b c d k=>?_
 rw[ex] at hy;cases hy
 exact kQ g tk a b.1 c d k
end
end Zp
namespace Dl
open PySem L2 PySem.Spec PyProof.Rows Zp
theorem ox{K:W.Frag}(b:Bool)(a it e:Addr)(hei:e≠it):Turn P w K (.Tuple elts k pos) (Mv (qk K b a)) [e,it] e (fun i h=>(∃old,IsEnum h e it i old)/\IsI b h it a i) where
 mem:=by simp
 obj:=fun i h st c hc=>by
  obtain⟨⟨old,he⟩,hi⟩:=st
  rcases List.mem_cons.mp hc with z|z
  ·subst z;exact⟨_,he,fun v q=>by have q:Data.fields _=Data.cell v:=q;cases q⟩
  ·rw[List.mem_singleton.mp z];exact hi.obj
 keep:=fun i h h' st kk=>⟨let ⟨old,he⟩:=st.1;⟨old,kk e (by simp) _ he⟩,st.2.at fun o q=>kk it (by simp) o q⟩
 item:=by
  intro X hP hw hK hc i pins s σ H E I hf st hg
  subst hP hw hK
  obtain⟨xs,x,hq,hx⟩:=hg
  obtain⟨its,rv,p,hz⟩:=hq.src I
  obtain⟨u,hu,ru⟩:=rv.get hx
  obtain⟨⟨old,he⟩,hi⟩:=st
  refine nextE (I.ok.hd hc) he hi p (x:=u) (by simpa using hu) hei fun g tk b1 b2 b3 b4 hk=>⟨.ref s.heap.objs.size,rfl,?_⟩
  have lt:∀ {c:Addr}{o:Obj},s.heap.get? c=some o->s.heap.objs.size≠c:=fun e=>jI (zY e)
  have hte:s.heap.objs.size≠e:=lt he
  refine wpAny_letOwnedTupleGo_enum (s:={ s with heap:=g,toks:=tk+1 }) b1 fun g' he' hs'=>?_
  have b3':g'.get? s.heap.objs.size=some { cls:=.type "tuple",data:=.seq #[.int i tk,u] }:=hs'.extBut _ _ hte b3
  have ht:n5 g' s.heap.objs.size (List.toArray [Value.int (i:Nat) tk,u]):=⟨⟨_,b3',rfl,_,rfl⟩,_,b3',rfl⟩
  refine⟨.ref s.heap.objs.size,_,uw (ch:=[e,it]) (xs:=[.int (i:Nat),x]) (t':=tk+1) I hf (fun c o hb q=>?_) (yM _) ht (.cons ⟨_,rfl⟩ (.cons ru .nil)) (by show 2<=sizeLine;decide),rfl,
   ⟨s.heap.objs.size,x,rfl,I.fresh,rfl,fun zs hzs=>by rw[hzs.inj I hq];exact hx⟩,⟨⟨_,he'⟩,b2.extBut hs'.extBut (jM hei)⟩,fun c hc'=>?_⟩
  ·simp only[zQ,yF,xU,not_or] at hb
   exact hs'.extBut _ _ hb.1 (hk c o hb.1 hb.2 q)
  ·have:s.heap.objs.size≠c:=by
    simp only[zQ,yF,xU] at hc'
    obtain⟨o1,g1,_⟩:=hi.obj
    rcases hc' with rfl|rfl
    ·exact lt he
    ·exact lt g1
   rw[ay (jM this)]
   exact (hf c hc').1
 done:=by
  intro X hP hw hK hc i pins s σ H E I hf st hg
  subst hP hw hK
  obtain⟨xs,hq,hx⟩:=hg
  obtain⟨its,rv,p,hz⟩:=hq.src I
  have hh:X.A.in1.handled=none:=I.ok.hd hc
  have hl:=rv.length
  obtain⟨⟨old,he⟩,hi⟩:=st
  have hT:s.TypeIs (.ref e) "enumerate":=⟨_,he,rfl⟩
  unfold pyNext
  refine zV (kO (qC (name:=Str.ofString "__next__") hT F.slot_enumerate_next (qV F.slot_enumerate_next hT F.entry_enumerate_next ?_ (F.args_enumerate_next_1 _))))
  refine zV (m:=field (.ref e) 2) (qT he rfl (x:=.ref it) rfl ?_)
  refine zV (nxtE hh hi p (by simp;omega) fun h1 x k1 hx1=>?_)
  obtain⟨o,ho,hc1⟩:=hx1
  refine zV (wpAny_isInstance (T:="StopIteration") (b:=true) ⟨o,ho,hc1⟩ isSubtype_stop (zW ⟨rfl,?_⟩))
  obtain⟨f0,f1,f2,f3,f4,f5⟩:=hf it (by simp)
  exact I.turned (t':=s.toks) (fun b o hb q=>k1 b o hb q) f0 f1 f3 f4 f5
 self:=fun _ _ _ _ _ st h=>let ⟨_,he⟩:=st.1;wQ he h
section
theorem FJ(B:nR X "enumerate" (.type "enumerate"))(ha:PA X [l] tl)(hs:starEach [l] X.env=[(false,eval l X.env)]):PI X (.Tuple elts k tp) (.Call (.Name "enumerate" p) [l] [] pos) (fun σ H R=>tl σ H fun vs H1=>∃a,vs=[.ref a]/\∃b xs,qk X.K b a H1 xs/\R (Mv (qk X.K b a)) H1):=by
 intro pins s σ H R I h
 refine Call_ (k7 I B.gl B.mg B.bt (qS (bW (ha pos pins s σ H _ I h) fun us s1 ⟨vs,H1,I1,r1,q1⟩=>?_) hs rfl))
 obtain⟨a,e,b,xs,hq,q⟩:=q1
 subst e
 obtain⟨u,rfl,rx⟩:=vals1 r1
 cases rx
 have fresh:∀b∈[s1.heap.objs.size+1,s1.heap.objs.size],cx X pins H1 b:=fun b hb=>by
  rcases List.mem_cons.mp hb with z|z
  ·subst z;exact I1.fpOk (Nat.le_succ _) (I1.hok.fresh (Nat.le_succ _))
  ·cases List.mem_singleton.mp z;exact I1.fpOk (yM _) I1.fresh
 obtain⟨its,rv,pl,hz⟩:=hq.src I1
 cases b with
 | false =>
  refine call_enumerate_list pl fun h' he hit hsz kp=>wQ (s:={ s1 with heap:=h' }) he ?_
  exact⟨_,_,_,_,H1,rfl,I1.kept (t':=s1.toks) kp,ox false a s1.heap.objs.size (s1.heap.objs.size+1) (Nat.succ_ne_self _),⟨⟨_,he⟩,hit⟩,fresh,q⟩
 | true =>
  refine En.call_enumT (show s1.heap.IsTuple a its.toArray from pl) fun h' he hit hsz kp=>wQ (s:={ s1 with heap:=h' }) he ?_
  exact⟨_,_,_,_,H1,rfl,I1.kept (t':=s1.toks) kp,ox true a s1.heap.objs.size (s1.heap.objs.size+1) (Nat.succ_ne_self _),⟨⟨_,he⟩,hit⟩,fresh,q⟩
def bz(fs:Env->Option (List D)):Env->Option (List D):=fun ρ=>(fs ρ).bind fun ds=>(d9 ds).map (bu 0)
theorem Gn(B:nR X "enumerate" (.type "enumerate"))(h:DA X [l] fs)(hs:starEach [l] X.env=[(false,eval l X.env)]):DI X (.Tuple elts k tp) (.Call (.Name "enumerate" p) [l] [] pos) (bz fs) :=
 r9 (FJ B h hs) fun σ H R ⟨HF,ρ,ds,sm,eo,hf,q⟩=>by
  obtain⟨x,hx,hf⟩:=bs hf
  obtain⟨es,h1,rfl⟩:=ag hf
  obtain⟨d,h0,h1⟩:=bs h1
  rw[fI h0] at hx
  refine⟨HF,ρ,_,sm,eo,hx,fun vs H1 HF1 g1 r1=>?_⟩
  obtain⟨v,r',rfl,a,b⟩:=r1.cons_inv
  rw[b.nil_inv]
  obtain⟨c,ad,us,rfl,hq,rr⟩:=xp h1 a
  exact⟨ad,rfl,c,us,hq.mono g1.fh,q _ H1 HF1 g1 (AS hq (fun _ _ s h=>h.mono s) rr)⟩
end
end Dl
namespace Srt
open PySem PySem.W PySem.Calls PyProof.Rows L2
theorem cx.at(h:cx X pins H b)(e:H' b=none):cx X pins H' b:=⟨e,h.2⟩
section
theorem upd_inv{g:Array Value->Array Value}(I:Inv X pins σ H s)(f:cx X pins H b):Inv X pins σ H { s with heap:=s.heap.update b (Obj.mapSeq g) }:=by
 obtain⟨f0,f1,f2,f3,f4,f5⟩:=f
 exact I.turned (t':=s.toks) (h':=s.heap.update b (Obj.mapSeq g)) (fun c o hc e=>(xN _ _ (jM hc)).trans e) f0 f1 f3 f4 f5
theorem pin_get(I:Inv X (pins++mO fp h) σ H' s')(hb:b∈fp)(e:h.get? b=some o):s'.heap.get? b=some o/\H' b=none :=
 let q:=I.pin (b,o) (yE _ (yE _ (dD hb e)));⟨q.1,q.2.1⟩
theorem list_sortK(I:Inv X pins σ H s)(ho:s.heap.get? a=some (seqObj "list" vs.toArray n))(fa:cx X pins H a)(h64:vs.length < 64)
  (J:List Value->Hp->Prop) (j0:J [] H)
  (step:∀us v,vs[us.length]?=some v->∀pl s' H',Inv X (pins++pl) σ H' s'->J us H'->wpAny (model X.prog X.w) A (call f [v]) (fun u s''=>∃H'',Inv X (pins++pl) σ H'' s''/\J (us++[u]) H'') (fun _ _=>False) s')
  (fin:∀us H',us.length=vs.length->J us H'->∃ (z:Nat->Int) (κ:SortKind),(2<=vs.length->∀s',Inv X pins σ H' s'->(∀Q':SortKind->Shared->Prop,Q' κ s'->wpAny (model X.prog X.w) A (keyKind' us.toArray) Q' (fun _ _=>False) s') /\
    ∀i j C,i < vs.length->j < vs.length->C (SP.dw z i j) s'->kas_ask X.prog X.w A κ us i j C s') /\
   ∀s' c,Inv X pins σ H' s'->cx X pins H' a->s'.heap.get? a=some (seqObj "list" (outV z vs).toArray c)->P (.done (.ret .none)) s') :
  wpAny (model X.prog X.w) A (ksk_tree a f false) P E s:=by
 have hsl:vs.length<=sizeLine:=by rw[qU];omega
 unfold ksk_tree
 refine zV (vL ho rfl ?_)
 refine zV (kA ho rfl ?_ (by simpa using hsl) (xV _))
 obtain⟨e1,ho1⟩:∃e,(s.heap.update a (Obj.mapSeq fun _=>(#[]:Array Value))).get? a=some (seqObj "list" #[] e):=⟨_,kE ho fun _=>#[]⟩
 have I1:=upd_inv (g:=fun _=>(#[]:Array Value)) I fa
 refine zV (seqEpoch_at ho1 rfl ?_)
 refine zV (wpAny_newTuple ?_ (by simpa using hsl))
 refine zV (kN ?_ (xV _))
 refine xX ?_
 have ho3:(((s.heap.update a (Obj.mapSeq fun _=>(#[]:Array Value))).push (seqObj "tuple" vs.toArray 0)).push (seqObj "list" #[] 0)).get? a=some (seqObj "list" #[] e1):=zU _ (zU _ ho1)
 have hk3:(((s.heap.update a (Obj.mapSeq fun _=>(#[]:Array Value))).push (seqObj "tuple" vs.toArray 0)).push (seqObj "list" #[] 0)).get? ((s.heap.update a (Obj.mapSeq fun _=>(#[]:Array Value))).push (seqObj "tuple" vs.toArray 0)).objs.size=some (seqObj "list" #[] 0):=zX _ rfl
 have I3:=(I1.kept (t':=s.toks) (h':=((s.heap.update a (Obj.mapSeq fun _=>(#[]:Array Value))).push (seqObj "tuple" vs.toArray 0)).push (seqObj "list" #[] 0)) fun b o e=>zU _ (zU _ e))
 have I2:=(I1.kept (t':=s.toks) (h':=(s.heap.update a (Obj.mapSeq fun _=>(#[]:Array Value))).push (seqObj "tuple" vs.toArray 0)) fun b o e=>zU _ e)
 have fk:cx X pins H ((s.heap.update a (Obj.mapSeq fun _=>(#[]:Array Value))).push (seqObj "tuple" vs.toArray 0)).objs.size:=I2.fpOk (yM _) (I2.hok.fresh (yM _))
 have hka:((s.heap.update a (Obj.mapSeq fun _=>(#[]:Array Value))).push (seqObj "tuple" vs.toArray 0)).objs.size≠a:=by
  have hlt:=zY ho1
  rw[xJ]
  exact jI (jN hlt)
 show wpAny _ A _ P E { s with heap:=((s.heap.update a (Obj.mapSeq fun _=>(#[]:Array Value))).push (seqObj "tuple" vs.toArray 0)).push (seqObj "list" #[] 0) }
 generalize ((s.heap.update a (Obj.mapSeq fun _=>(#[]:Array Value))).push (seqObj "tuple" vs.toArray 0)).objs.size=kS at hk3 fk hka
 generalize e3:({ s with heap:=((s.heap.update a (Obj.mapSeq fun _=>(#[]:Array Value))).push (seqObj "tuple" vs.toArray 0)).push (seqObj "list" #[] 0) }:Shared)=s3 at I3
 have ho3:s3.heap.get? a=some (seqObj "list" #[] e1):=by rw[<- e3];exact ho3
 have hk3:s3.heap.get? kS=some (seqObj "list" #[] 0):=by rw[<- e3];exact hk3
 clear e3 I2 I1 ho1 ho
 unfold ksk_rest
 refine zV (wD ?_)
 first
  | rw[List.forIn_toArray]
  | (rw[<- Array.forIn_toList];simp only[List.toList_toArray])
  | rw[<- Array.forIn_toList]
 refine zV (ksk_fold (fun i s'=>∃us H' e,us.length=i/\Inv X pins σ H' s'/\H' a=none/\H' kS=none/\s'.heap.get? a=some (seqObj "list" #[] e1)/\s'.heap.get? kS=some (seqObj "list" us.toArray e)/\J us H') vs 0 s3
  ⟨[],H,0,rfl,I3,fa.1,fk.1,ho3,hk3,j0⟩ ?step ?done)
 case step =>
  rintro j x s' hx ⟨us,H',e,hu,I',ha',hk',hoa,hok,j'⟩
  have hu:us.length=j:=by omega
  have hj:j < vs.length:=(List.getElem?_eq_some_iff.mp hx).1
  have Ip:=I'.pinned (fp:=[a,kS]) (fun b hb=>by
   rcases List.mem_cons.mp hb with rfl|hb
   ·exact cx.at fa ha'
   ·rw[List.mem_singleton.mp hb];exact cx.at fk hk') (fun b hb=>by
   rcases List.mem_cons.mp hb with rfl|hb
   ·exact⟨_,hoa,fun v z=>by cases z⟩
   ·rw[List.mem_singleton.mp hb];exact⟨_,hok,fun v z=>by cases z⟩)
  refine zV (kO (xA (step us x (by rw[hu];exact hx) _ s' H' Ip j') (fun u s'' he=>?_) fun _ _ hF=>hF.elim))
  obtain⟨H'',I'',j''⟩:=he
  try dsimp only
  obtain⟨ga,na⟩:=pin_get I'' (b:=a) zE hoa
  obtain⟨gk,nk⟩:=pin_get I'' (b:=kS) (zC _ zE) hok
  have I4:=I''.unpinned
  obtain⟨c2,hc2⟩:∃c2,(s''.heap.update kS (Obj.mapSeq (·.push u))).get? kS=some (seqObj "list" (us.toArray.push u) c2):=⟨_,kE gk (·.push u)⟩
  refine zV (kA gk rfl ?_ (by rw[zH,qU];omega) (yD (Nat.le_of_eq (Array.size_push ..)) (by rw[zH,qU];omega)))
  refine zW ⟨rfl,us++[u],H'',c2,by rw[zN,hu];simp,upd_inv I4 (cx.at fk nk),na,nk,(xN _ _ hka).trans ga,?_,j''⟩
  rw[hc2]
  simp
 case done =>
  rintro s' ⟨us,H',e,hu,I',ha',hk',hoa,hok,j'⟩
  have hu:us.length=vs.length:=by omega
  try dsimp only
  refine zV (vL hok rfl ?_)
  obtain⟨z,κ,hz,hP⟩:=fin us H' hu j'
  have last:∀st':SortSt,(arrOf st').map (·.2)=(outV z vs).toArray->failedOf st'=none->wpAny (model X.prog X.w) A (ksk_tail a false e1 (.ref kS) st') P E s':=fun st' h1 h2=>by
   unfold ksk_tail
   try dsimp only
   rw[h1,h2]
   have na1:(s'.heap.update kS (Obj.mapSeq fun _=>(#[]:Array Value))).get? a=some (seqObj "list" #[] e1):=(xN _ _ hka).trans hoa
   have I5:=upd_inv (g:=fun _=>(#[]:Array Value)) I' (cx.at fk hk')
   have I6:=upd_inv (s:={ s' with heap:=s'.heap.update kS (Obj.mapSeq fun _=>(#[]:Array Value)) }) (g:=fun _=>(outV z vs).toArray) I5 (cx.at fa ha')
   refine zV (kA hok rfl ?_ (by rw[zH,qU];omega) (xV _))
   refine zV (wpAny_letGo ?_)
   refine zV (seqEpoch_at na1 rfl ?_)
   refine zV (kA na1 rfl ?_ (xV _) (by
    simp only[yO,qP]
    show (outV z vs).toArray.size<=_;rw[zH,outV_len];omega))
   obtain⟨c,hc⟩:∃c,((s'.heap.update kS (Obj.mapSeq fun _=>(#[]:Array Value))).update a (Obj.mapSeq fun _=>(outV z vs).toArray)).get? a=some (seqObj "list" (outV z vs).toArray c):=⟨_,kE na1 fun _=>(outV z vs).toArray⟩
   simp only[bne_self_eq_false,yO,qP]
   exact zW (hP _ c I6 (cx.at fa ha') hc)
  unfold ksk_end
  try dsimp only
  simp only[yO,qP]
  by_cases h2:vs.toArray.size < 2
  ·rw[yL h2,yL h2]
   refine zV (zW ?_)
   rw[StateT.run_pure]
   refine zV (zW (last _ ?_ rfl))
   have h2':vs.length < 2:=by simpa using h2
   unfold outV
   rw[yL h2']
   show ((us.toArray.zip vs.toArray).map (·.2))=vs.toArray
   apply Array.toList_inj.mp
   simp only[Array.toList_map,Array.toList_zip]
   exact List.map_snd_zip (by rw[hu];exact yM _)
  ·rw[yN h2,yN h2]
   have h2':2<=vs.length:=by
    have:¬ vs.length < 2:=by simpa using h2
    omega
   obtain⟨hk,hlt⟩:=hz h2' s' I'
   refine zV (xA (hk (fun κ' s''=>κ'=κ/\s''=s') ⟨rfl,rfl⟩) (fun κ' s'' hs=>?_) fun _ _ x=>x.elim)
   obtain⟨rfl,rfl⟩:=hs
   refine zV (xA (kat_run (Q:=fun st' s2=>s2=s''/\(arrOf st').map (·.2)=(outV z vs).toArray/\failedOf st'=none) (G:=fun p s2=>s2=s''/\p=SP.run (SP.dw z) (kas_sort vs.length))
    hu h2' h64 (fun p st' s2 a1 a2 a3 a4=>⟨a4.1,?_,a3⟩) (SP.wp_run hlt (kas_sort vs.length) (SP.Co (by omega)) ⟨rfl,rfl⟩)) ?_ fun _ _ e=>e)
   ·rw[kat_snds hu a2,a4.2]
    unfold outV
    rw[yN (by omega)]
   ·rintro⟨⟨⟩,st'⟩ s2 ⟨hs,h4,h5⟩
    subst hs
    exact last st' h4 h5
theorem sortedK{l:Value}{f:Addr}{Q:Value->Shared->Prop}(I:Inv X pins σ H s)(h64:vs.length < 64)
  (hcol:∀ {Q':List Value->Shared->Prop},(∀h':Heap,(∀b o,s.heap.get? b=some o->h'.get? b=some o)->Q' vs { s with heap:=h' })->wpAny (model X.prog X.w) A.in1 (collect l) Q' E s)
  (J:List Value->Hp->Prop) (j0:J [] H)
  (step:∀us v,vs[us.length]?=some v->∀pl s' H',Inv X (pins++pl) σ H' s'->J us H'->wpAny (model X.prog X.w) A.in1.in1 (call (.ref f) [v]) (fun u s''=>∃H'',Inv X (pins++pl) σ H'' s''/\J (us++[u]) H'') (fun _ _=>False) s')
  (fin:∀us H',us.length=vs.length->J us H'->∃ (z:Nat->Int) (κ:SortKind),(2<=vs.length->∀s',Inv X pins σ H' s'->(∀Q':SortKind->Shared->Prop,Q' κ s'->wpAny (model X.prog X.w) A.in1.in1 (keyKind' us.toArray) Q' (fun _ _=>False) s') /\
    ∀i j C,i < vs.length->j < vs.length->C (SP.dw z i j) s'->kas_ask X.prog X.w A.in1.in1 κ us i j C s') /\
   ∀s' D c,Inv X pins σ H' s'->cx X pins H' D->s'.heap.get? D=some (seqObj "list" (outV z vs).toArray c)->Q (.ref D) s') :
  wpAny (model X.prog X.w) A (call (.builtin "sorted") [l] [(Str.ofString "key",.ref f)]) Q E s:=by
 have hsl:vs.length<=sizeLine:=by rw[qU];omega
 refine call_function_entry_kw kind_sorted plain_sorted entry_sorted (ksk_s1 _ _) ?_
 unfold Builtin.«sorted»
 refine zV (m:=checkCount "sorted" 1 1 _) (zW (zV (hcol fun h1 kp=>?_)))
 refine zV (kN ?_ (by simpa using hsl))
 have I1:=I.kept (t':=s.toks) kp
 have fD:cx X pins H h1.objs.size:=I1.fpOk (yM _) (I1.hok.fresh (yM _))
 have hoD:(h1.push (seqObj "list" vs.toArray 0)).get? h1.objs.size=some (seqObj "list" vs.toArray 0):=zX _ rfl
 have I2:=I1.kept (t':=s.toks) (h':=h1.push (seqObj "list" vs.toArray 0)) fun b o e=>zU _ e
 show wpAny _ _ _ _ _ { s with heap:=h1.push (seqObj "list" vs.toArray 0) }
 refine zV (xX (wpAny_call_entry_kw slot_list_sort ⟨_,hoD,rfl⟩ entry_list_sort ?body (ksk_l1 _ _)))
 case body =>
  show wpAny (model X.prog X.w) A.in1.in1 (Builtin.«list.sort» ⟨[.ref h1.objs.size],[(Str.ofString "key",.ref f)]⟩) _ _ _
  rw[ksk_t1]
  refine list_sortK I2 hoD fD h64 J j0 step fun us H' hu j'=>?_
  obtain⟨z,κ,hz,hP⟩:=fin us H' hu j'
  exact⟨z,κ,hz,fun s' c I' f' e=>⟨_,rfl,zW ⟨_,rfl,hP s' _ c I' f' e⟩⟩⟩
end
end Srt
namespace Dl
open PySem L2 PySem.Spec PyProof.Rows
theorem _root_.L2.Inv.track(I:Inv X pins σ H s)(f:cx X pins H b)(ho:dv X.prog X.w (upd H b o) s.heap b o):Inv X pins σ (upd H b o) s:=by
 obtain⟨f0,f1,f2,f3,f4,f5⟩:=f
 have up:∀c u,H c=some u->upd H b o c=some u:=fun c u e=>by rw[ay (aM e f0)];exact e
 refine⟨I.ok,I.os,I.bare,⟨I.base.keep,I.base.slot,fun c oc e n hx=>?_,I.base.there,fun c xs e=>up c _ (I.base.tups c xs e),fun c oc u e=>up c _ (I.base.frzs c oc u e),⟨fun c u e t=>up c u (I.base.tbls.st c u e t),I.base.tbls.gr⟩⟩,I.loc,I.cell,?_,fun x c e=>?_,fun p hp=>?_,fun c u e=>?_,I.len⟩
 ·have hne:c≠b:=fun z=>by
   rcases f3 with g|g
   ·exact hx (z ▸ g)
   ·exact absurd (zP (zY e) (z ▸ g)) (qE _)
  rw[ay hne];exact I.base.free c oc e n hx
 ·rw[ay (jM f1)];exact I.free
 ·rw[ay (f4 x c e)];exact I.freeC x c e
 ·obtain⟨e,n,r⟩:=I.pin p hp
  exact⟨e,by rw[ay (f5 p hp)];exact n,r⟩
 ·by_cases hc:c=b
  ·subst hc;rw[aJ] at e;cases e;exact ho
  ·rw[ay hc] at e
   exact (I.hok c u e).stay (fun d w _ q=>q) (fun d q=>up d _ q) fun d w q _=>up d _ q
def tH(scope:Scope)(N':List Str)(p:Str):Bool:=scope.names.all (fun q=>!decide (q.2=NameKind.cell))&&decide (N'[0]?=some p)&&decide (scope.names.lookup p=some .local)&&decide (scope.isCoroutine=false)&&decide (scope.isGenerator=false)
section
theorem JE(C:Bk X N sc (k+3))(hA:dW (k+1) A)(hk:scope.kind=.function)(hnd:N'.Nodup)(hl:tH scope N' p=true):Bk (j7 X A qual scope N' f c s H) N' scope k where
 n:=rfl
 nd:=hnd
 tb:=fun x kd hx=>.inl hx
 calm:=rfl
 fn:=fun x hx=>by
  unfold tH at hl
  simp only[zF,xG,yP,xB] at hl
  exact absurd rfl (hl.1.1.1.1 _ (mem_of_lookup hx))
 room:=hA.deeper _
 xe:=rfl
 kd:=hk
structure uf(X:Cx)(qual:Str):Prop where
 ex:∃c P,X.env.code=.ref c/\X.env.qual++"<lambda>"=qual/\W.codeHdIn X.K c P=true/\∀HF,fj X.K HF->HF P=some (.tab qual)
def j8(te:Env->Option D)(ρ:Env):List D->Option (List D)
 | []=>some []
 | d::ds=>(te (ρ.set 0 (some d))).bind fun x=>(j8 te ρ ds).map (x::·)
theorem qg:∀ {ds ks:List D},j8 te ρ ds=some ks->ks.length=ds.length
 | [],ks,h=>by cases h;rfl
 | d'::ds,ks,h=>by
  unfold j8 at h
  obtain⟨y,h1,h⟩:=bs h
  obtain⟨ys,h2,rfl⟩:=ag h
  simp[qg h2]
theorem uu:∀ {ds ks:List D}{i:Nat}{d:D},j8 te ρ ds=some ks->ds[i]?=some d->∃x,te (ρ.set 0 (some d))=some x/\ks[i]?=some x
 | [],ks,i,d,h,e=>by simp at e
 | d'::ds,ks,i,d,h,e=>by
  unfold j8 at h
  obtain⟨y,h1,h⟩:=bs h
  obtain⟨ys,h2,rfl⟩:=ag h
  cases i with
  | zero=>simp at e;subst e;exact⟨y,h1,rfl⟩
  | succ i=>obtain⟨x,a,b⟩:=uu h2 (by simpa using e);exact⟨x,a,by simpa using b⟩
def mM(cs:List Nat)(fl te:Env->Option D):Env->Option (List D):=fun ρ=>(fl ρ).bind fun l=>match l with
 | .list ds=>(j8 te (eE 1 cs ρ) ds).bind fun ks=>(intsOf ks).bind fun zs=>if ds.length < 64 then some (nS (fun i=>zs.getD i 0) ds .none) else none
 | _=>none
theorem Ej{K:W.Frag}{cs:List Nat}(eo:cE K HF ρ σ)(r:Rep K HF d v):cE K HF ((eE 1 cs ρ).set 0 (some d)) ((iV 1 cs σ).set 0 (some v)):=gX (zx eo) r
theorem lI{K:W.Frag}:∀ {ks:List D}{zs:List Int}{kvs:List V}{us:List Value},intsOf ks=some zs->aq K HF ks kvs->aF kvs us->IntsAre us zs
 | [],zs,kvs,us,h,r,v=>by
  cases h
  rw[r.nil_inv] at v
  cases v
  exact .nil
 | d::ks,zs,kvs,us,h,r,v=>by
  cases d<;>simp only[intsOf] at h<;>try cases h
  rename_i i
  obtain⟨ys,h2,rfl⟩:=ag h
  obtain⟨w,ws,rfl,a,b⟩:=r.cons_inv
  simp only[Rep] at a
  subst a
  cases v with
  | cons r1 r2 =>
   obtain⟨t,rfl⟩:=r1
   exact .cons i t (lI h2 b r2)
theorem dq:∀ {us:List Value}{zs:List Int}{i:Nat},IntsAre us zs->i < us.length->∃t,us.getD i Value.none=.int (zs.getD i 0) t
 | _,_,i,.nil,h=>by simp at h
 | _,_,0,.cons n t r,h=>⟨t,rfl⟩
 | _,_,i+1,.cons n t r,h=>by
  obtain⟨t',e⟩:=dq (i:=i) r (by simpa using h)
  exact⟨t',by simpa using e⟩
variable {fl te:Env->Option D}{cs:List Nat}
theorem Bk.sortK(C:Bk X N sc (k+3))(B:nR X "sorted" (.builtin "sorted"))(L:uf X qual)(ok:mK sc scope N N' 1 cs=true)(hl:tH scope N' p=true)
  (hb:∀ (cl:List (Str×Addr)) (pm ctv u:Value) (c:Addr),bindArgs (W.kla_fn "<lambda>" qual params body scope cl pm (.ref c) ctv) ⟨[u],[]⟩=pure [(p,u)]) (hdef:defaultsOf params X.env=([],[])) (h:DE X l fl)
  (hY:∀A f c s H,Bk (j7 X A qual scope N' f c s H) N' scope k->DE (j7 X A qual scope N' f c s H) body te)
  (hst:starEach [l] X.env=(false,eval l X.env)::starEach [] X.env) (he:backTo pos (starEach [l] X.env)=(false,eval l X.env)::backTo pos (starEach [] X.env)) (hpl:(backTo pos (starEach [l] X.env)).any (·.1)=false) :
  DF X (.Call (.Name "sorted" p0) [l] [⟨some "key",.Lambda params body scope lpos,kpos⟩] pos) (mM cs fl te):=by
 obtain⟨S,_⟩:=C.comp ok
 have hnd:N'.Nodup:=by
  unfold mK at ok
  simp only[zF,zJ] at ok
  exact ok.2
 have hl':=hl
 unfold tH at hl'
 simp only[zF,xG,yP,xB,zJ] at hl'
 obtain⟨⟨⟨⟨hnc,hN0⟩,hp⟩,hco⟩,hgen⟩:=hl'
 obtain⟨cc,P,hcode,hqual,hhd,eF⟩:=L.ex
 intro pins s σ H Q I ⟨HF,ρ,out,sm,eo,hf,q⟩
 obtain⟨ld,hld,hf⟩:=bs hf
 cases ld<;>try cases hf
 rename_i ds
 obtain⟨ks,hks,hf⟩:=bs hf
 obtain⟨zs,hzs,hf⟩:=bs hf
 split at hf<;>cases hf
 rename_i h64
 refine qY (k7 I B.gl B.mg B.bt ?_ (by decide) (by decide))
 refine PyProof.Rows.callWith_kw (e:=l) (rest:=[]) (kws:=[⟨some "key",.Lambda params body scope lpos,kpos⟩]) ?_ he hpl rfl rfl
 refine bW (zq h Dr hst pos pins s σ H _ I ⟨HF,ρ,[.list ds],sm,eo,by simp[aa,af,hld],fun vs H1 HF1 g1 r1=>(⟨HF1,g1,r1⟩:∃HF1,cw HF H HF1 H1/\aq X.K HF1 [.list ds] vs)⟩) fun us s1 ⟨vs,H1,I1,rv,HF1,g1,r1⟩=>?_
 obtain⟨v,vr,rfl,a1,b1⟩:=r1.cons_inv
 rw[b1.nil_inv] at rv
 obtain⟨u,rfl,rx⟩:=vals1 rv
 simp only[Rep] at a1
 obtain⟨la,ws,rfl,hq,rr⟩:=a1
 cases rx
 have hT1:H1 P=some (.tab qual):=g1.fh _ _ (eF HF1 (eo.tb.mono g1.ff))
 show wpAny _ _ (evalAll ((do let v <- eval (.Lambda params body scope lpos) X.env;standAt pos;pure v)::[])) _ _ s1
 refine wpAny_evalAll_cons (zV ?_)
 refine Eo (P:=P) I1 S hqual hcode (W.codeHd_of_K I1.ok.mod.kin hhd) hT1 I1.ok.mod.bmd hdef fun f c' pm ctv s2 H2 I2 hfo hfn hcod s12 fp2 _=>?_
 refine zV (vD (zW (wpAny_evalAll_nil ?_)))
 show wpAny _ _ (call (.builtin "sorted") [.ref la] [(Str.ofString "key",.ref f)]) _ _ s2
 have Ip:=I2.pinned (fp:=[f]) (fun b hb=>by rw[List.mem_singleton.mp hb];exact fp2) (fun b hb=>by rw[List.mem_singleton.mp hb];exact⟨_,hfo,fun v z=>by cases z⟩)
 have g2:cw HF1 H1 HF1 H2:=⟨s12,.refl _,g1.fh.trans s12,fun _ _ e=>.inl e⟩
 obtain⟨its,rvi,pl,hz⟩:=Ip.list (s12.seq (g1.fh.seq hq))
 have hlen:its.length=ds.length:=by rw[<- rvi.length,rr.length]
 have hkl:=qg hks
 have hR:dW (k+1) X.A.in1.in1:=C.room.in1.in1
 refine Srt.sortedK (vs:=its) Ip (by omega) (fun {Q'} hQ=>?_) (fun us H'=>∃HF' kvs,cw HF1 H2 HF' H'/\aq X.K HF' (ks.take us.length) kvs/\aF kvs us) ⟨HF1,[],.refl g2.fh,by simpa using aq.nil,.nil⟩ (fun us x hx pl' s3 H3 I3 ⟨HF3,kvs,g3,rk,rvk⟩=>?_) fun us H3 hu ⟨HF3,kvs,g3,rk,rvk⟩=>?_
 ·refine collect_list pl.isList (hQ _ fun b o e=>?_) (by rw[qU];omega)
  exact (xN _ _ (jI (zY e))).trans (zU _ e)
 ·have hi:us.length < its.length:=(List.getElem?_eq_some_iff.mp hx).1
  obtain⟨w,hw⟩:∃w,ws[us.length]?=some w:=⟨_,zK (by rw[rvi.length];exact hi)⟩
  obtain⟨x',hx',rw'⟩:=rvi.get hw
  rw[hx] at hx'
  cases hx'
  obtain⟨d,hd,rd⟩:=rr.get hw
  obtain⟨kd,hkd,hki⟩:=uu hks hd
  have hfo3:s3.heap.get? f=some (W.kla_obj "<lambda>" qual params body scope (dU X.env scope.names []) pm c' ctv) :=
   (I3.pin (f,_) (yE _ (qJ _ (yE _ (dD zE hfo))))).1
  refine xA (Et (Q:=fun v H4=>∃HF4,cw HF3 H3 HF4 H4/\Rep X.K HF4 kd v) (te:=tD X.K te) I3 hR I3.ok.frames S hnc hN0 hp hnd hco hgen hfo3 (g3.hh _ _ hcod) (hb _ _ _ _ _) rw' (hY _ _ _ _ _ (JE C hR S.kind hnd hl))
   ⟨HF3,_,kd,g3.fh,Ej (eo.mono (g1.ff.trans g3.ff)) (rd.mono g3.ff),hkd,fun v H4 HF4 g4 r4=>⟨HF4,g4,r4⟩⟩) (fun u s4 ⟨v4,H4,I4,r4,HF4,g4,rp⟩=>⟨H4,I4,HF4,kvs++[v4],g3.trans g4,?_,rvk.append (.cons r4 .nil)⟩) fun _ _ e=>e
  rw[zN,xC,List.take_add_one,hki]
  exact (rk.mono g4.ff).append (aq.cons rp aq.nil)
 ·have hk':ks.take us.length=ks:=kJ (by omega)
  rw[hk'] at rk
  have ia:=lI hzs rk rvk
  refine⟨fun i=>zs.getD i 0,oneType',fun h2 s3 I3=>⟨fun Q' q'=>?_,fun i j Cc hi hj q'=>?_⟩,fun s3 Dn c I3 fD e=>?_⟩
  ·rw[PyProof.Rows.ksk_kind (keys:=us.toArray) (kz:=zs) (by simpa using ia) (by simpa [hu] using h2)]
   exact zW q'
  ·obtain⟨t1,e1⟩:=dq ia (i:=i) (by omega)
   obtain⟨t2,e2⟩:=dq ia (i:=j) (by omega)
   unfold W.kas_ask
   rw[e1,e2]
   exact W.kat_lt_int q'
  ·have hv:=n0 (fun i=>zs.getD i 0) rvi
   have hr:=uH (fun i=>zs.getD i 0) rr
   have hnD:H3 Dn=none:=fD.1
   have I4:=Inv.track (o:=.lst (nS (fun i=>zs.getD i 0) ws .non)) I3 fD ⟨by rw[(iF _ _ _).length_eq];exact hz,_,c,hv,e⟩
   have G:=(g1.trans g2).trans g3
   refine⟨.ref Dn,_,I4.unpinned,rfl,q Dn _ _ HF3 (G.trans (.own G.fh hnD)) (G.hh.free hnD) (G.fh.free hnD) aJ (hr.mono g3.ff)⟩
end
end Dl
namespace Srt
open PySem PySem.W PySem.Calls PyProof.Rows L2
section
end
section
end
end Srt
namespace Dl
open PySem L2 PySem.Spec PyProof.Rows
section
variable {cs:List Nat}
end
section
def MK(i j l:Nat):Env->D->Option Env:=fun ρ d=>match d with
 | .tuple [x,y,z]=>if isFree ρ i=true/\isFree ρ j=true/\isFree ρ l=true then some (((ρ.set i (some x)).set j (some y)).set l (some z)) else none
 | _=>none
theorem D4(i j l:Nat)(hc:X.calm=true)(hN:X.N.Nodup)(hi:X.N[i]?=some x)(hx:Loc X.env.scope x)(hj:X.N[j]?=some y)(hy:Loc X.env.scope y)(hl:X.N[l]?=some z)(hz:Loc X.env.scope z)
  (hf:X.fn x=true\/X.env.scope.names.lookup x=some .local) (hf':X.fn y=true\/X.env.scope.names.lookup y=some .local) (hf'':X.fn z=true\/X.env.scope.names.lookup z=some .local) :
  DG X (.Tuple [.Name x px,.Name y py,.Name z pz] k pos) (MK i j l) :=
 ou (sD hc (cQ (cU hN hi hx hf) (cQ (cU hN hj hy hf') (cQ (cU hN hl hz hf'') nO)))) fun v σ H Q ⟨HF,ρ,d,ρ',sm,eo,r,hf,q⟩=>by
  unfold MK at hf
  split at hf
  ·rename_i x' y' z'
   split at hf
   ·rename_i hh
    cases hf
    simp only[Rep] at r
    obtain⟨a,vs,rfl,hs,rr⟩:=r
    obtain⟨v1,r1,rfl,a1,b1⟩:=rr.cons_inv
    obtain⟨v2,r2,rfl,a2,b2⟩:=b1.cons_inv
    obtain⟨v3,r3,rfl,a3,b3⟩:=b2.cons_inv
    rw[b3.nil_inv] at hs
    exact⟨a,_,rfl,aA sm hs,rfl,v1,_,rfl,v2,_,rfl,v3,_,rfl,rfl,q _ (gX (gX (gX eo a1) a2) a3) (js (js (js eo hh.1) hh.2.1) hh.2.2)⟩
   ·cases hf
  ·cases hf
end
section
end
section
end
section
def Bw:List D->Option D
 | [.int a,.int b]=>some (.int (max a b))
 | _=>none
theorem Cv(hc:X.calm=true):du X (.builtin "max") (fun xs H Q=>∃a b:Int,xs=[.int a,.int b]/\Q (.int (max a b)) H):=by
 intro pins s σ H xs us Q I r h
 have hh:X.A.handled=none:=I.ok.hd hc
 obtain⟨a,b,rfl,q⟩:=h
 cases r with
 | cons r1 r =>
  cases r with
  | cons r2 r =>
   cases r
   obtain⟨t,rfl⟩:=r1
   obtain⟨u,rfl⟩:=r2
   refine max_two_ints hh fun h' tk kp=>⟨.int (max a b),H,I.kept (t':=tk) kp,?_,q⟩
   by_cases h:b > a
   ·rw[yL h,show max a b=b by omega];exact⟨_,rfl⟩
   ·rw[yN h,show max a b=a by omega];exact⟨_,rfl⟩
theorem IC(hc:X.calm=true)(B:nR X "max" (.builtin "max"))(he:starEach (e::es) X.env=(false,eval e X.env)::starEach es X.env)(hpl:(backTo pos (starEach es X.env)).any (·.1)=false)(ha:DA X (e::es) fs):DE X (.Call (.Name "max" p) (e::es) [] pos) (ba Bw fs) :=
 gE (Cv hc) (by
  intro HF H ds vs d Q sm r hg q
  unfold Bw at hg
  split at hg
  ·cases hg
   obtain⟨v1,r1,rfl,a1,b1⟩:=r.cons_inv
   obtain⟨v2,r2,rfl,a2,b2⟩:=b1.cons_inv
   rw[b2.nil_inv]
   simp only[Rep] at a1 a2
   exact⟨_,_,by rw[a1,a2],q _ H HF (.refl sm) (by simp[Rep])⟩
  ·cases hg) B ha (by decide) (by decide) he hpl
end
section
end
section
end
section
end
section
end
structure MW(h:Heap)(v:Value)(r:List Int):Prop where
 ex:∃ (a:Addr) (o:Obj) (n:Nat) (p:Value) (x y m:Int) (t:Tok),v=.ref a/\r=[x,y,m]/\h.get? a=some o/\o.cls=.type "tuple"/\o.data=.seq #[p,.int m t] n/\rN h p [x,y]
section
end
section
end
end Dl
namespace HT
open PySem PyProof.Rows
section
open PySem.SeqAt
open PySem.AutoSeq1 (wpAny_loadPart')
open PySem.MeetsSeq PySem.MeetsSeq2 PySem.MeetsSeq3
end
end HT
namespace Dl
open PySem L2 PySem.Spec PyProof.Rows
section
end
section
def ir:List D->Option (List (List Int))
 | []=>some []
 | d::r=>(ij d).bind fun ns=>(ir r).map (ns::·)
end
section
end
section
variable {fl te:Env->Option D}{cs:List Nat}
end
section
end
section
def Au:Expr->Bool
 | .Call ..=>true
 | .Subscript ..=>true
 | .Name ..=>true
 | _=>false
def xr(i j l:Nat)(fz:List Nat)(f:Env->Option D):ao->Option Out:=fun ρ=>(f (bM (hand fz 0 ρ))).bind fun d=>match d with
 | .tuple [x,y,z]=>some (.nx ((((if gh (.tuple [x,y,z])=true then ρ else hand fz 0 ρ).set i (.val x)).set j (.val y)).set l (.val z)))
 | _=>none
theorem CA(i j l:Nat)(fz:List Nat)(hc:X.calm=true)(hN:X.N.Nodup)(hi:X.N[i]?=some x)(hx:Loc X.env.scope x)(hj:X.N[j]?=some y)(hy:Loc X.env.scope y)(hl:X.N[l]?=some z)(hz:Loc X.env.scope z)(hp:Au e=true)(he:DE X e f)
  (h1:X.fn x=true\/X.env.scope.names.lookup x=some .local) (h2:X.fn y=true\/X.env.scope.names.lookup y=some .local) (h3:X.fn z=true\/X.env.scope.names.lookup z=some .local):DS X HF₀ H₀ (.Assign [.Tuple [.Name x px,.Name y py,.Name z pz] m pt] e pos) (xr i j l fz f) :=
 cW (C7 he (sD hc (cQ (cU hN hi hx h1) (cQ (cU hN hj hy h2) (cQ (cU hN hl hz h3) nO)))) (by cases e<;>first|rfl|cases hp) (by cases e<;>first|rfl|cases hp)) fun E σ H ⟨HF,ρ,o,S,hg,q⟩=>by
  unfold xr at hg
  obtain⟨d,h,hg⟩:=bs hg
  split at hg
  ·rename_i u v t
   cases hg
   obtain⟨HF1,s1,S1⟩:=S.hand fz
   refine⟨HF1,_,.tuple [u,v,t],S1.gr.fh,S1.frz,h,fun w H' HF' G r=>?_⟩
   simp only[Rep] at r
   obtain⟨a,vs,rfl,hs,rr⟩:=r
   obtain⟨v1,r1,rfl,a1,b1⟩:=rr.cons_inv
   obtain⟨v2,r2,rfl,a2,b2⟩:=b1.cons_inv
   obtain⟨v3,r3,rfl,a3,b3⟩:=b2.cons_inv
   rw[b3.nil_inv] at hs
   refine⟨a,_,rfl,aA G.fh hs,rfl,v1,_,rfl,v2,_,rfl,v3,_,rfl,rfl,?_⟩
   by_cases hn:gh (.tuple [u,v,t])=true
   ·rw[yL hn] at q
    obtain⟨HF2,s2,S2,hb,_⟩:=S.back S1 s1 G
    simp only[gh,og,zF,Bool.and_true] at hn
    exact q _ H' HF2 (((S2.setV (hb u v1 hn.1 a1)).setV (hb v v2 hn.2.1 a2)).setV (hb t v3 hn.2.2 a3)) s2
   ·rw[yN hn] at q
    exact q _ H' HF' ((((S1.grow G).setV a1).setV a2).setV a3) (s1.trans G.ff)
  ·cases hg
end
end Dl
namespace Se
open PySem PySem.W PySem.Calls PyProof.Rows
theorem slot_next:Slot "set_iterator" "__next__" "set_iterator.__next__" :=
 .of (owner:="set_iterator") (n:="__next__") (by rw[typeLookup_type,builtinLookup_eq_fast];kernel_rfl) (by decide +kernel) (by decide +kernel) (by decide +kernel) (by first|exact .inl (by decide +kernel)|exact .inr (by decide +kernel)) (by rw[isSubtype_type];kernel_rfl)
theorem entry_next:entryFor table "set_iterator.__next__"=some Builtin.«set_iterator.__next__»:=entryFor_of_tree (by kernel_rfl)
theorem args_next(a:Value):argsOk "set_iterator.__next__" ⟨[a],[]⟩:=by unfold argsOk;kernel_rfl
theorem entry_iter:entryFor table "set.__iter__"=some Builtin.«frozenset.__iter__»:=entryFor_alias (id':="frozenset.__iter__") (by kernel_rfl) rfl (by decide +kernel) (by kernel_rfl)
theorem erase_perm:∀ (l:List α) (i:Nat) (h:i < l.length),(l[i]::l.eraseIdx i).Perm l
 | a::l,0,_=>.refl _
 | a::l,i+1,h=>by
  rw[List.getElem_cons_succ,List.eraseIdx_cons_succ]
  exact (List.Perm.swap a _ _).trans ((erase_perm l i (by simpa using h)).cons a)
theorem pick_perm{α:Type}(next:Nat->Nat):∀ (n k:Nat) (left:List α) (out:Array α),left.length=n->(pickOrder.go next n k left out).toList.Perm (out.toList++left)
 | 0,_,left,out,h=>by
  rw[List.length_eq_zero_iff.mp h,qF]
  exact .refl _
 | n+1,k,left,out,h=>by
  have hl:next k % left.length < left.length:=Nat.mod_lt _ (by omega)
  have e:left[next k % left.length]?=some left[next k % left.length]:=by simp[hl]
  rw[pickOrder.go,e]
  refine (pick_perm next n (k+1) _ _ (by rw[List.length_eraseIdx,yL hl];omega)).trans ?_
  rw[Array.toList_push,List.append_assoc]
  refine List.Perm.append_left _ ?_
  exact erase_perm left _ hl
theorem pick_all{α:Type}(next:Nat->Nat)(xs:Array α):(pickOrder next xs).toList.Perm xs.toList:=by
 unfold pickOrder
 exact pick_perm next xs.size 0 xs.toList #[] (by simp)
def ordE(w:World)(a:Addr)(ep:Nat)(es:Array (Int×Value)):Array (Int×Value):=if w.params.followText "set-order"=true then pickOrder (w.params.setOrder a ep) es else es
theorem ordE_perm:(ordE w a ep es).toList.Perm es.toList:=by
 unfold ordE
 split
 ·exact pick_all _ _
 ·exact .refl _
theorem ordE_size:(ordE w a ep es).size=es.size:=by rw[<- wC,ordE_perm.length_eq,wC]
structure SetAt(w:World)(h:Heap)(a:Addr)(es:Array (Int×Value))(ep:Nat)(t:SetTable):Prop where
 get:∃o,h.get? a=some o/\o.ExactSet/\o.data=.set es ep t
 fits:t.fits es.size=true
 plain:t.plain=true
 led:t.led=!(w.params.followText "set-order")
 ris:∀i j,i < j->j < t.place.size->t.place.getD i 0 < t.place.getD j 0
def IsIt(h:Heap)(I a:Addr)(slot i n ep:Nat):Prop:=∃o,h.get? I=some o/\o.cls=.type "set_iterator"/\o.data=.fields #[.int slot 0,.int i 0,.ref a,.int n 0,.int ep 0]
section
theorem below_go(xs:Array Nat)(j:Nat)(hr:∀a b,a < b->b < xs.size->xs.getD a 0 < xs.getD b 0)(k:Nat)(hk:k<=xs.size)(h1:∀a,a < k->xs.getD a 0 < j)(h2:∀a,k<=a->a < xs.size->j<=xs.getD a 0):∀ (f lo hi:Nat),lo<=k->k<=hi->hi<=xs.size->hi - lo<=f->SetTable.below.go xs j f lo hi=k
 | 0,lo,hi,a,b,_,d=>by
  rw[SetTable.below.go]
  omega
 | f+1,lo,hi,a,b,c,d=>by
  rw[SetTable.below.go]
  split
  ·rename_i hlt
   have hm:(lo+hi) / 2 < xs.size:=by omega
   have e:xs.getD ((lo+hi) / 2) j=xs.getD ((lo+hi) / 2) 0:=by simp[hm]
   dsimp only
   rw[e]
   by_cases hx:xs.getD ((lo+hi) / 2) 0 < j
   ·rw[yL hx]
    refine below_go xs j hr k hk h1 h2 f ((lo+hi) / 2+1) hi ?_ b c (by omega)
    rcases Nat.lt_or_ge ((lo+hi) / 2) k with z|z
    ·omega
    ·have:=h2 _ z hm
     omega
   ·rw[yN hx]
    refine below_go xs j hr k hk h1 h2 f lo ((lo+hi) / 2) a ?_ (by omega) (by omega)
    rcases Nat.lt_or_ge ((lo+hi) / 2) k with z|z
    ·exact absurd (h1 _ z) hx
    ·exact z
  ·omega
theorem below_is{xs:Array Nat}{j k:Nat}(hr:∀a b,a < b->b < xs.size->xs.getD a 0 < xs.getD b 0)(hk:k<=xs.size)(h1:∀a,a < k->xs.getD a 0 < j)(h2:∀a,k<=a->a < xs.size->j<=xs.getD a 0):SetTable.below xs j=k:=by
 unfold SetTable.below
 exact below_go xs j hr k hk h1 h2 _ _ _ (xV _) hk (yM _) (by omega)
def slotOf(w:World)(t:SetTable)(i:Nat):Nat:=if w.params.followText "set-order"=true then 0 else if i=0 then 0 else t.place.getD (i - 1) 0+1
theorem slot_below(S:SetAt w h a es ep t)(hb:w.params.followText "set-order"=false)(hi:i<=es.size):SetTable.below t.place (slotOf w t i)=i:=by
 have hf:=S.fits
 simp only[SetTable.fits,zF,vK] at hf
 have hs:t.place.size=es.size:=hf.1
 unfold slotOf
 rw[yN (by rw[hb];exact yZ)]
 refine below_is S.ris (by omega) (fun a ha=>?_) (fun a ha hb=>?_)
 ·rw[yN (by omega)]
  rcases Nat.lt_or_ge a (i - 1) with z|z
  ·have:=S.ris a (i - 1) z (by omega)
   omega
  ·have:a=i - 1:=by omega
   rw[this]
   omega
 ·by_cases z:i=0
  ·rw[yL z]
   exact xV _
  ·rw[yN z]
   exact S.ris (i - 1) a (by omega) hb
theorem fit2(S:SetAt w h a es ep t):t.place.size=es.size/\t.fill<=t.mask:=by
 have hf:=S.fits
 simp only[SetTable.fits,zF,vK,zJ] at hf
 exact hf
theorem wp_setNext{Q:Option (Value×Nat)->Shared->Prop}(S:SetAt w s.heap a es ep t)(hi:i<=es.size)(h:Q (((ordE w a ep es)[i]?).map fun e=>(e.2,slotOf w t (i+1))) s):wpAny (model prog w) A (setNext a (slotOf w t i) i ep) Q E s:=by
 obtain⟨o,ho,hx,hd⟩:=S.get
 obtain⟨hs,hf⟩:=fit2 S
 unfold setNext
 refine zV (wpAny_setState_of ho hd S.fits ?_)
 dsimp only
 refine zV (m:=setsByText) ?_
 unfold setsByText
 refine zV (wpAny_askSetting (zW ?_))
 show wpAny _ _ (if w.params.followText "set-order"=true then _ else _) _ _ _
 cases hb:w.params.followText "set-order" with
 | true =>
  rw[yL rfl]
  have he:(ep != ep)=false:=by simp
  simp only[he,yO,qP]
  refine zV ?_
  unfold setWalk
  refine zV (wpAny_setState_of ho hd S.fits ?_)
  dsimp only
  refine zV (m:=setsByText) ?_
  unfold setsByText
  refine zV (wpAny_askSetting (zW ?_))
  show wpAny _ _ (if w.params.followText "set-order"=true then _ else _) _ _ _
  rw[yL hb]
  refine zV (wpAny_askSetting (zW (zW ?_)))
  have e1:ordE w a ep es=pickOrder (w.params.setOrder a ep) es:=yL hb
  have e2:slotOf w t i=slotOf w t (i+1):=by unfold slotOf;rw[yL hb,yL hb]
  rw[e1] at h
  rw[e2]
  exact h
 | false =>
  rw[yN yZ]
  have e1:ordE w a ep es=es:=yN (by rw[hb];exact yZ)
  rw[e1] at h
  have c1:(!t.plain&&decide (es.size > 1))=false:=by rw[S.plain];rfl
  show wpAny _ _ (if (!t.plain&&decide (es.size > 1))=true then _ else _) _ _ _
  rw[yN (by rw[c1];exact yZ)]
  have hl:t.led=true:=by rw[S.led,hb];rfl
  refine zV (wpAny_of_eq (a:=()) ?_ ?_)
  ·show (if (!t.led&&!es.isEmpty)=true then _ else _)=_
   rw[yN (by rw[hl];exact yZ)]
  ·rw[slot_below S hb hi]
   refine zW ?_
   rcases Nat.lt_or_ge i es.size with z|z
   ·have z':i < t.place.size:=by omega
    have e3:slotOf w t (i+1)=t.place[i]+1:=by
     unfold slotOf
     rw[yN (by rw[hb];exact yZ),yN (by omega)]
     simp[z']
    rw[jY z,e3] at h
    rw[jY z,jY z']
    exact h
   ·rw[Array.getElem?_eq_none z] at h ⊢
    exact h
end
theorem slot_iter:Slot "set_iterator" "__iter__" "set_iterator.__iter__" :=
 .of (owner:="set_iterator") (n:="__iter__") (by rw[typeLookup_type,builtinLookup_eq_fast];kernel_rfl) (by decide +kernel) (by decide +kernel) (by decide +kernel) (by first|exact .inl (by decide +kernel)|exact .inr (by decide +kernel)) (by rw[isSubtype_type];kernel_rfl)
theorem entry_it_iter:entryFor table "set_iterator.__iter__"=some Builtin.«dict_keyiterator.__iter__»:=entryFor_alias (id':="dict_keyiterator.__iter__") (by kernel_rfl) rfl (by decide +kernel) (by kernel_rfl)
theorem args_it_iter(a:Value):argsOk "set_iterator.__iter__" ⟨[a],[]⟩:=by unfold argsOk;kernel_rfl
section
theorem IsIt.typeIs(x:IsIt s.heap I a slot i n ep):Shared.TypeIs s (.ref I) "set_iterator":=let ⟨o,ho,hc,_⟩:=x;⟨o,ho,hc⟩
theorem next_item{Q:Option Value->Shared->Prop}(S:SetAt w s.heap a es ep t)(x:IsIt s.heap I a (slotOf w t i) i es.size ep)(hx:(ordE w a ep es)[i]?=some e)
  (hQ:∀h',IsIt h' I a (slotOf w t (i+1)) (i+1) es.size ep->Heap.SameBut I s.heap h'->Q (some e.2) { s with heap:=h' }):wpAny (model prog w) A (pyNext (.ref I)) Q E s:=by
 obtain⟨o,ho,hc,hd⟩:=id x
 obtain⟨os,hos,hex,hds⟩:=S.get
 have hi:i<=es.size:=by
  rcases Nat.lt_or_ge i es.size with z|z
  ·omega
  ·rw[Array.getElem?_eq_none (by rw[ordE_size];exact z)] at hx
   cases hx
 unfold pyNext
 refine zV (kO (qC (name:=Str.ofString "__next__") x.typeIs slot_next (qV slot_next x.typeIs entry_next ?_ (args_next _))))
 unfold Builtin.«set_iterator.__next__»
 refine zV (zW ?_)
 refine zV (wpAny_fieldsOf ho hd ?_)
 show wpAny _ _ (setEntries a >>= _) _ _ s
 refine zV (wpAny_setEntries_of hos hds S.fits ?_)
 have h0:(((es.size:Nat):Int) != ((es.size:Nat):Int))=false:=by simp
 simp only[h0,yO,qP]
 show wpAny _ _ (setNext a (Int.toNat ((slotOf w t i:Nat):Int)) (Int.toNat ((i:Nat):Int)) (Int.toNat ((ep:Nat):Int)) >>= _) _ _ s
 rw[yG,yG,yG]
 refine zV (wp_setNext S hi ?_)
 rw[hx]
 show wpAny _ _ (setField (.ref I) 0 (rawInt ((slotOf w t (i+1):Nat):Int)) >>= _) _ _ s
 refine zV (wpAny_setField ho hd (by simp) ?_)
 have hd1:=Obj.data_mapFields hd (·.setIfInBounds 0 (rawInt ((slotOf w t (i+1):Nat):Int)))
 have ho1:(s.heap.update I (Obj.mapFields (·.setIfInBounds 0 (rawInt ((slotOf w t (i+1):Nat):Int))))).get? I=some (Obj.mapFields (·.setIfInBounds 0 (rawInt ((slotOf w t (i+1):Nat):Int))) o):=Heap.get?_update_self _ ho (Obj.isFreed_of_fields hd1)
 refine zV (wpAny_setField ho1 hd1 (by simp) ?_)
 have hd2:=Obj.data_mapFields hd1 (·.setIfInBounds 1 (rawInt (((i:Nat):Int)+1)))
 refine zW ⟨_,rfl,zW (hQ _ ⟨_,Heap.get?_update_self _ ho1 (Obj.isFreed_of_fields hd2),?_,?_⟩ ((Heap.SameBut.update ..).trans (Heap.SameBut.update ..)))⟩
 ·exact ((Obj.cls_mapFields ..).trans (Obj.cls_mapFields ..)).trans hc
 ·rw[hd2];simp[rawInt]
theorem next_end{Q:Option Value->Shared->Prop}(hh:A.handled=none)(S:SetAt w s.heap a es ep t)(x:IsIt s.heap I a (slotOf w t es.size) es.size es.size ep)
  (hQ:∀h',Heap.ExtBut I s.heap h'->Q none { s with heap:=h' }):wpAny (model prog w) A (pyNext (.ref I)) Q E s:=by
 obtain⟨o,ho,hc,hd⟩:=id x
 obtain⟨os,hos,hex,hds⟩:=S.get
 unfold pyNext
 refine zV (kO (qC (name:=Str.ofString "__next__") x.typeIs slot_next (qV slot_next x.typeIs entry_next ?_ (args_next _))))
 unfold Builtin.«set_iterator.__next__»
 refine zV (zW ?_)
 refine zV (wpAny_fieldsOf ho hd ?_)
 show wpAny _ _ (setEntries a >>= _) _ _ s
 refine zV (wpAny_setEntries_of hos hds S.fits ?_)
 have h0:(((es.size:Nat):Int) != ((es.size:Nat):Int))=false:=by simp
 simp only[h0,yO,qP]
 show wpAny _ _ (setNext a (Int.toNat ((slotOf w t es.size:Nat):Int)) (Int.toNat ((es.size:Nat):Int)) (Int.toNat ((ep:Nat):Int)) >>= _) _ _ s
 rw[yG,yG,yG]
 refine zV (wp_setNext S (yM _) ?_)
 rw[Array.getElem?_eq_none (by rw[ordE_size];exact yM _)]
 show wpAny _ _ (setField (.ref I) 2 .none >>= _) _ _ s
 refine zV (wpAny_setField ho hd (by simp) ?_)
 show wpAny _ _ (newExc (.type "StopIteration") [] >>= _) _ _ _
 refine zV ?_
 simp only[newExc,newTuple]
 refine zV (qL ?_ (by size_fits))
 refine zV (m:=firstArgMember _ _) (wpAny_of_eq (a:=Value.none) (by first|rfl|(simp only[firstArgMember];rfl)) ?_)
 refine qL ?_ (by size_fits)
 simp only[raiseNew]
 refine zV (wpAny_handled ?_)
 rw[show A.in1.handled=none from hh]
 refine zV (zW (wpAny_throw ?_))
 refine zV (wpAny_isInstance (T:="StopIteration") (b:=true) ⟨_,zX _ rfl,rfl⟩ isSubtype_stop ?_)
 exact zW (hQ _ (((Heap.SameBut.update ..).extBut.push _).push _))
theorem SetAt.at(S:SetAt w h a es ep t)(e:∀o,h.get? a=some o->h'.get? a=some o):SetAt w h' a es ep t:=⟨let ⟨o,ho,r⟩:=S.get;⟨o,e _ ho,r⟩,S.fits,S.plain,S.led,S.ris⟩
theorem IsIt.at(x:IsIt h I a slot i n ep)(e:∀o,h.get? I=some o->h'.get? I=some o):IsIt h' I a slot i n ep:=let ⟨o,ho,r⟩:=x;⟨o,e _ ho,r⟩
theorem pyIter_set{Q:Value->Shared->Prop}(S:SetAt w s.heap a es ep t)
  (hQ:Q (.ref s.heap.objs.size) { s with heap:=s.heap.push { cls:=.type "set_iterator",data:=.fields #[.int 0 0,.int 0 0,.ref a,.int es.size 0,.int ep 0] } }):wpAny (model prog w) A (pyIter (.ref a)) Q E s:=by
 obtain⟨o,ho,hex,hd⟩:=S.get
 have hT:Shared.TypeIs s (.ref a) "set":=⟨o,ho,hex.1⟩
 refine wpAny_pyIter_slot hT PySem.F.slot_set_iter (qV PySem.F.slot_set_iter hT entry_iter ?_ (PySem.F.args_set_iter_1 _))
 unfold Builtin.«frozenset.__iter__»
 refine zV (wpAny_of_eq (a:=a) (by rfl) ?_)
 refine zV ?_
 unfold Builtin.Frozenset.sizeOf
 refine zV (wpAny_setEntries_of ho hd S.fits (zW ?_))
 refine zV ?_
 unfold setDrawn
 refine zV (wpAny_setState_of ho hd S.fits ?_)
 dsimp only
 refine zV (m:=setsByText) ?_
 unfold setsByText
 refine zV (wpAny_askSetting (zW (zW ?_)))
 have c1:(!(w.params.followText "set-order")&&(!t.plain&&decide (es.size > 1)))=false:=by rw[S.plain];simp
 show wpAny _ _ (if (!(w.params.followText "set-order")&&(!t.plain&&decide (es.size > 1)))=true then _ else _) _ _ _
 rw[yN (by rw[c1];exact yZ)]
 refine zV (zW ?_)
 refine zV (wpAny_setEpoch_of ho hd S.fits ?_)
 refine zV (qL (zW ⟨_,rfl,"set_iterator",_,⟨_,zX _ rfl,rfl⟩,slot_next.lookup,?_⟩))
 exact hQ
theorem pyIter_it{Q:Value->Shared->Prop}(x:IsIt s.heap I a slot i n ep)(hQ:Q (.ref I) s):wpAny (model prog w) A (pyIter (.ref I)) Q E s:=by
 refine wpAny_pyIter_slot x.typeIs slot_iter (qV slot_iter x.typeIs entry_it_iter ?_ (args_it_iter _))
 show wpAny _ _ (ret (.ref I)) _ _ s
 exact zW ⟨_,rfl,"set_iterator",_,x.typeIs,slot_next.lookup,hQ⟩
theorem walks(hh:A.handled=none)(I a:Addr)(hne:a≠I):Walks prog w A I [I,a] [I] es.size (fun i v=>∃e,(ordE w a ep es)[i]?=some e/\e.2=v) (fun i h=>IsIt h I a (slotOf w t i) i es.size ep/\SetAt w h a es ep t) where
 sub:=fun b hb=>by simp at hb;simp[hb]
 frame:=fun _ _ _ st hk=>⟨st.1.at fun o e=>hk I (by simp) o e,st.2.at fun o e=>hk a (by simp) o e⟩
 item:=fun i s Q E hi st hQ=>by
  obtain⟨e,hx⟩:∃e,(ordE w a ep es)[i]?=some e:=⟨(ordE w a ep es)[i]'(by rw[ordE_size];exact hi),by simp[ordE_size,hi]⟩
  refine next_item st.2 st.1 hx fun h' hit hs=>?_
  exact hQ e.2 h' s.toks ⟨e,hx,rfl⟩ ⟨hit,st.2.at fun o z=>hs.extBut a o hne z⟩ fun b o hb z=>hs.extBut b o (fun h=>hb (by simp[h])) z
 done:=fun s Q E st hQ=>next_end hh st.2 st.1 fun h' he=>hQ h' s.toks fun b o hb z=>he b o (fun h=>hb (by simp[h])) z
 self:=fun i s Q E st hQ=>pyIter_it st.1 hQ
theorem hint_set{Q:Bool->Shared->Prop}(hT:s.TypeIs (.ref r) "set")(h:Q false s):wpAny (model prog w) A (Builtin.List.listLengthHint (.ref r)) Q E s:=by
 unfold Builtin.List.listLengthHint
 refine zV (wpAny_specialOf hT PySem.F.slot_set_len.lookup ?_)
 generalize hid:("set.__len__":String)=id0
 wp_delta
 rw[show splitId id0=some ("set","__len__") from by subst hid;decide +kernel]
 subst hid
 refine zV (wpAny_isInstance (T:="set") (b:=true) hT (by rw[isSubtype_type];kernel_rfl) ?_)
 refine wpAny_ite_split (fun hab=>absurd hab (by decide)) (fun _=>?_)
 refine wpAny_ite_split (fun _=>?_) (fun hab=>absurd (by decide +kernel) hab)
 refine zV (wJ hT ?_)
 exact zW h
theorem src(hs:es.size<=sizeLine):KdlSrc prog w "set" a a es.size (fun i v=>∃e,(ordE w a ep es)[i]?=some e/\e.2=v) (fun h=>SetAt w h a es ep t) where
 type:=fun s S=>let ⟨o,ho,hx,_⟩:=S.get;⟨o,ho,hx.1⟩
 there:=fun h S=>let ⟨o,ho,_⟩:=S.get;⟨zY ho,zY ho⟩
 keep:=fun h h' S k=>S.at fun o e=>k a (.inl rfl) o e
 notList:=by decide
 notTuple:=by decide
 hint:=fun A E s Q S h=>hint_set (let ⟨o,ho,hx,_⟩:=S.get;⟨o,ho,hx.1⟩) h
 iter:=fun A s hh S=>by
  have hne:a≠s.heap.objs.size:=let ⟨o,ho,_⟩:=S.get;yR (zY ho)
  refine⟨_,fun i h=>IsIt h s.heap.objs.size a (slotOf w t i) i es.size ep/\SetAt w h a es ep t,fun E Q q=>pyIter_set S q,walks hh _ a hne,⟨_,zX _ rfl,rfl,?_⟩,S.at fun o e=>zU _ e⟩
  have:slotOf w t 0=0:=by unfold slotOf;split<;>simp
  rw[this]
  rfl
theorem code_collect{R:Result->Shared->Prop}(hh:A.handled=none)(S:SetAt w s.heap a es ep t)(hs:es.size<=sizeLine)
  (h:∀ (h':Heap) (tk:Nat) (acc:Array Value) (c:Nat),(∀b o,s.heap.get? b=some o->h'.get? b=some o)->h'.get? s.heap.objs.size=some { cls:=.type "list",dict:=none,data:=.seq acc c,slots:=#[] }->ItemsOf (fun i v=>∃e,(ordE w a ep es)[i]?=some e/\e.2=v) acc es.size->R (.ok (.ret (.ref s.heap.objs.size))) { s with heap:=h',toks:=tk }):codeAny (model prog w) A (.builtin "proto.collect" ⟨[.ref a],[]⟩) R s:=by
 obtain⟨o,ho,hx,hd⟩:=S.get
 have hlt:=zY ho
 refine kF entry_proto_collect' ?_
 show wpAny _ _ (do again (.builtin "list.__iadd__" ⟨[<- newList [],.ref a],[]⟩)) _ _ s
 refine zV (kN (zW ⟨wI _ (by decide +kernel),kF entry_list_iadd' ?_⟩))
 show wpAny _ _ (Builtin.List.listExtendWith (.ref s.heap.objs.size) (.ref a) (.ref s.heap.objs.size)) _ _ { s with heap:=s.heap.push (seqObj "list" #[] 0) }
 rw[Around.under_plainId PySem.F.plain_list_iadd _]
 exact kdl_extend (A:=A) (R:=R) (s:={ s with heap:=s.heap.push (seqObj "list" #[] 0) }) (src hs) hh (S.at fun o e=>zU _ e) s.heap.objs.size (jI hlt) (jI hlt) _ 0 (zX _ rfl) (fun h' tk acc c hk hS hacc=>h h' tk acc c (fun b o' e'=>hk b o' (yR (zY e')) (zU _ e')) hS hacc) hs
theorem collect_set{Q:List Value->Shared->Prop}(hh:A.handled=none)(S:SetAt w s.heap a es ep t)(hs:es.size<=sizeLine)
  (h:∀ (h':Heap) (tk:Nat),(∀b o,s.heap.get? b=some o->h'.get? b=some o)->s.heap.objs.size<=h'.objs.size->Q ((ordE w a ep es).toList.map (·.2)) { s with heap:=h',toks:=tk }):wpAny (model prog w) A (collect (.ref a)) Q E s:=by
 unfold collect
 refine zV (wpAny_runValue (code_collect hh S hs fun h' tk acc c hk hS hacc=>?_))
 refine zV (wpAny_load hS ?_)
 show wpAny _ _ (pure acc.toList) Q E _
 have e:acc.toList=(ordE w a ep es).toList.map (·.2):=by
  refine List.ext_getElem? fun i=>?_
  rcases Nat.lt_or_ge i es.size with z|z
  ·have z1:i < acc.size:=by rw[hacc.1];exact z
   obtain⟨e,he,hv⟩:=hacc.2 i acc[i] (by simp[z1])
   rw[zO,Array.getElem?_toList,Array.getElem?_toList,he,jY z1,<- hv]
   rfl
  ·rw[zO,Array.getElem?_toList,Array.getElem?_toList,Array.getElem?_eq_none (by rw[hacc.1];exact z),Array.getElem?_eq_none (by rw[ordE_size];exact z)]
   rfl
 rw[e]
 exact zW (h h' tk hk (jS (zY hS)))
end
end Se
namespace Wm
def Bj(x:Int):List Int->List Int
 | []=>[x]
 | y::l=>if x<=y then x::y::l else y::Bj x l
def hZ:List Int->List Int
 | []=>[]
 | x::l=>Bj x (hZ l)
theorem my(x:Int):∀l:List Int,(Bj x l).Perm (x::l)
 | []=>.refl _
 | y::l=>by
  unfold Bj
  split
  ·exact .refl _
  ·exact ((my x l).cons y).trans (.swap x y l)
theorem dA:∀l:List Int,(hZ l).Perm l
 | []=>.refl _
 | x::l=>(my x (hZ l)).trans ((dA l).cons x)
theorem uW(x:Int):∀ {l:List Int},l.Pairwise (·<=·)->(Bj x l).Pairwise (·<=·)
 | [],_=>vI _ _
 | y::l,h=>by
  rw[List.pairwise_cons] at h
  unfold Bj
  split
  ·rename_i c
   exact List.pairwise_cons.mpr ⟨fun z hz=>by
    rcases List.mem_cons.mp hz with e|e
    ·rw[e];exact c
    ·exact jT c (h.1 z e),List.pairwise_cons.mpr h⟩
  ·rename_i c
   refine List.pairwise_cons.mpr ⟨fun z hz=>?_,uW x h.2⟩
   rcases List.mem_cons.mp ((my x l).mem_iff.mp hz) with e|e
   ·rw[e];omega
   ·exact h.1 z e
theorem lE:∀l:List Int,(hZ l).Pairwise (·<=·)
 | []=>.nil
 | x::l=>uW x (lE l)
theorem kh:∀ {l m:List Int},l.Perm m->l.Pairwise (·<=·)->m.Pairwise (·<=·)->l=m
 | l,[],hp,_,_=>hp.eq_nil
 | [],x::m,hp,_,_=>absurd hp.symm.eq_nil (by simp)
 | y::l,x::m,hp,h1,h2=>by
  rw[List.pairwise_cons] at h1 h2
  have e:y=x:=by
   have hx:x∈y::l:=hp.mem_iff.mpr zE
   rcases List.mem_cons.mp hx with z|hx
   ·exact z.symm
   ·have hy:y∈x::m:=hp.mem_iff.mp zE
    rcases List.mem_cons.mp hy with z|hy
    ·exact z
    ·have:=h1.1 x hx
     have:=h2.1 y hy
     omega
  subst e
  rw[kh ((List.perm_cons y).mp hp) h1.2 h2.2]
end Wm
namespace Dl
open PySem L2 PySem.Spec PyProof.Rows
theorem FR(ns:List Int):(nS (fun i=>ns.getD i 0) ns 0).Pairwise (·<=·):=by
 unfold nS
 split
 ·rename_i hl
  match ns,hl with
  | [],_=>exact List.Pairwise.nil
  | [a],_=>exact vI _ _
 ·rename_i hl
  obtain⟨hp,hs⟩:=SP.eP (z:=fun i=>ns.getD i 0) (n:=ns.length) (by omega)
  rw[jE] at hs ⊢
  exact hs.imp fun {i j} hij=>hij
theorem DD(ns:List Int):nS (fun i=>ns.getD i 0) ns 0=Wm.hZ ns :=
 Wm.kh ((iF _ _ _).trans (Wm.dA ns).symm) (FR ns) (Wm.lE ns)
section
end
end Dl
namespace Se
open PySem PySem.W PySem.Calls PyProof.Rows
section
theorem sortedH{Q:Value->Shared->Prop}(vs:List Value)(h64:vs.length < 64)(z:Nat->Int)(κ:SortKind)
  (hc:∀ (Q':List Value->Shared->Prop) (E':Value->Shared->Prop),(∀ (h':Heap) (tk:Nat),(∀b o,s.heap.get? b=some o->h'.get? b=some o)->s.heap.objs.size<=h'.objs.size->Q' vs { s with heap:=h',toks:=tk })->wpAny (model prog w) A.in1 (collect (.ref l)) Q' E' s)
  (hk:2<=vs.length->∀ (h':Heap) (tk:Nat),(∀b o,s.heap.get? b=some o->h'.get? b=some o)->∀Q':SortKind->Shared->Prop,Q' κ { s with heap:=h',toks:=tk }->wpAny (model prog w) A.in1.in1 (keyKind' vs.toArray) Q' (fun _ _=>False) { s with heap:=h',toks:=tk })
  (hlt:2<=vs.length->∀ (h':Heap) (tk:Nat),(∀b o,s.heap.get? b=some o->h'.get? b=some o)->∀i j C,i < vs.length->j < vs.length->C (SP.dw z i j) { s with heap:=h',toks:=tk }->kas_ask prog w A.in1.in1 κ vs i j C { s with heap:=h',toks:=tk })
  (h:∀ (h':Heap) (tk:Nat) (D:Addr) (c:Nat),(∀b o,s.heap.get? b=some o->h'.get? b=some o)->s.heap.objs.size<=D->h'.get? D=some (seqObj "list" (Srt.outV z vs).toArray c)->Q (.ref D) { s with heap:=h',toks:=tk }) :
  wpAny (model prog w) A (call (.builtin "sorted") [.ref l]) Q E s:=by
 have hsl:vs.length<=sizeLine:=by rw[qU];omega
 refine Calls.call_function_entry kind_sorted plain_sorted entry_sorted (args_sorted1 _) ?_
 unfold Builtin.«sorted»
 refine zV (m:=checkCount "sorted" 1 1 _) (zW (zV (hc _ _ fun h0 tk kp0 hge=>?_)))
 refine zV (kN ?_ (by simpa using hsl))
 have hoD:(h0.push (seqObj "list" vs.toArray 0)).get? h0.objs.size=some (seqObj "list" vs.toArray 0):=zX _ rfl
 have kk:∀h':Heap,(∀b o,b≠h0.objs.size->(h0.push (seqObj "list" vs.toArray 0)).get? b=some o->h'.get? b=some o)->∀b o,s.heap.get? b=some o->h'.get? b=some o:=fun h' q b o e=>q b o (yR (zY (kp0 b o e))) (zU _ (kp0 b o e))
 show wpAny _ _ _ _ _ ({ s with heap:=h0.push (seqObj "list" vs.toArray 0),toks:=tk }:Shared)
 refine zV (xX (qV slot_list_sort ⟨_,hoD,rfl⟩ entry_list_sort (Srt.list_sortG (s:=({ s with heap:=h0.push (seqObj "list" vs.toArray 0),toks:=tk }:Shared)) hoD h64 z κ (fun a h' q=>hk a h' tk (kk h' q)) (fun a h' q=>hlt a h' tk (kk h' q)) fun h' c q e=>⟨_,rfl,?_⟩) (args_list_sort _)))
 exact zW ⟨_,rfl,h h' tk _ c (kk h' q) hge e⟩
end
theorem five_odd(m:Nat):5 ^ (2 * m+1) % 8=5:=by
 induction m with
 | zero=>rfl
 | succ m ih =>
  rw[show 2 * (m+1)+1=(2 * m+1)+2 by omega,Nat.pow_add]
  omega
theorem five_two(m:Nat):∀k,∃q,5 ^ (2 ^ k * (2 * m+1))=1+2 ^ (k+2) * (1+2 * q)
 | 0=>by
  have:=five_odd m
  refine⟨5 ^ (2 * m+1) / 8,?_⟩
  rw[Nat.pow_zero,Nat.one_mul]
  omega
 | k+1=>by
  obtain⟨q,e⟩:=five_two m k
  refine⟨q+2 ^ k * ((1+2 * q) * (1+2 * q)),?_⟩
  rw[show 2 ^ (k+1) * (2 * m+1)=2 ^ k * (2 * m+1)+2 ^ k * (2 * m+1) by rw[Nat.pow_succ,<- Nat.add_mul];congr 1;omega,Nat.pow_add,e]
  rw[show k+1+2=k+3 by omega,Nat.pow_add 2 k 2,Nat.pow_add 2 k 3]
  grind
theorem five_dvd:∀k n,2 ^ (k+2) ∣ 5 ^ n - 1->2 ^ k ∣ n
 | 0,n,_=>by simp
 | k+1,n,h=>by
  have h1:2 ^ k ∣ n:=five_dvd k n (Nat.dvd_trans (Nat.pow_dvd_pow 2 (by omega)) h)
  obtain⟨m,rfl⟩:=h1
  rcases Nat.mod_two_eq_zero_or_one m with e|e
  ·refine⟨m / 2,?_⟩
   rw[Nat.pow_succ,Nat.mul_assoc,show 2 * (m / 2)=m by omega]
  ·exfalso
   obtain⟨q,z⟩:=five_two (m / 2) k
   rw[show 2 * (m / 2)+1=m by omega] at z
   rw[z,Nat.add_sub_cancel_left,show k+1+2=k+2+1 by omega,Nat.pow_succ] at h
   have h2:2 ∣ 1+2 * q:=Nat.dvd_of_mul_dvd_mul_left (Nat.pow_pos (by omega)) h
   omega
def fv(M:Nat):Nat->Nat->Nat
 | 0,x=>x
 | n+1,x=>(5 * fv M n x+1) % M
theorem fv_lt(h:x < M):∀n,fv M n x < M
 | 0=>h
 | n+1=>Nat.mod_lt _ (by omega)
theorem fv_mod(M x:Nat):∀n,(4 * fv M n x+1) % (4 * M)=(5 ^ n * (4 * x+1)) % (4 * M)
 | 0=>by simp[fv]
 | n+1=>by
  have ih:=fv_mod M x n
  rw[fv]
  have e1:(4 * ((5 * fv M n x+1) % M)+1) % (4 * M)=(5 * (4 * fv M n x+1)) % (4 * M):=by
   rw[<- Nat.mul_mod_mul_left,Nat.mod_add_mod]
   congr 1
   omega
  rw[e1,Nat.mul_mod,ih,<- Nat.mul_mod,Nat.pow_succ]
  congr 1
  rw[Nat.mul_comm (5 ^ n) 5,Nat.mul_assoc]
theorem fv_inj{k:Nat}(hab:a < b)(hb:b < 2 ^ k)(e:fv (2 ^ k) a x=fv (2 ^ k) b x):False:=by
 have h1:=fv_mod (2 ^ k) x a
 have h2:=fv_mod (2 ^ k) x b
 rw[e,h2] at h1
 have h3:4 * 2 ^ k ∣ 5 ^ b * (4 * x+1) - 5 ^ a * (4 * x+1):=Nat.dvd_of_mod_eq_zero (Nat.sub_mod_eq_zero_of_mod_eq h1)
 have h4:5 ^ b * (4 * x+1) - 5 ^ a * (4 * x+1)=(5 ^ a * (4 * x+1)) * (5 ^ (b - a) - 1):=by
  rw[Nat.mul_sub,Nat.mul_one]
  congr 1
  rw[Nat.mul_right_comm,<- Nat.pow_add,show a+(b - a)=b by omega]
 rw[h4,show 4 * 2 ^ k=2 ^ (k+2) by rw[Nat.pow_add];omega] at h3
 have hc:Nat.Coprime (2 ^ (k+2)) (5 ^ a * (4 * x+1)):=by
  refine Nat.Coprime.pow_left _ ?_
  refine Nat.Coprime.mul_right (Nat.Coprime.pow_right _ (by decide)) ?_
  unfold Nat.Coprime
  rw[show 4 * x+1=1+2 * (2 * x) by omega,Nat.gcd_add_mul_left_right]
  rfl
 have h5:=five_dvd k (b - a) (hc.dvd_of_dvd_mul_left h3)
 have:=Nat.le_of_dvd (by omega) h5
 omega
theorem fv_all{k:Nat}(hx:x < 2 ^ k)(hj:j < 2 ^ k):∃n,n < 2 ^ k/\fv (2 ^ k) n x=j:=by
 refine Classical.byContradiction fun hno=>?_
 have hn:((List.range (2 ^ k)).map fun n=>fv (2 ^ k) n x).Nodup:=by
  rw[List.nodup_iff_pairwise_ne,jE]
  refine List.Pairwise.imp_of_mem ?_ (List.pairwise_lt_range)
  intro a b _ hb hab e
  exact fv_inj hab (List.mem_range.mp hb) e
 have hc:(j::(List.range (2 ^ k)).map fun n=>fv (2 ^ k) n x).Nodup:=by
  rw[kR]
  refine⟨fun z=>?_,hn⟩
  obtain⟨n,h1,h2⟩:=List.mem_map.mp z
  exact hno ⟨n,List.mem_range.mp h1,h2⟩
 have hl:=hc.length_le_of_subset (l₂:=List.range (2 ^ k)) fun y hy=>by
  rw[zS]
  rcases List.mem_cons.mp hy with rfl|z
  ·exact hj
  ·obtain⟨n,_,rfl⟩:=List.mem_map.mp z
   exact fv_lt hx n
 simp at hl
 omega
def adv(mask:Nat)(p:SetTable.Probe):SetTable.Probe:=if p.more > 0 then { p with j:=p.j+1,more:=p.more - 1 } else { p with j:=(SetTable.leap mask p.i p.perturb).1,more:=SetTable.runEnd mask (SetTable.leap mask p.i p.perturb).1 - (SetTable.leap mask p.i p.perturb).1,i:=(SetTable.leap mask p.i p.perturb).1,perturb:=(SetTable.leap mask p.i p.perturb).2 }
theorem adv_eq(t:SetTable)(p:SetTable.Probe):t.advance p=adv t.mask p:=rfl
def it(mask:Nat):Nat->SetTable.Probe->SetTable.Probe
 | 0,p=>p
 | n+1,p=>it mask n (adv mask p)
theorem it_add(mask m:Nat):∀ (n:Nat) (p:SetTable.Probe),it mask (n+m) p=it mask m (it mask n p)
 | 0,p=>by rw[jD];rfl
 | n+1,p=>by rw[show n+1+m=(n+m)+1 by omega,it,it_add mask m n];rfl
def st(mask i pt:Nat)(d:Option Nat):SetTable.Probe:={ j:=i,more:=SetTable.runEnd mask i - i,i,perturb:=pt,dummy:=d }
theorem run_all(mask:Nat):∀ (m:Nat) (p:SetTable.Probe),p.more=m->it mask (m+1) p=st mask (SetTable.leap mask p.i p.perturb).1 (SetTable.leap mask p.i p.perturb).2 p.dummy
 | 0,p,e=>by
  show adv mask p=_
  unfold adv
  rw[yN (by omega)]
  rfl
 | m+1,p,e=>by
  rw[it]
  have:adv mask p={ p with j:=p.j+1,more:=p.more - 1 }:=by unfold adv;rw[yL (by omega)]
  rw[this]
  exact run_all mask m _ (by show p.more - 1=m;omega)
def lp(mask:Nat):Nat->Nat×Nat->Nat×Nat
 | 0,x=>x
 | m+1,x=>SetTable.leap mask (lp mask m x).1 (lp mask m x).2
theorem run_le(mask i:Nat):SetTable.runEnd mask i - i<=9:=by
 unfold SetTable.runEnd
 split<;>omega
theorem leaps(mask:Nat)(x:Nat×Nat)(d:Option Nat):∀m,∃n,n<=10 * m/\it mask n (st mask x.1 x.2 d)=st mask (lp mask m x).1 (lp mask m x).2 d
 | 0=>⟨0,yM _,rfl⟩
 | m+1=>by
  obtain⟨n,h1,h2⟩:=leaps mask x d m
  have:=run_le mask (lp mask m x).1
  refine⟨n+(SetTable.runEnd mask (lp mask m x).1 - (lp mask m x).1+1),by omega,?_⟩
  rw[it_add,h2]
  exact run_all mask _ _ rfl
theorem lp_pt(mask:Nat)(x:Nat×Nat):∀m,(lp mask m x).2=x.2 / 32 ^ m
 | 0=>by simp[lp]
 | m+1=>by
  show (lp mask m x).2 / 32=_
  rw[lp_pt mask x m,Nat.div_div_eq_div_mul,Nat.pow_succ]
theorem lp_add(mask:Nat)(x:Nat×Nat)(m:Nat):∀n,lp mask (m+n) x=lp mask n (lp mask m x)
 | 0=>rfl
 | n+1=>by
  show SetTable.leap mask (lp mask (m+n) x).1 (lp mask (m+n) x).2=SetTable.leap mask (lp mask n (lp mask m x)).1 (lp mask n (lp mask m x)).2
  rw[lp_add mask x m n]
theorem lp_zero(mask i:Nat):∀n,lp mask n (i,0)=(fv (mask+1) n i,0)
 | 0=>rfl
 | n+1=>by
  show SetTable.leap mask (lp mask n (i,0)).1 (lp mask n (i,0)).2=_
  rw[lp_zero mask i n]
  show ((fv (mask+1) n i * 5+1+0 / 32) % (mask+1),0 / 32)=_
  rw[fv,Nat.mul_comm]
theorem lp_lt(mask:Nat)(x:Nat×Nat)(hx:x.1 < mask+1):∀n,(lp mask n x).1 < mask+1
 | 0=>hx
 | n+1=>Nat.mod_lt _ (by omega)
def start(mask:Nat)(h:Int):SetTable.Probe:=st mask (SetTable.bits h % (mask+1)) (SetTable.bits h) none
theorem start_eq(t:SetTable)(h:Int):t.probeStart h=start t.mask h:=rfl
theorem cov{mask k:Nat}(hm:mask+1=2 ^ k)(h:Int)(j:Nat)(hj:j<=mask):∃n,n < 10 * SetTable.turns mask/\(it mask n (start mask h)).j=j:=by
 have hb:SetTable.bits h < 2 ^ 64:=by
  unfold SetTable.bits
  have:=kZ h (b:=(2 ^ 64:Int)) (by decide)
  have:=vU h (b:=(2 ^ 64:Int)) (by decide)
  omega
 have h13:(lp mask 13 (SetTable.bits h % (mask+1),SetTable.bits h)).2=0:=by
  rw[lp_pt]
  refine Nat.div_eq_of_lt (zP hb (by decide))
 have hl:=lp_lt mask (SetTable.bits h % (mask+1),SetTable.bits h) (Nat.mod_lt _ (by omega)) 13
 rw[hm] at hl
 obtain⟨n,hn,e⟩:=fv_all (k:=k) hl (show j < 2 ^ k by omega)
 obtain⟨c,hc,z⟩:=leaps mask (SetTable.bits h % (mask+1),SetTable.bits h) none (13+n)
 refine⟨c,?_,?_⟩
 ·unfold SetTable.turns
  omega
 ·show (it mask c (st mask _ _ none)).j=j
  rw[z,lp_add]
  show (lp mask n (lp mask 13 (SetTable.bits h % (mask+1),SetTable.bits h))).1=j
  have:lp mask 13 (SetTable.bits h % (mask+1),SetTable.bits h)=((lp mask 13 (SetTable.bits h % (mask+1),SetTable.bits h)).1,0):=by rw[<- h13]
  rw[this,lp_zero,hm]
  exact e
theorem adv_in{mask:Nat}{p:SetTable.Probe}(h:p.j+p.more<=mask):(adv mask p).j+(adv mask p).more<=mask:=by
 unfold adv
 split
 ·show p.j+1+(p.more - 1)<=mask
  omega
 ·show (SetTable.leap mask p.i p.perturb).1+(SetTable.runEnd mask (SetTable.leap mask p.i p.perturb).1 - (SetTable.leap mask p.i p.perturb).1)<=mask
  have:(SetTable.leap mask p.i p.perturb).1 < mask+1:=Nat.mod_lt _ (by omega)
  unfold SetTable.runEnd
  split<;>omega
theorem start_in(mask:Nat)(h:Int):(start mask h).j+(start mask h).more<=mask:=by
 show SetTable.bits h % (mask+1)+(SetTable.runEnd mask (SetTable.bits h % (mask+1)) - SetTable.bits h % (mask+1))<=mask
 have:=Nat.mod_lt (SetTable.bits h) (show mask+1 > 0 by omega)
 unfold SetTable.runEnd
 split<;>omega
theorem go_free{t:SetTable}{hashAt:Nat->Int}{h:Int}(hd:∀j,t.slot j≠.dummy)(hn:∀i,(hashAt i == h)=false):∀ (n fuel:Nat) (p:SetTable.Probe),n < fuel->t.slot (it t.mask n p).j=.empty->p.dummy=none->p.j+p.more<=t.mask->∃j,j<=t.mask/\t.slot j=.empty/\SetTable.probe.go t hashAt h fuel p=some (.empty j none)
 | n,0,p,hl,_,_,_=>absurd hl (vQ _)
 | n,fuel+1,p,hl,he,hp,hi=>by
  rw[SetTable.probe.go]
  cases hs:t.slot p.j with
  | empty=>exact⟨p.j,by omega,hs,by rw[hp]⟩
  | dummy=>exact absurd hs (hd _)
  | live i =>
   match n,hl,he with
   | 0,_,he =>
    have he:t.slot p.j=.empty:=he
    rw[hs] at he
    cases he
   | n+1,hl,he =>
    simp only[hn i,yO,qP]
    rw[adv_eq]
    refine go_free hd hn n fuel (adv t.mask p) (by omega) he ?_ (adv_in hi)
    unfold adv
    split<;>exact hp
structure TOk(t:SetTable):Prop where
 pow:∃k,t.mask+1=2 ^ k
 dm:t.dummies=#[]
 ris:∀i j,i < j->j < t.place.size->t.place.getD i 0 < t.place.getD j 0
 top:∀i,i < t.place.size->t.place.getD i 0<=t.mask
 few:t.place.size<=t.mask
section
theorem cut_ex{f:Nat->Nat}(j:Nat):∀ (n:Nat),(∀a b,a < b->b < n->f a < f b)->∃k,k<=n/\(∀a,a < k->f a < j)/\(∀a,k<=a->a < n->j<=f a)
 | 0,_=>⟨0,yM _,fun a h=>by omega,fun a _ h=>by omega⟩
 | n+1,hf=>by
  obtain⟨k,h1,h2,h3⟩:=cut_ex j n fun a b hab hb=>hf a b hab (by omega)
  by_cases e:k=n/\f n < j
  ·refine⟨n+1,yM _,fun a ha=>?_,fun a ha hb=>by omega⟩
   rcases Nat.lt_or_ge a n with z|z
   ·exact h2 a (by omega)
   ·rw[show a=n by omega];exact e.2
  ·refine⟨k,by omega,h2,fun a ha hb=>?_⟩
   rcases Nat.lt_or_ge a n with z|z
   ·exact h3 a ha z
   ·rw[show a=n by omega]
    by_cases y:k=n
    ·rcases Nat.lt_or_ge (f n) j with x|x
     ·exact absurd ⟨y,x⟩ e
     ·exact x
    ·have:=h3 k (yM _) (by omega)
     have:=hf k n (by omega) (by omega)
     omega
theorem TOk.below(O:TOk t)(j:Nat):∃k,k<=t.place.size/\SetTable.below t.place j=k/\(∀a,a < k->t.place.getD a 0 < j)/\(∀a,k<=a->a < t.place.size->j<=t.place.getD a 0):=by
 obtain⟨k,h1,h2,h3⟩:=cut_ex (f:=fun a=>t.place.getD a 0) j t.place.size O.ris
 exact⟨k,h1,below_is O.ris h1 h2 h3,h2,h3⟩
theorem TOk.slot_empty(O:TOk t):t.slot j=.empty↔∀i,i < t.place.size->t.place.getD i 0≠j:=by
 obtain⟨k,h1,h2,h3,h4⟩:=O.below j
 have hd:SetTable.has t.dummies j=false:=by rw[O.dm];rfl
 unfold SetTable.slot
 rw[h2]
 dsimp only
 by_cases e:(t.place[k]? == some j)=true
 ·rw[yL e]
  constructor
  ·intro z;cases z
  ·intro z
   rw[vK] at e
   obtain⟨hk,e⟩:=Array.getElem?_eq_some_iff.mp e
   exact absurd (by simp[hk,e]) (z k hk)
 ·rw[yN e,yN (by rw[hd];exact yZ)]
  refine⟨fun _ i hi z=>?_,fun _=>rfl⟩
  rcases Nat.lt_or_ge i k with y|y
  ·have:=h3 i y
   omega
  ·rcases Nat.lt_or_ge k i with x|x
   ·have:=O.ris k i x hi
    have:=h4 k (yM _) (by omega)
    omega
   ·have:i=k:=by omega
    subst this
    refine e ?_
    rw[vK,Array.getElem?_eq_some_iff]
    exact⟨hi,by rw[<- z];simp[hi]⟩
theorem TOk.no_dummy(O:TOk t)(j:Nat):t.slot j≠.dummy:=by
 have hd:SetTable.has t.dummies j=false:=by rw[O.dm];rfl
 unfold SetTable.slot
 dsimp only
 split
 ·intro z;cases z
 ·rw[yN (by rw[hd];exact yZ)]
  intro z;cases z
theorem TOk.room(O:TOk t):∃j,j<=t.mask/\t.slot j=.empty:=by
 refine Classical.byContradiction fun hno=>?_
 have hs:List.range (t.mask+1) ⊆ t.place.toList:=fun j hj=>by
  refine Classical.byContradiction fun hn=>hno ⟨j,by have:=List.mem_range.mp hj;omega,O.slot_empty.mpr fun i hi e=>hn ?_⟩
  rw[Array.mem_toList_iff,<- e]
  simp[hi]
 have:=List.nodup_range.length_le_of_subset hs
 rw[zR,wC] at this
 have:=O.few
 omega
theorem TOk.free(O:TOk t)(h:Int):∃j,j<=t.mask/\t.slot j=.empty/\t.freeSlot h=some (j,false):=by
 obtain⟨k,hk⟩:=O.pow
 obtain⟨j0,h1,h2⟩:=O.room
 obtain⟨n,h3,h4⟩:=cov hk h j0 h1
 obtain⟨j,h5,h6,h7⟩:=go_free (hashAt:=fun _=>h+1) (h:=h) O.no_dummy (fun _=>by rw[beq_eq_false_iff_ne];omega) n (10 * SetTable.turns t.mask) (start t.mask h) h3 (by rw[h4];exact h2) rfl (start_in _ _)
 refine⟨j,h5,h6,?_⟩
 unfold SetTable.freeSlot SetTable.probe
 rw[start_eq,h7]
 rfl
theorem ins_list{α:Type}(xs:Array α)(p:Nat)(x:α):(SetTable.insertAt xs p x).toList=xs.toList.take p++x::xs.toList.drop p:=by
 unfold SetTable.insertAt
 rw[Array.toList_append,Array.toList_push,Array.toList_extract,Array.toList_extract]
 simp[List.extract]
 exact kJ (by simp)
theorem inA_get(xs:Array Nat)(p x:Nat)(hp:p<=xs.size)(i:Nat):(SetTable.insertAt xs p x).getD i 0=if i < p then xs.getD i 0 else if i=p then x else xs.getD (i - 1) 0:=by
 have e:∀ (ys:Array Nat) (i:Nat),ys.getD i 0=(ys.toList[i]?).getD 0:=fun ys i=>by simp[qD]
 rw[e,e,e,ins_list,List.getElem?_append]
 have hl:(xs.toList.take p).length=p:=by rw[jV,wC];omega
 rw[hl]
 by_cases h1:i < p
 ·rw[yL h1,yL h1,List.getElem?_take_of_lt h1]
 ·rw[yN h1,yN h1]
  by_cases h2:i=p
  ·subst h2
   rw[yL rfl,Nat.sub_self]
   rfl
  ·rw[yN h2,show i - p=(i - p - 1)+1 by omega,yY,List.getElem?_drop,show p+(i - p - 1)=i - 1 by omega]
theorem ins_size{α:Type}(xs:Array α)(p:Nat)(x:α):(SetTable.insertAt xs p x).size=xs.size+1:=by
 rw[<- wC,ins_list]
 simp
 omega
theorem ins_perm{α:Type}(xs:Array α)(p:Nat)(x:α):(SetTable.insertAt xs p x).toList.Perm (x::xs.toList):=by
 rw[ins_list]
 refine List.perm_middle.trans ?_
 rw[List.take_append_drop]
theorem TOk.put(O:TOk t)(hj:j<=t.mask)(he:t.slot j=.empty)(hm:t.place.size+1<=t.mask):TOk (t.put j).1/\(t.put j).1.place.size=t.place.size+1/\(t.put j).1.mask=t.mask/\(t.put j).1.led=t.led/\(t.put j).1.plain=t.plain/\(t.put j).1.dummies=#[]/\(t.put j).2<=t.place.size:=by
 obtain⟨k,h1,h2,h3,h4⟩:=O.below j
 have hne:=O.slot_empty.mp he
 have hd:SetTable.has t.dummies j=false:=by rw[O.dm];rfl
 have e1:(t.put j).1={ t with place:=SetTable.insertAt t.place k j }:=by
  unfold SetTable.put
  rw[h2]
  simp only[hd,yO,qP]
 have e2:(t.put j).2=k:=by
  unfold SetTable.put
  exact h2
 have h4':∀a,k<=a->a < t.place.size->j < t.place.getD a 0:=fun a ha hb=>by
  have:=h4 a ha hb
  have:=hne a hb
  omega
 rw[e1,e2]
 refine⟨⟨O.pow,O.dm,fun a b hab hb=>?_,fun a ha=>?_,?_⟩,ins_size ..,rfl,rfl,rfl,O.dm,h1⟩
 ·have hb:b < t.place.size+1:=by rw[<- ins_size t.place k j];exact hb
  show (SetTable.insertAt t.place k j).getD a 0 < (SetTable.insertAt t.place k j).getD b 0
  rw[inA_get _ _ _ h1,inA_get _ _ _ h1]
  by_cases x1:b < k
  ·rw[yL (by omega),yL x1]
   exact O.ris a b hab (by omega)
  ·rw[yN x1]
   by_cases x2:b=k
   ·rw[yL (by omega),yL x2]
    exact h3 a (by omega)
   ·rw[yN x2]
    by_cases y1:a < k
    ·rw[yL y1]
     have:=h3 a y1
     have:=h4' (b - 1) (by omega) (by omega)
     omega
    ·rw[yN y1]
     by_cases y2:a=k
     ·rw[yL y2]
      exact h4' (b - 1) (by omega) (by omega)
     ·rw[yN y2]
      exact O.ris (a - 1) (b - 1) (by omega) (by omega)
 ·have ha:a < t.place.size+1:=by rw[<- ins_size t.place k j];exact ha
  show (SetTable.insertAt t.place k j).getD a 0<=t.mask
  rw[inA_get _ _ _ h1]
  by_cases x1:a < k
  ·rw[yL x1]
   exact O.top a (by omega)
  ·rw[yN x1]
   by_cases x2:a=k
   ·rw[yL x2];exact hj
   ·rw[yN x2]
    exact O.top (a - 1) (by omega)
 ·show (SetTable.insertAt t.place k j).size<=t.mask
  rw[ins_size]
  exact hm
end
section
theorem TOk.fits(O:TOk t)(h:t.place.size=n):t.fits n=true:=by
 simp only[SetTable.fits,zF,vK,zJ]
 refine⟨h,?_⟩
 unfold SetTable.fill
 rw[O.dm]
 exact O.few
theorem lay_new(O:TOk t)(hs:t.place.size=es.size)(hm:es.size+1<=t.mask)(h:Int)(x:Value):∃j,j<=t.mask/\t.slot j=.empty/\layNew t es h x=(SetTable.insertAt es (t.put j).2 (h,x),(t.put j).1,false,false):=by
 obtain⟨j,h1,h2,h3⟩:=O.free h
 refine⟨j,h1,h2,?_⟩
 obtain⟨O',p1,_⟩:=O.put h1 h2 (by omega)
 have hf:(t.put j).1.fits (SetTable.insertAt es (t.put j).2 (h,x)).size=true:=O'.fits (by rw[p1,ins_size,hs])
 unfold layNew
 rw[h3]
 simp only[SetTable.orStandIn,hf,xH,xY]
structure IntsAt(prog:Program)(w:World)(h:Heap)(a:Addr)(es:Array (Int×Value))(ep:Nat)(t:SetTable)(ms:List Int):Prop where
 set:SetAt w h a es ep t
 tab:TOk t
 els:ElemsOf (intKind prog w) es.toList
 vals:IntsAre (es.toList.map (·.2)) ms
theorem find_ints:∀ {l:List (Int×Value)}{ms:List Int},IntsAre (l.map (·.2)) ms->∀k,(l.findIdx? (fun e=>(intKind prog w).is k e.2)=none)↔k∉ms
 | [],_,h,k=>by cases h;simp
 | e::l,ms,h,k=>by
  obtain⟨hh,v⟩:=e
  rw[zI] at h
  cases h with
  | cons n t hr =>
   rw[List.findIdx?_cons]
   have ei:(intKind prog w).is k (Value.int n t)=decide (k=n):=KeyKind.is_eq_decide (intKind_is prog w n t) k
   by_cases e:k=n
   ·subst e
    simp[ei]
   ·have:decide (k=n)=false:=zZ e
    simp only[ei,this,yO,qP,Option.map_eq_none_iff]
    rw[find_ints hr k]
    simp[e]
theorem ints_perm:∀ {vs us:List Value}{ms:List Int},us.Perm vs->IntsAre vs ms->∃ns,IntsAre us ns/\ns.Perm ms:=fun {vs us ms} p=>by
 induction p generalizing ms with
 | nil=>intro h;exact⟨ms,h,.refl _⟩
 | cons x _ ih =>
  intro h
  cases h with
  | cons n t hr =>
   obtain⟨ns,h1,h2⟩:=ih hr
   exact⟨n::ns,.cons n t h1,h2.cons n⟩
 | swap x y l =>
  intro h
  cases h with
  | cons n t hr =>
   cases hr with
   | cons m u hr=>exact⟨m::n::_,.cons m u (.cons n t hr),List.Perm.swap ..⟩
 | trans _ _ ih1 ih2 =>
  intro h
  obtain⟨n1,a1,b1⟩:=ih2 h
  obtain⟨n2,a2,b2⟩:=ih1 a1
  exact⟨n2,a2,b2.trans b1⟩
theorem add_int{Q:Bool->Shared->Prop}(I:IntsAt prog w s.heap a es ep t ms)(hm:(es.size+1) * 5 < t.mask * 3)(hb:es.size+1 < scanBound)(k:Int)(tk:Tok)
  (h0:k∈ms->Q false s)
  (h1:k∉ms->∀h' es' ep' t' ms',Heap.SameBut a s.heap h'->IntsAt prog w h' a es' ep' t' ms'->t'.mask=t.mask->es'.size=es.size+1->ms'.Perm (k::ms)->Q true { s with heap:=h' }) :
  wpAny (model prog w) A (setAddHashed a (.int k tk) ((intKind prog w).hash k)) Q E s:=by
 obtain⟨o,ho,hex,hd⟩:=I.set.get
 obtain⟨hs,_⟩:=fit2 I.set
 have hkey:=intKind_is prog w k tk
 have hsc:(Value.int k tk).scannable=true:=rfl
 unfold setAddHashed setAddHashedIn
 refine xX (zV (wpAny_setState_of ho hd I.set.fits ?_))
 dsimp only
 rw[byScan_of hsc (by omega) I.els]
 simp only[↓reduceIte]
 unfold setAddByScan
 refine zV ?_
 refine zV (wD ?_)
 refine zV (wpAny_setScan_of hkey ho hd I.set.fits I.els ?_)
 cases hr:List.findIdx? (fun e=>(intKind prog w).is k e.2) es.toList with
 | some j =>
  dsimp only
  refine zW (zW (h0 ?_))
  refine Classical.byContradiction fun hn=>?_
  rw[(find_ints I.vals k).mpr hn] at hr
  cases hr
 | none =>
  dsimp only
  have hnot:=(find_ints I.vals k).mp hr
  obtain⟨j,j1,j2,j3⟩:=lay_new I.tab hs (by omega) ((intKind prog w).hash k) (.int k tk)
  obtain⟨O',p1,p2,p3,p4,p5,p6⟩:=I.tab.put j1 j2 (by omega)
  rw[j3]
  dsimp only
  refine zV (wpAny_of_eq (a:=()) rfl ?_)
  have hpl:(t.put j).1.plain=true:=by rw[p4];exact I.set.plain
  rw[hpl]
  simp only[↓reduceIte]
  rw[hashByValue_scannable 8 hsc]
  refine zV (zW ?_)
  simp only[plainKind,↓reduceIte]
  have hz:(SetTable.insertAt es (t.put j).2 ((intKind prog w).hash k,Value.int k tk)).size=es.size+1:=ins_size ..
  refine zV (wpAny_storeSet_of ho hd ?_ (fits_of_scanBound (by rw[hz];exact hb)))
  have hfull:(t.put j).1.tooFull=false:=by
   unfold SetTable.tooFull SetTable.fill
   rw[p1,p5,p2]
   simp
   omega
  simp only[hfull,kX,yO,qP]
  have hperm:(SetTable.insertAt es (t.put j).2 ((intKind prog w).hash k,Value.int k tk)).toList.Perm (((intKind prog w).hash k,Value.int k tk)::es.toList):=ins_perm ..
  obtain⟨ms',v1,v2⟩:=ints_perm (hperm.map (fun e:Int×Value=>e.2)) (show IntsAre (Value.int k tk::es.toList.map (·.2)) (k::ms) from .cons k tk I.vals)
  have hel:ElemsOf (intKind prog w) (SetTable.insertAt es (t.put j).2 ((intKind prog w).hash k,Value.int k tk)).toList:=fun e he=>by
   rcases List.mem_cons.mp (hperm.mem_iff.mp he) with z|z
   ·subst z;exact⟨⟨k,hkey,rfl⟩,hsc⟩
   ·exact I.els e z
  have hg:(s.heap.update a (Obj.putSet (SetTable.insertAt es (t.put j).2 ((intKind prog w).hash k,Value.int k tk)) (t.put j).1)).get? a=some { o with data:=.set (SetTable.insertAt es (t.put j).2 ((intKind prog w).hash k,Value.int k tk)) (ep+1) (t.put j).1 }:=by
   have:=Heap.get?_update_self (Obj.putSet (SetTable.insertAt es (t.put j).2 ((intKind prog w).hash k,Value.int k tk)) (t.put j).1) ho (by rw[putSet_of _ _ hd];rfl)
   rw[putSet_of _ _ hd] at this
   exact this
  refine zW (zW (h1 hnot _ _ _ _ ms' (Heap.SameBut.update s.heap a _) ⟨⟨⟨_,hg,hex,rfl⟩,O'.fits (by rw[p1,hz,hs]),hpl,by rw[p3];exact I.set.led,O'.ris⟩,O',hel,v1⟩ p2 hz v2))
end
def ob(w:World):Obj:={ cls:=.type "set",dict:=none,data:=.set #[] 0 (.fresh 0 0 (!(w.params.followText "set-order"))) }
theorem ob_set(w:World)(h:(hp:Heap).get? a=some (ob w)):SetAt w hp a #[] 0 (.fresh 0 0 (!(w.params.followText "set-order"))):=⟨⟨_,h,⟨rfl,rfl,rfl⟩,rfl⟩,rfl,rfl,rfl,fun i j _ hj=>by simp[SetTable.fresh] at hj⟩
theorem ob_tab(f m:Nat)(b:Bool):TOk (SetTable.fresh f m b):=⟨⟨3,rfl⟩,rfl,fun i j _ hj=>by simp[SetTable.fresh] at hj,fun i hi=>by simp[SetTable.fresh] at hi,by simp[SetTable.fresh]⟩
section
theorem code_new(a:Value){Q₁:Value->Shared->Prop}(h:Q₁ (.ref s.heap.objs.size) { s with heap:=s.heap.push (ob w) }):codeAny (model prog w) A (.call (.builtin "set.__new__") ⟨[.type "set",a],[]⟩) (wants Q₁ E) s:=by
 refine codeAny_of_tree ?_
 show wpAny _ A.in1 (checkBuiltinCall "set.__new__" _ >>= fun _=>again (.builtin "set.__new__" _)) _ _ s
 refine zV (wpAny_of_eq (PySem.F.newCall_set_1 a) (zW ⟨plainId_quiet PySem.F.plain_set_new _,kF PySem.F.entry_set_new ?_⟩))
 rw[Around.under_plainId PySem.F.plain_set_new _]
 unfold Builtin.«set.__new__» Builtin.Frozenset.newClass
 have hsub:=sub_set_self
 obtain⟨hp,g,d,tk,os⟩:=s
 dsimp only
 wp_walk
 refine wpAny_askSetting (zW ?_)
 dsimp only
 simp only[newObj]
 refine zV (wpAny_alloc (zW ?_))
 exact zW h
theorem update_loop{R:Result->Shared->Prop}{St:Nat->Shared->Prop}{P:Nat->Value->Prop}{n:Nat}(W:WalksS prog w A.in1 I fp wr G n P St)(S:Addr)(hSf:S∉fp)(Inv:Nat->Heap->Prop)
  (hfr:∀i h h',Inv i h->(∀b o,b∉wr->h.get? b=some o->h'.get? b=some o)->Inv i h')
  (hadd:∀i v (s:Shared) (Q:Bool->Shared->Prop) (E:Value->Shared->Prop),i < n->P i v->Inv i s.heap->(∀b h' tk,s.toks<=tk->Heap.SameBut S s.heap h'->Inv (i+1) h'->Q b { s with heap:=h',toks:=tk })->wpAny (model prog w) A.in1 (setAdd S v) Q E s) :
  ∀ (k i:Nat) (s:Shared),n - i=k->i<=n->St i s->Inv i s.heap->(∀s',Moved (S::wr) G s s'->Inv n s'.heap->R (.ok (.ret .none)) s')->codeAny (model prog w) A (.builtin "set.update.loop" ⟨[.ref S,.ref I],[]⟩) R s:=by
 have hSw:S∉wr:=fun h=>hSf (W.sub _ h)
 have hsub:∀b∈wr,b∈S::wr:=fun b hb=>zC _ hb
 intro k
 induction k with
 | zero =>
  intro i s hk hi hst hI hR
  obtain rfl:i=n:=by omega
  refine kF PyProof.Rows.F.entry_set_update_loop ?_
  rw[Around.under_plainId PyProof.Rows.F.plain_set_update_loop _]
  show wpAny _ A.in1 (pyNext (.ref I) >>= _) _ _ s
  refine zV (W.done s _ _ hst fun s' hm=>?_)
  exact zW (hR s' (hm.mono hsub) (hfr _ _ _ hI hm.heap))
 | succ k ih =>
  intro i s hk hi hst hI hR
  have hlt:i < n:=by omega
  refine kF PyProof.Rows.F.entry_set_update_loop ?_
  rw[Around.under_plainId PyProof.Rows.F.plain_set_update_loop _]
  show wpAny _ A.in1 (pyNext (.ref I) >>= _) _ _ s
  refine zV (W.item i s _ _ hlt hst fun v s' hP hst' hm=>?_)
  show wpAny _ A.in1 (holding [v] (setAdd S v) >>= _) _ _ s'
  refine zV (xX (hadd i v s' _ _ hlt hP (hfr _ _ _ hI hm.heap) fun _ h' tk htk hsb hI'=>?_))
  refine zW ⟨plainId_quiet PyProof.Rows.F.plain_set_update_loop _,ih (i+1) _ (by omega) hlt (W.frame _ s' _ _ hst' htk fun b hb o e=>?_) hI' fun s'' hm2 hI2=>?_⟩
  ·rw[hsb.2 b (fun h:b=S=>hSf (by rw[<- h];exact hb))];exact e
  ·refine hR s'' (Moved.trans W.gtrans ((hm.mono hsub).then_heap htk fun b o hb e=>?_) hm2) hI2
   rw[hsb.2 b (fun h:b=S=>hb (by rw[h];exact zE))];exact e
theorem call_set{Q:Value->Shared->Prop}(hh:A.handled=none)(hl:s.heap.IsList l its)(Inv:Nat->Heap->Prop)
  (h0:∀h':Heap,(∀b o,s.heap.get? b=some o->h'.get? b=some o)->h'.get? s.heap.objs.size=some (ob w)->Inv 0 h')
  (hfr:∀i h h',Inv i h->(∀b o,b≠s.heap.objs.size+1->h.get? b=some o->h'.get? b=some o)->Inv i h')
  (hadd:∀ (A:Around) i v (s':Shared) (Q:Bool->Shared->Prop) (E:Value->Shared->Prop),i < its.size->its[i]?=some v->Inv i s'.heap->(∀b h' tk,s'.toks<=tk->Heap.SameBut s.heap.objs.size s'.heap h'->Inv (i+1) h'->Q b { s' with heap:=h',toks:=tk })->wpAny (model prog w) A (setAdd s.heap.objs.size v) Q E s')
  (h:∀ (h':Heap) (tk:Nat),Inv its.size h'->(∀b o,b < s.heap.objs.size->s.heap.get? b=some o->h'.get? b=some o)->Q (.ref s.heap.objs.size) { s with heap:=h',toks:=tk }) :
  wpAny (model prog w) A (call (.type "set") [.ref l]) Q E s:=by
 obtain⟨c,tl,hmro⟩:=PySem.F.called_set.mro
 have hmade:=PySem.F.called_set.made
 have hsub:=PySem.F.called_set.sub
 refine wpAny_call (codeAny_of_tree ?_);show wpAny _ _ (callAny (.type "set") _) _ _ _
 refine zW ⟨wI _ (by decide +kernel),kF PySem.F.entry_type_call ?_⟩
 rw[Around.under_plain (weight_type_call_type "set" [.ref l] []) rfl]
 have h1:=PySem.F.called_set.notType
 have h2:=PySem.F.called_set.canCreate
 have hct:=PySem.F.typeCall_set_1 (.ref l)
 repeat (any_goals (first|assumption|wp_step))
 refine jR (code_new (.ref l) (E:=E) (Q₁:=fun obj s1=>obj=.ref s.heap.objs.size/\s1={ s with heap:=s.heap.push (ob w) }) ⟨rfl,rfl⟩) fun r s1 hr=>?_
 cases r with
 | error e=>exact hr
 | ok fl =>
  cases fl with
  | ret obj =>
   obtain⟨rfl,rfl⟩:=hr
   have hS:(s.heap.push (ob w)).get? s.heap.objs.size=some (ob w):=zX _ rfl
   have hT:Shared.TypeIs { s with heap:=s.heap.push (ob w) } (.ref s.heap.objs.size) "set":=⟨_,hS,rfl⟩
   have hli:=PySem.F.called_set.init.lookup
   have hbi:=PySem.F.called_set.init.bind (.ref s.heap.objs.size)
   repeat (any_goals (first|assumption|wp_step))
   refine jR (codeAny_call_builtin (R:=wants (fun r s2=>r=.none/\∃h' tk,s2={ s with heap:=h',toks:=tk }/\Inv its.size h'/\(∀b o,b < s.heap.objs.size->s.heap.get? b=some o->h'.get? b=some o)) E) PySem.F.called_set.init.plain PySem.F.entry_set_init (check_set_init_1 hT ?_)) fun r2 s2 hr2=>?_
   ·obtain⟨ol,hol,hcl,nl,hdl⟩:=hl
    obtain⟨ocls,odict,odata,oslots⟩:=ol
    simp only at hcl hdl
    subst hcl hdl
    have hol':(s.heap.push (ob w)).get? l=some { cls:=.type "list",dict:=odict,data:=.seq its nl,slots:=oslots }:=zU _ hol
    have hsls:=PySem.F.sub_list_set
    have hslf:=PySem.F.sub_list_frozenset
    have hne:(Value.type "list" == Value.type "dict")=false:=by decide
    have hl1:(s.heap.push (ob w)).IsList l its:=⟨_,hol',rfl,nl,rfl⟩
    have hob:(ob w).data=.set #[] 0 (.fresh 0 0 (!(w.params.followText "set-order"))):=rfl
    unfold Builtin.«set.__init__» noKeywords Builtin.Frozenset.updateFrom
    generalize hPI:pyIter=PI
    wp_walk
    subst hPI
    refine qK hl1 (zV (wpAny_runValue ?_))
    have hlS:l < s.heap.objs.size:=zY hol
    have hh3:A.in1.in1.in1.handled=none:=by simp[hh]
    have hz:(s.heap.push (ob w)).objs.size=s.heap.objs.size+1:=xJ ..
    have hneI:l≠(s.heap.push (ob w)).objs.size:=by rw[hz];exact yR (jN hlS)
    have hSf:s.heap.objs.size∉[(s.heap.push (ob w)).objs.size,l]:=by
     rw[hz];simp only[zQ,yF,xU,not_or]
     exact⟨yR (kM _),jI hlS⟩
    refine update_loop ((Walks.list hh3 (s.heap.push (ob w)).objs.size l hneI its).toS) s.heap.objs.size hSf Inv (fun i h h' hi k=>hfr i h h' hi fun b o hb e=>k b o (fun z=>hb (by rw[yJ,hz] at z;exact z)) e) (fun i v s' Q E hi hP hI q=>hadd _ i v s' Q E hi hP hI q) (its.size - 0) 0 _ (by omega) (xV _) ⟨⟨_,zX _ rfl,rfl,rfl⟩,(hl1.push _)⟩ (h0 _ (fun b o e=>zU _ (zU _ e)) (zU _ hS)) ?hR
    case hR =>
     intro s' hm hI'
     obtain⟨h',g',d',tk',os'⟩:=s'
     obtain rfl:g'=s.gens:=hm.gens
     obtain rfl:d'=s.drawn:=hm.drawn
     obtain rfl:os'=s.os:=hm.os
     show wpAny _ _ _ _ _ _
     refine zW ?_
     show wpAny _ _ (ret Value.none) _ _ _
     refine zW ⟨rfl,h',tk',rfl,hI',fun b o hb e=>?_⟩
     refine hm.heap b o ?_ (zU _ (zU _ e))
     simp only[zQ,yF,xU,not_or]
     rw[hz]
     exact⟨yR hb,yR (jN hb)⟩
   ·cases r2 with
    | error e=>exact hr2
    | ok fl2 =>
     cases fl2 with
     | ret r =>
      obtain⟨rfl,h',tk,rfl,hI',hk'⟩:=hr2
      repeat (any_goals (first|assumption|wp_step))
      exact h _ _ hI' hk'
     | _=>exact hr2.elim
  | _=>exact hr.elim
end
end Se
namespace Dl
open PySem L2 PySem.Spec PyProof.Rows
def dd(ns:List Int):List Int:=firstMet (fun i=>ns.getD i 0) ns.length
theorem sQ(val:Nat->Int)(i:Nat)(k:Int):k∈firstMet val i↔k∈(List.range i).map val:=by
 have:=firstMet_any val i k
 rw[kW,List.any_eq_true,List.any_eq_true] at this
 simp only[vK,exists_eq_right] at this
 exact this
theorem IS(ns:List Int)(k:Int):k∈dd ns↔k∈ns:=by
 unfold dd
 rw[sQ,fE]
def B4(P:Program)(w:World)(q:Addr)(l:List Int):HO:=.ext fun h=>∃es ep t ms,Se.IntsAt P w h q es ep t ms/\ms.Perm l
theorem F4{P:Program}{w:World}{H:Hp}{h:Heap}{q:Addr}{l:List Int}(x:∃es ep t ms,Se.IntsAt P w h q es ep t ms/\ms.Perm l):dv P w H h q (B4 P w q l):=by
 refine⟨x,?_,fun h1 h2 ⟨es,ep,t,ms,i,p⟩ e=>⟨es,ep,t,ms,⟨i.set.at e,i.tab,i.els,i.vals⟩,p⟩⟩
 obtain⟨es,ep,t,ms,i,_⟩:=x
 obtain⟨o,ho,_⟩:=i.set.get
 exact⟨o,ho⟩
theorem BG(σ:List Int)(v:Int)(h:v∉σ):(v::σ).Perm (step_dedup σ v):=by
 unfold step_dedup
 rw[yN (by simp only[List.any_eq_true,vK,exists_eq_right];exact h)]
 exact (List.perm_append_comm (l₁:=[v]))
theorem GY(σ:List Int)(v:Int)(h:v∈σ):step_dedup σ v=σ:=by
 unfold step_dedup
 rw[yL (by simp only[List.any_eq_true,vK,exists_eq_right];exact h)]
section
theorem BD(hc:X.calm=true):du X (.type "set") (fun xs H Q=>∃ (a:Addr) (ns:List Int),xs=[.ref a]/\gn X.K H a (ns.map V.int)/\ns.length<=4/\∀q,H q=none->Q (.ref q) (upd H q (B4 X.prog X.w q (dd ns)))):=by
 intro pins s σ H xs us Q I r h
 obtain⟨a,ns,rfl,hq,hb,q⟩:=h
 obtain⟨u,rfl,rx⟩:=vals1 r
 cases rx
 obtain⟨its,rv,pl,hz⟩:=I.list hq
 have hi:IntsAre its.toArray.toList ns:=intsAre_of rv
 have hlen:its.toArray.size=ns.length:=by have:=rv.length;simpa using this.symm
 refine Se.call_set (I.ok.hd hc) pl.isList (fun i h=>∃es ep t ms,Se.IntsAt X.prog X.w h s.heap.objs.size es ep t ms/\ms.Perm (firstMet (fun i=>ns.getD i 0) i)/\t.mask=7/\es.size<=i)
  (fun h' _ e=>⟨#[],0,_,[],⟨Se.ob_set X.w e,Se.ob_tab _ _ _,fun e he=>by simp at he,.nil⟩,.refl _,rfl,yM _⟩)
  (fun i h h' ⟨es,ep,t,ms,J,p,m,z⟩ k=>⟨es,ep,t,ms,⟨J.set.at fun o e=>k _ o (yR (kM _)) e,J.tab,J.els,J.vals⟩,p,m,z⟩)
  (fun A i v s' Q' E' hi' hv ⟨es,ep,t,ms,J,p,m,z⟩ q'=>?_) fun h' tk ⟨es,ep,t,ms,J,p,_,_⟩ hk=>?_
 ·obtain⟨tk,rfl⟩:=IntsAre.int_at hi i v (by rw[Array.getElem?_toList];exact hv)
  unfold setAdd
  refine xX (zV ((intKind X.prog X.w).pyHash (k:=ns.getD i 0) (intKind_is _ _ _ _) ?_))
  refine Se.add_int (s:={ s' with toks:=s'.toks+1 }) J (by rw[m];omega) (by unfold scanBound;omega) (ns.getD i 0) tk (fun hm=>?_) (fun hm h' es' ep' t' ms' sb J' m' z' p'=>?_)
  ·refine q' false s'.heap (s'.toks+1) (Nat.le_succ _) (Heap.SameBut.refl _ _) ⟨es,ep,t,ms,J,?_,m,by omega⟩
   rw[firstMet_succ,GY _ _ (p.mem_iff.mp hm)]
   exact p
  ·refine q' true h' (s'.toks+1) (Nat.le_succ _) sb ⟨es',ep',t',ms',J',?_,by rw[m',m],by omega⟩
   rw[firstMet_succ]
   exact p'.trans ((p.cons _).trans (BG _ _ fun x=>hm (p.mem_iff.mpr x)))
 ·rw[hlen] at p
  exact⟨.ref s.heap.objs.size,_,I.laid (t':=tk) (fun b o e=>hk b o (zY e) e) (yM _) (F4 ⟨es,ep,t,ms,J,p⟩),rfl,q _ I.fresh⟩
theorem gc:∀ {vs:List Value}{ns:List Int},IntsAre vs ns->aF (ns.map V.int) vs
 | _,_,.nil=>.nil
 | _,_,.cons n t r=>.cons ⟨t,rfl⟩ (gc r)
theorem Ec(z:Nat->Int)(f:Int->β)(d:β)(ns:List Int):nS z (ns.map f) d=(nS z ns 0).map f:=by
 unfold nS
 rw[zD]
 split
 ·rfl
 ·rename_i h
  rw[zM]
  obtain⟨hp,_⟩:=SP.eP (z:=z) (n:=ns.length) (by omega)
  refine yH fun i hi=>?_
  have hi':i < ns.length:=by have:=hp.mem_iff.mp hi;simpa using this
  simp[hi']
theorem rz(hc:X.calm=true):du X (.builtin "sorted") (fun xs H Q=>∃ (a:Addr) (l:List Int),xs=[.ref a]/\H a=some (B4 X.prog X.w a l)/\l.length < 64/\∀Dn:Addr,H Dn=none->Q (.ref Dn) (upd H Dn (.lst ((Wm.hZ l).map V.int)))):=by
 intro pins s σ H xs us Q I r h
 obtain⟨a,l,rfl,hq,h64,q⟩:=h
 obtain⟨u,rfl,rx⟩:=vals1 r
 cases rx
 obtain⟨⟨es,ep,t,ms,J,p⟩,_,_⟩:=(show dv X.prog X.w H s.heap a (B4 X.prog X.w a l) from I.hok a _ hq)
 obtain⟨ns,hv,hp⟩:=Se.ints_perm ((Se.ordE_perm (w:=X.w) (a:=a) (ep:=ep) (es:=es)).map (fun e:Int×Value=>e.2)) J.vals
 have hl:ns.length=l.length:=(hp.trans p).length_eq
 have hl2:=IntsAre.length hv
 have hes:es.size<=sizeLine:=by
  have h1:=Se.ordE_size (w:=X.w) (a:=a) (ep:=ep) (es:=es)
  have h2:((Se.ordE X.w a ep es).toList.map (fun e:Int×Value=>e.2)).length=(Se.ordE X.w a ep es).size:=by simp
  rw[PySem.sizeLine_eq]
  omega
 refine Se.sortedH ((Se.ordE X.w a ep es).toList.map (fun e:Int×Value=>e.2)) (by omega) (fun i=>ns.getD i 0) oneType' (fun Q' E' q'=>Se.collect_set (by simp[I.ok.hd hc]) J.set hes q') (fun h2 h' tk kp Q' q'=>?_) (fun h2 h' tk kp i j C hi hj q'=>?_) fun h' tk Dn c kp hD e=>?_
 ·rw[PyProof.Rows.ksk_kind (keys:=((Se.ordE X.w a ep es).toList.map (fun e:Int×Value=>e.2)).toArray) (kz:=ns) (by simpa using hv) (by simpa using h2)]
  exact zW q'
 ·obtain⟨t1,e1⟩:=dq hv (i:=i) (by omega)
  obtain⟨t2,e2⟩:=dq hv (i:=j) (by omega)
  unfold PySem.W.kas_ask
  rw[e1,e2]
  exact PySem.W.kat_lt_int q'
 ·have hvs:=n0 (fun i=>ns.getD i 0) (gc hv)
  rw[Ec,DD,show Wm.hZ ns=Wm.hZ l from Wm.kh ((Wm.dA ns).trans ((hp.trans p).trans (Wm.dA l).symm)) (Wm.lE ns) (Wm.lE l)] at hvs
  refine⟨.ref Dn,_,I.laid (t':=tk) (o:=.lst ((Wm.hZ l).map V.int)) kp hD ⟨?_,_,c,hvs,e⟩,rfl,q Dn (I.hok.fresh hD)⟩
  rw[zD,(Wm.dA l).length_eq,PySem.sizeLine_eq]
  omega
def o5:D->Option (List D):=fun d=>match d with
 | .list es=>(intsOf es).bind fun ns=>if ns.length<=4 then some ((Wm.hZ (dd ns)).map PyData.int) else none
 | _=>none
def eY(f:Env->Option D):Env->Option (List D):=fun ρ=>(f ρ).bind o5
theorem lT{K:PySem.W.Frag}:∀ns:List Int,aq K H (ns.map PyData.int) (ns.map V.int)
 | []=>aq.nil
 | n::ns=>aq.cons (by simp[Rep]) (lT ns)
theorem vy(hc:X.calm=true)(B:nR X "sorted" (.builtin "sorted"))(C:nR X "set" (.type "set"))(h:DE X e f)(he:starEach [e] X.env=(false,eval e X.env)::starEach [] X.env:=by rfl) :
  DF X (.Call (.Name "sorted" p) [.Call (.Name "set" p') [e] [] pos'] [] pos) (eY f) :=
 aX (jc (rz hc) B.gl B.mg B.bt (cJ (mN (BD hc) C.gl C.mg C.bt (cJ h ft he) (by decide) (by decide) he rfl) ft) (by decide) (by decide) rfl rfl) fun σ H Q ⟨HF,ρ,d,sm,eo,hf,q⟩=>by
  obtain⟨x,hx,hf⟩:=bs hf
  unfold o5 at hf
  split at hf
  ·rename_i es
   obtain⟨ns,h1,hf⟩:=bs hf
   split at hf
   ·rename_i hb
    cases hf
    refine⟨HF,ρ,.list es,sm,eo,hx,fun v1 H1 HF1 g1 r1=>?_⟩
    have e1:=cF h1
    subst e1
    simp only[Rep] at r1
    obtain⟨a,vs,rfl,hs,rr⟩:=r1
    have:=gH rr
    subst this
    refine⟨a,ns,rfl,g1.fh.seq hs,hb,fun b hb'=>⟨b,dd ns,rfl,aJ,?_,fun Dn hD=>?_⟩⟩
    ·have:=firstMet_length_le (fun i=>ns.getD i 0) ns.length
     unfold dd
     omega
    ·have hD1:H1 Dn=none:=by
      unfold upd at hD
      split at hD
      ·cases hD
      ·exact hD
     have g2:=g1.trans (cw.own (o:=B4 X.prog X.w b (dd ns)) g1.fh hb')
     exact q Dn _ _ HF1 (g2.trans (.own g2.fh hD)) (g1.hh.free hD1) (g1.fh.free hD1) aJ (lT _)
   ·cases hf
  ·cases hf
end
end Dl
namespace Rf
open PySem L2 Dl PySem.Spec PyProof.Rows
structure Tr where
 e:Expr->Option (Dl.Env->Option D)
 f:Expr->Option (Dl.Env->Option (List D))
 t:Expr->Option (Dl.Env->Option Bool)
structure Sg where
 fn:List (Str×Nat×(List D->Option D))
 int:List (Str×Int)
abbrev FE:=Dl.Env->Option D
def w8(G:Sg)(sc:Scope)(N:List Str)(x:Str):Option FE:=match N.idxOf? x with
 | some i=>if AH N sc i x=true then some (ab i) else none
 | none=>if (AC sc x&&!(x == ("__debug__":Str)))=true then (G.int.lookup x).map fun n=>fC (.int n) else none
def zr:Const->Option FE
 | .int i=>some (fC (.int i))
 | .bool b=>some (fC (.bool b))
 | .none=>some (fC .none)
 | .str x=>some (fC (.str x))
 | _=>none
def KS(T:Tr)(op:UnaryOp)(a:Expr):Option FE:=match op with
 | .USub=>(T.e a).map (f1 Kj)
 | _=>none
def ME:Operator->Option (D->D->Option D)
 | .Add=>some aI
 | .Sub=>some Dl.i4
 | .Mult=>some eK
 | .FloorDiv=>some lr
 | .Mod=>some jv
 | _=>none
def Ly:Expr->Bool
 | .List ..=>true
 | .ListComp ..=>true
 | _=>false
def za:Expr->Bool
 | .List ..=>true
 | .ListComp ..=>true
 | .BinOp a .Mult _ _=>Ly a
 | .BinOp a .Add b _=>za a||za b
 | .Call (.Name x _) _ _ _=>x == ("sorted":Str)||x == ("list":Str)
 | _=>false
def Ce(T:Tr)(whole a:Expr)(op:Operator)(b:Expr):Option FE :=
 if za whole=true then (T.f whole).map cf else (ME op).bind fun g=>(T.e a).bind fun x=>(T.e b).map fun y=>f2 g x y
def sd(T:Tr)(op:BoolOp):List Expr->Option FE
 | []=>none
 | [a]=>T.e a
 | a::b::r=>(T.e a).bind fun x=>(sd T op (b::r)).map fun y=>match op with|.And=>iC x y|.Or=>Mz x y
def KN:CmpOp->Option (D->D->Option D)
 | .Lt=>some tN
 | .LtE=>some AA
 | .Gt=>some BQ
 | .GtE=>none
 | .Eq=>some bJ
 | .NotEq=>some mw
 | .In=>some vo
 | .NotIn=>none
 | .Is=>some pI
 | .IsNot=>some mZ
def LZ:CmpOp->Option (D->D->Option D)
 | .Lt=>some tN
 | .LtE=>some AA
 | _=>none
def Ae(T:Tr)(a:Expr)(ops:List CmpOp)(cs:List Expr):Option FE:=match ops,cs with
 | [op],[b]=>if behindInMarks op b=false then (KN op).bind fun g=>(T.e a).bind fun x=>(T.e b).map fun y=>f2 g x y else none
 | [op,op'],[b,c]=>if lastMarks [op,op'] [b,c]=false then (LZ op).bind fun g=>(LZ op').bind fun g'=>(T.e a).bind fun x=>(T.e b).bind fun y=>(T.e c).map fun z=>iY g g' x y z else none
 | _,_=>none
def uo(T:Tr):List Expr->Option (Dl.Env->Option (List D))
 | []=>some af
 | e::es=>if isStar e=false then (T.e e).bind fun x=>(uo T es).map fun r=>aa x r else none
def MN(T:Tr):Option Expr->Option (Dl.Env->Option (Option Int))
 | none=>some mz
 | some e=>(T.e e).map A7
def EB:Expr->Bool
 | .Slice ..=>true
 | .Tuple ..=>true
 | .Starred ..=>true
 | _=>false
def D5(T:Tr)(a b:Expr):Option FE:=match b with
 | .Slice lo hi none _=>(T.e a).bind fun x=>(MN T lo).bind fun l=>(MN T hi).map fun h=>mH gu x l h
 | _=>if EB b=false then (T.e a).bind fun x=>(T.e b).map fun y=>f2 av x y else none
def EK:List D->Option D:=fun ds=>(oneOf ds).bind fun d=>match d with
 | .list es=>(boolsOf es).map fun bs=>.bool (bs.any id)
 | _=>none
def mI:Expr->Option Expr
 | .Call (.Name x _) [e] [] _=>if x="set" then some e else none
 | _=>none
def Ia(x:Str):Option String:=if x="int" then some "int" else if x="bool" then some "bool" else if x="tuple" then some "tuple" else if x="list" then some "list" else none
def xa(T:Tr)(x:Str)(args:List Expr):Option FE :=
 if x="max" then (if args.isEmpty=true then none else (uo T args).map fun fs=>ba Bw fs)
 else none
def v9(G:Sg)(sc:Scope)(T:Tr)(whole:Expr)(x:Str)(args:List Expr):Option FE :=
 if (AC sc x&&args.all fun e=>!isStar e)=true then
  match G.fn.lookup x with
  | some (n,m)=>if (args.isEmpty||x == ("__debug__":Str))=true then none else (uo T args).map fun fs=>ah n m fs
  | none =>
   if x="len" then (match args with
    | [e]=>(match mI e with
     | some e'=>if (AC sc "set"&&!isStar e')=true then (T.e e').map fun y=>f1 jo y else none
     | none=>(uo T args).map fun fs=>ba bw fs)
    | _=>none)
   else if x="isinstance" then (match args with
    | [e,.Name y _]=>if AC sc y=true then (Ia y).bind fun ty=>(T.e e).map fun z=>Ht ty z else none
    | _=>none)
   else if x="tuple" then (if args.length=1 then (uo T args).map fun fs=>ba bx fs else none)
   else if x="all" then (if args.length=1 then (uo T args).map fun fs=>ba ju fs else none)
   else if x="any" then (if args.length=1 then (uo T args).map fun fs=>ba EK fs else none)
   else if x="sum" then (if args.length=1 then (uo T args).map fun fs=>ba AV fs else none)
   else if x="min" then (if args.isEmpty=true then none else (uo T args).map fun fs=>ba uI fs)
   else if (x == ("list":Str)||x == ("sorted":Str))=true then (T.f whole).map cf
   else xa T x args
 else none
def Ao:Expr->Bool
 | .Call ..=>true
 | _=>false
def wX(T:Tr)(o:Expr)(m:Str)(apos:Pos)(args:List Expr)(cpos:Pos):Option FE :=
 if (m == ("index":Str)&&apos.endLine == cpos.line&&!Ao o)=true then (match args with
  | [e]=>if isStar e=false then (T.e o).bind fun x=>(T.e e).map fun y=>f2 ny x y else none
  | _=>none)
 else none
def C5(G:Sg)(sc:Scope)(N:List Str)(T:Tr)(whole:Expr):Option FE:=match whole with
 | .Name x _=>w8 G sc N x
 | .Constant c _ _=>zr c
 | .UnaryOp op a _=>KS T op a
 | .BinOp a op b _=>Ce T whole a op b
 | .BoolOp op es _=>sd T op es
 | .Compare a ops cs _=>Ae T a ops cs
 | .IfExp c a b _=>(T.t c).bind fun z=>(T.e a).bind fun x=>(T.e b).map fun y=>MU z x y
 | .Tuple es _ _=>(uo T es).map aV
 | .Subscript a b _=>D5 T a b
 | .List ..=>(T.f whole).map cf
 | .ListComp ..=>(T.f whole).map cf
 | .Call (.Name x _) args [] _=>v9 G sc T whole x args
 | .Call (.Name _ _) _ (_::_) _=>(T.f whole).map cf
 | .Call (.Attribute o m apos) args [] cpos=>wX T o m apos args cpos
 | _=>none
def LC(T:Tr)(op:BoolOp):List Expr->Option (Dl.Env->Option Bool)
 | []=>none
 | [a]=>T.t a
 | a::b::r=>(T.t a).bind fun x=>(LC T op (b::r)).map fun y=>match op with|.And=>cn x y|.Or=>ka x y
def D8:Expr->Bool
 | .Name ..=>true
 | .Call ..=>true
 | .Subscript ..=>true
 | _=>false
def stepT(T:Tr)(whole:Expr):Option (Dl.Env->Option Bool):=match whole with
 | .Compare a ops cs _=>(Ae T a ops cs).map fB
 | .UnaryOp .Not a _=>(T.t a).map bc
 | .BoolOp op es _=>LC T op es
 | _=>if D8 whole=true then (T.e whole).map fB else none
def sC:Expr->Bool
 | .Tuple ..=>true
 | _=>false
def LG(sc:Scope)(T:Tr)(tg iter:Expr):Option (Dl.Env->Option (List D)):=match iter with
 | .Call (.Name x _) args [] _ =>
  if x="range" then (match args with|[e]=>if (AC sc "range"&&!isStar e)=true then (uo T args).map aL else none|_=>none)
  else if x="enumerate" then (match args with|[e]=>if (AC sc "enumerate"&&!isStar e&&sC tg)=true then (uo T args).map bz else none|_=>none)
  else if x="zip" then (match args with|[e,e']=>if (AC sc "zip"&&!isStar e&&!isStar e'&&sC tg)=true then (uo T args).map fx else none|_=>none)
  else (T.e iter).map aP
 | .Set ..=>none
 | _=>(T.e iter).map aP
def Mp:Expr->Option (List Str)
 | .Name x _=>some [x]
 | .Tuple [.Name x _,.Name y _] _ _=>some [x,y]
 | _=>none
def L7:Expr->Option (List Str)
 | .Tuple [.Name x _,.Name y _,.Name z _] _ _=>some [x,y,z]
 | tg=>Mp tg
def iR(N:List Str)(scope:Scope):List Nat:=(List.range N.length).filter fun j=>match N[j]? with|some x=>decide (scope.names.lookup x=some .free)|none=>false
def IJ:Expr->Bool
 | .Set ..=>false
 | _=>true
def G7(B:Tr)(ifs:List Expr):Option (Dl.Env->Option Bool):=match ifs with
 | []=>some fun _=>some true
 | [c]=>B.t c
 | _=>none
def sS(sc:Scope)(N:List Str)(T:Tr)(blk:Scope->List Str->Tr)(elt:Expr)(gens:List Comprehension)(scope:Scope):Option (Dl.Env->Option (List D)):=match gens with
 | [⟨tg,iter,ifs,as⟩] =>
  if as=0 then (L7 tg).bind fun xs =>
   if (mK sc scope N (xs++(iR N scope).filterMap fun j=>N[j]?) xs.length (iR N scope)&&(List.range xs.length).all fun i=>pw (xs++(iR N scope).filterMap fun j=>N[j]?) scope i (xs.getD i ""))=true then
    (LG sc T tg iter).bind fun fi=>(G7 (blk scope (xs++(iR N scope).filterMap fun j=>N[j]?)) ifs).bind fun tt =>
     ((blk scope (xs++(iR N scope).filterMap fun j=>N[j]?)).e elt).map fun te=>aj xs.length (iR N scope) fi (match xs with|[_]=>fG 0|[_,_]=>fJ 0 1|_=>MK 0 1 2) tt te
   else none
  else none
 | _=>none
def setIn(sc:Scope):Expr->Option Expr
 | .Call (.Name y _) [e] [] _=>if (y == ("set":Str)&&AC sc y&&!isStar e)=true then some e else none
 | _=>none
def Dv:Arguments->Option Str
 | ⟨[],[⟨x,none,_⟩],none,[],[],none,[]⟩=>if x="number" then some x else if x="plan" then some x else none
 | _=>none
def rm(lam:Option Str)(sc:Scope)(N:List Str)(T:Tr)(lmb:Scope->List Str->Tr)(l:Expr)(params:Arguments)(body:Expr)(scope:Scope):Option (Dl.Env->Option (List D)) :=
 if (lam.isSome&&AC sc "sorted"&&!isStar l)=true then
  (Dv params).bind fun p =>
   if (mK sc scope N (p::(iR N scope).filterMap fun j=>N[j]?) 1 (iR N scope)&&tH scope (p::(iR N scope).filterMap fun j=>N[j]?) p)=true then
    (T.e l).bind fun fl=>((lmb scope (p::(iR N scope).filterMap fun j=>N[j]?)).e body).map fun te=>mM (iR N scope) fl te
   else none
 else none
def zw(lam:Option Str)(sc:Scope)(N:List Str)(T:Tr)(blk lmb:Scope->List Str->Tr)(whole:Expr):Option (Dl.Env->Option (List D)):=match whole with
 | .List es _=>(uo T es).map eA
 | .ListComp elt gens scope _=>sS sc N T blk elt gens scope
 | .BinOp a .Add b _=>(T.e a).bind fun x=>(T.e b).map fun y=>MX qv x y
 | .Call (.Name x _) [l] [⟨some ky,.Lambda params body scope _,_⟩] _=>if (x == ("sorted":Str)&&ky == ("key":Str))=true then rm lam sc N T lmb l params body scope else none
 | .Call (.Name x _) [e] [] _ =>
  if (AC sc x&&!isStar e)=true then
   if x="sorted" then (match setIn sc e with
    | some e'=>(T.e e').map eY
    | none=>(uo T [e]).map fun fs=>pH fM fs)
   else none
  else none
 | _=>none
def tr(G:Sg):Nat->Option Str->Scope->List Str->Tr
 | 0,_,_,_=>⟨fun _=>none,fun _=>none,fun _=>none⟩
 | n+1,lam,sc,N=>⟨C5 G sc N (tr G n lam sc N),zw lam sc N (tr G n lam sc N) (tr G n none) (tr G n none),stepT (tr G n lam sc N)⟩
structure Lm(G:Sg)(X:Cx)(j:Nat):Prop where
 fn:∀x n m,G.fn.lookup x=some (n,m)->EF X.prog X.w X.K X.mg X.base j x n m
 int:∀x i,G.int.lookup x=some i->∃t,X.mg x=some (.int i t)
 bn:Bn X
structure n8(X:Cx)(tg iter:Expr)(ifs:List Expr)(elt:Expr)(scope:Scope)(f:Dl.Env->Option (List D)):Prop where
 ex:∃ (N':List Str) (t:Nat) (cs:List Nat) (fi:Dl.Env->Option (List D)) (tgt:Dl.Env->D->Option Dl.Env) (tt:Dl.Env->Option Bool) (te:FE),f=aj t cs fi tgt tt te/\gV X scope N' (iV t cs)/\DI X tg iter fi/\(∀x,foldedSetIterable iter X.env x=pure x) /\
  ∀fp s H,DG (aR X scope N' fp s H) tg tgt/\KY (aR X scope N' fp s H) ifs tt/\DE (aR X scope N' fp s H) elt te
structure c8(X:Cx)(T:Tr):Prop where
 c:∀elt gens scope p f,T.f (.ListComp elt gens scope p)=some f->∃tg iter ifs,gens=[⟨tg,iter,ifs,0⟩]/\n8 X tg iter ifs elt scope f
 e:∀e f,T.e e=some f->DE X e f
 f:∀e f,T.f e=some f->DF X e f
 t:∀e f,T.t e=some f->DT X e f
section
variable {G:Sg}{X:Cx}{N:List Str}{sc:Scope}{k j:Nat}{T:Tr}{pos p:Pos}
theorem BF(C:Bk X N sc k)(g:Lm G X j)(h:w8 G sc N x=some f):DE X (.Name x pos) f:=by
 unfold w8 at h
 split at h
 ·split at h
  ·cases h;exact C.v _ ‹_›
  ·cases h
 ·split at h
  ·rename_i hg
   obtain⟨n,hn,rfl⟩:=ag h
   obtain⟨t,ht⟩:=g.int x n hn
   simp only[zF,yP] at hg
   exact GF (C.gl hg.1) ht hg.2
  ·cases h
theorem w6(h:zr c=some f):DE X (.Constant c i pos) f:=by
 cases c<;>cases h<;>first|exact Il|exact KQ|exact HS|exact JM
theorem E1(C:Bk X N sc k)(O:c8 X T)(h:KS T op a=some f):DE X (.UnaryOp op a pos) f:=by
 cases op<;>try cases h
 ·obtain⟨x,hx,rfl⟩:=ag h;exact C.neg (O.e _ _ hx)
theorem DR(C:Bk X N sc k)(O:c8 X T)(h:Ce T (.BinOp a op b pos) a op b=some f):DE X (.BinOp a op b pos) f:=by
 unfold Ce at h
 split at h
 ·obtain⟨x,hx,rfl⟩:=ag h;exact DF.de (O.f _ _ hx)
 ·obtain⟨g,hg,h⟩:=bs h
  obtain⟨x,hx,h⟩:=bs h
  obtain⟨y,hy,rfl⟩:=ag h
  cases op<;>cases hg
  ·exact C.add (O.e _ _ hx) (O.e _ _ hy)
  ·exact C.sub (O.e _ _ hx) (O.e _ _ hy)
  ·exact C.mul (O.e _ _ hx) (O.e _ _ hy)
  ·exact C.mod (O.e _ _ hx) (O.e _ _ hy)
  ·exact C.div (O.e _ _ hx) (O.e _ _ hy)
theorem qa(O:c8 X T):∀ {es:List Expr}{f:FE},sd T op es=some f->DE X (.BoolOp op es pos) f
 | [],f,h=>by cases h
 | [a],f,h=>HN (O.e _ _ h)
 | a::b::r,f,h=>by
  unfold sd at h
  obtain⟨x,hx,h⟩:=bs h
  obtain⟨y,hy,rfl⟩:=ag h
  have ih:=qa O hy
  cases op with
  | And=>exact Jz (O.e _ _ hx) ih
  | Or=>exact KW (O.e _ _ hx) ih
theorem Ig(C:Bk X N sc k)(hg:KN op=some g)(hm:behindInMarks op b=false)(ha:DE X a x)(hb:DE X b y):DE X (.Compare a [op] [b] pos) (f2 g x y)/\DT X (.Compare a [op] [b] pos) (fB (f2 g x y)):=by
 cases op<;>cases hg
 ·exact⟨C.eq ha hb,C.teq ha hb⟩
 ·exact⟨C.ne ha hb,C.tne ha hb⟩
 ·exact⟨C.lt ha hb,C.tlt ha hb⟩
 ·exact⟨C.le ha hb,C.tle ha hb⟩
 ·exact⟨C.gt ha hb,C.tgt ha hb⟩
 ·exact⟨C.is0 ha hb,C.tis0 ha hb⟩
 ·exact⟨C.not0 ha hb,C.tnot0 ha hb⟩
 ·exact⟨C.isin ha hb hm,C.tin ha hb hm⟩
theorem HE(C:Bk X N sc k)(h:LZ op=some g):∃r,gz X (compareOp op) r/\eN X.K r g:=by
 cases op<;>cases h
 ·exact⟨_,Ef.or (Dl.sv C.room.units0),md i6 ip⟩
 ·exact⟨_,BX,i6⟩
theorem um(C:Bk X N sc k)(O:c8 X T){cs:List Expr}(h:Ae T a ops cs=some f):DE X (.Compare a ops cs pos) f/\DT X (.Compare a ops cs pos) (fB f):=by
 unfold Ae at h
 split at h
 ·split at h
  ·rename_i hm
   obtain⟨g,hg,h⟩:=bs h
   obtain⟨x,hx,h⟩:=bs h
   obtain⟨y,hy,rfl⟩:=ag h
   exact Ig C hg hm (O.e _ _ hx) (O.e _ _ hy)
  ·cases h
 ·split at h
  ·rename_i hm
   obtain⟨g,hg,h⟩:=bs h
   obtain⟨g',hg',h⟩:=bs h
   obtain⟨x,hx,h⟩:=bs h
   obtain⟨y,hy,h⟩:=bs h
   obtain⟨z,hz,rfl⟩:=ag h
   obtain⟨r,r1,r2⟩:=HE C hg
   obtain⟨r',r1',r2'⟩:=HE C hg'
   exact⟨EE r1 r2 r1' r2' (O.e _ _ hx) (O.e _ _ hy) (O.e _ _ hz) hm,Cq r1 r2 r1' r2' (O.e _ _ hx) (O.e _ _ hy) (O.e _ _ hz) hm⟩
  ·cases h
 ·cases h
theorem cX(O:c8 X T):∀ {es:List Expr}{fs:Dl.Env->Option (List D)},uo T es=some fs->DA X es fs
 | [],fs,h=>by cases h;exact Dr
 | e::es,fs,h=>by
  unfold uo at h
  split at h
  ·rename_i hs
   obtain⟨x,hx,h⟩:=bs h
   obtain⟨r,hr,rfl⟩:=ag h
   exact LS hs (O.e _ _ hx) (cX O hr)
  ·cases h
theorem EN(O:c8 X T)(h:MN T o=some f):DO X o f:=by
 cases o with
 | none=>cases h;exact FY
 | some e=>obtain⟨x,hx,rfl⟩:=ag h;exact E5 (O.e _ _ hx)
theorem xj(h:EB b=false):sk b:=by
 cases b<;>first|(intro _ _;rfl)|cases h
theorem B7(C:Bk X N sc k)(O:c8 X T)(h:D5 T a b=some f):DE X (.Subscript a b pos) f:=by
 unfold D5 at h
 split at h
 ·obtain⟨x,hx,h⟩:=bs h
  obtain⟨l,hl,h⟩:=bs h
  obtain⟨u,hu,rfl⟩:=ag h
  exact C.cut (O.e _ _ hx) (EN O hl) (EN O hu)
 ·split at h
  ·rename_i hc
   obtain⟨x,hx,h⟩:=bs h
   obtain⟨y,hy,rfl⟩:=ag h
   exact Kt (O.e _ _ hx) (O.e _ _ hy) (xj hc)
  ·cases h
theorem dB{env:PySem.Env}:∀ {es:List Expr},(es.all fun e=>!isStar e)=true->(backTo pos (starEach es env)).any (·.1)=false
 | [],_=>rfl
 | e::es,h=>by
  rw[xS,zF,yP] at h
  rw[bC h.1]
  show (false||(backTo pos (starEach es env)).any (·.1))=false
  rw[dB h.2]
  rfl
theorem Dg(h:mI e=some e'):∃p q,e=.Call (.Name "set" p) [e'] [] q:=by
 unfold mI at h
 split at h
 ·split at h
  ·rename_i hx;cases h;subst hx;exact⟨_,_,rfl⟩
  ·cases h
 ·cases h
theorem FC(h:Ia y=some ty):y∈dg/\bootBuiltins y=some (.type ty)/\y≠"__name__"/\(y == ("__debug__":Str))=false:=by
 unfold Ia at h
 split at h
 ·rename_i e;cases h;subst e;exact⟨by decide +kernel,by decide +kernel,by decide,by decide⟩
 ·split at h
  ·rename_i e;cases h;subst e;exact⟨by decide +kernel,by decide +kernel,by decide,by decide⟩
  ·split at h
   ·rename_i e;cases h;subst e;exact⟨by decide +kernel,by decide +kernel,by decide,by decide⟩
   ·split at h
    ·rename_i e;cases h;subst e;exact⟨by decide +kernel,by decide +kernel,by decide,by decide⟩
    ·cases h
theorem Ja:bootBuiltins "any"=some (.builtin "any"):=by decide +kernel
theorem IK:bootBuiltins "sum"=some (.builtin "sum"):=by decide +kernel
theorem Ij:bootBuiltins "max"=some (.builtin "max"):=by decide +kernel
theorem Iy:bootBuiltins "min"=some (.builtin "min"):=by decide +kernel
theorem wa(h:l.length=1):∃a,l=[a]:=by
 match l,h with
 | [a],_=>exact⟨a,rfl⟩
theorem AZ(C:Bk X N sc k)(g:Lm G X j)(O:c8 X T)(hg:AC sc x=true)(hs:args.all (fun e=>!isStar e)=true)(h:xa T x args=some f):DE X (.Call (.Name x p) args [] pos) f:=by
 have st1:∀ {e:Expr}{es:List Expr},args=e::es->starEach (e::es) X.env=(false,eval e X.env)::starEach es X.env:=fun {e es} q=>by
  subst q
  rw[xS,zF,yP] at hs
  exact bC hs.1
 have st2:∀ {e:Expr}{es:List Expr},args=e::es->(backTo pos (starEach es X.env)).any (·.1)=false:=fun {e es} q=>by
  subst q
  rw[xS,zF] at hs
  exact dB hs.2
 unfold xa at h
 split at h
 ·rename_i hx
  subst hx
  split at h
  ·cases h
  ·rename_i hl
   obtain⟨fs,hfs,rfl⟩:=ag h
   cases args with
   | nil=>exact absurd rfl hl
   | cons e es =>
    exact IC C.calm (C.blt g.bn hg (by decide +kernel) Ij) (st1 rfl) (st2 rfl) (cX O hfs)
 ·cases h
theorem AQ(C:Bk X N sc k)(g:Lm G X j)(hjk:j<=k)(O:c8 X T)(h:v9 G sc T (.Call (.Name x p) args [] pos) x args=some f):DE X (.Call (.Name x p) args [] pos) f:=by
 unfold v9 at h
 split at h
 ·rename_i hg
  rw[zF] at hg
  obtain⟨hg,hs⟩:=hg
  have st1:∀ {e:Expr}{es:List Expr},args=e::es->starEach (e::es) X.env=(false,eval e X.env)::starEach es X.env:=fun {e es} q=>by
   subst q
   rw[xS,zF,yP] at hs
   exact bC hs.1
  have st2:∀ {e:Expr}{es:List Expr},args=e::es->(backTo pos (starEach es X.env)).any (·.1)=false:=fun {e es} q=>by
   subst q
   rw[xS,zF] at hs
   exact dB hs.2
  split at h
  ·rename_i n m hfn
   split at h
   ·cases h
   ·rename_i hne
    obtain⟨fs,hfs,rfl⟩:=ag h
    cases args with
    | nil=>exact absurd (by simp) hne
    | cons e es =>
     have hd:(x == ("__debug__":Str))=false:=by simpa using hne
     exact GD (g.fn x n m hfn) (C.room.mono hjk) (C.gl hg) (cX O hfs) hd (st1 rfl) (st2 rfl)
  ·split at h
   ·rename_i hx
    subst hx
    split at h
    ·rename_i e
     split at h
     ·rename_i e' he'
      split at h
      ·rename_i hg2
       rw[zF,yP] at hg2
       obtain⟨y,hy,rfl⟩:=ag h
       obtain⟨p1,p2,rfl⟩:=Dg he'
       exact BB C.calm (C.blt g.bn hg (by decide +kernel) EA) (C.blt g.bn hg2.1 (by decide +kernel) CH) (O.e _ _ hy) (bC hg2.2)
      ·cases h
     ·obtain⟨fs,hfs,rfl⟩:=ag h
      exact Jp (C.blt g.bn hg (by decide +kernel) EA) (cX O hfs) (st1 rfl)
    ·cases h
   ·split at h
    ·rename_i hx
     subst hx
     split at h
     ·rename_i e y py
      split at h
      ·rename_i hgy
       obtain⟨ty,hty,h⟩:=bs h
       obtain⟨z,hz,rfl⟩:=ag h
       obtain⟨t1,t2,t3,t4⟩:=FC hty
       exact Kl (C.blt g.bn hg (by decide +kernel) pG) (C.blt g.bn hgy t1 t2) (O.e _ _ hz) t3 t4 (st1 rfl)
      ·cases h
     ·cases h
    ·split at h
     ·rename_i hx
      subst hx
      split at h
      ·rename_i hl
       obtain⟨fs,hfs,rfl⟩:=ag h
       obtain⟨e,rfl⟩:=wa hl
       exact CJ (C.blt g.bn hg (by decide +kernel) ER) (cX O hfs) (st1 rfl)
      ·cases h
     ·split at h
      ·rename_i hx
       subst hx
       split at h
       ·rename_i hl
        obtain⟨fs,hfs,rfl⟩:=ag h
        obtain⟨e,rfl⟩:=wa hl
        exact Jw C.calm (C.blt g.bn hg (by decide +kernel) Jy) (cX O hfs) (st1 rfl)
       ·cases h
      ·split at h
       ·rename_i hx
        subst hx
        split at h
        ·rename_i hl
         obtain⟨fs,hfs,rfl⟩:=ag h
         obtain⟨e,rfl⟩:=wa hl
         exact JW C.calm (C.blt g.bn hg (by decide +kernel) Ja) (st1 rfl) (cX O hfs)
        ·cases h
       ·split at h
        ·rename_i hx
         subst hx
         split at h
         ·rename_i hl
          obtain⟨fs,hfs,rfl⟩:=ag h
          obtain⟨e,rfl⟩:=wa hl
          exact Jb C.calm (C.blt g.bn hg (by decide +kernel) IK) (st1 rfl) (cX O hfs)
         ·cases h
        ·split at h
         ·rename_i hx
          subst hx
          split at h
          ·cases h
          ·rename_i hl
           obtain⟨fs,hfs,rfl⟩:=ag h
           cases args with
           | nil=>exact absurd rfl hl
           | cons e es =>
            exact Jo C.calm (C.blt g.bn hg (by decide +kernel) Iy) (st1 rfl) (st2 rfl) (cX O hfs)
         ·split at h
          ·obtain⟨y,hy,rfl⟩:=ag h
           exact DF.de (O.f _ _ hy)
          ·exact AZ C g O hg hs h
 ·cases h
end
section
variable {G:Sg}{X:Cx}{N:List Str}{sc:Scope}{k j:Nat}{T:Tr}{pos p:Pos}
theorem MF{env:PySem.Env}(h:isStar e=false):((backTo cpos (starEach [e] env)).all (fun x=>!x.1)&&(backToKw cpos (keywordEach [] env)).all (fun x=>x.1.isSome)&&decide ([e].length+([]:List Keyword).length+(if ([]:List Keyword).isEmpty then 0 else 1) < 30))=true:=by
 rw[bC h];rfl
theorem lW{env:PySem.Env}(h:Ao o=false):attributeBase o a env w=w:=by
 cases o<;>first|rfl|cases h
theorem BL(C:Bk X N sc k)(O:c8 X T)(h:wX T o m apos args cpos=some f):DE X (.Call (.Attribute o m apos) args [] cpos) f:=by
 unfold wX at h
 split at h
 ·rename_i hm
  rw[zF,zF,yP] at hm
  obtain⟨⟨hm1,hm⟩,hcl⟩:=hm
  have e1:m="index":=eq_of_beq hm1
  subst e1
  split at h
  ·rename_i e
   split at h
   ·rename_i hs
    obtain⟨x,hx,h⟩:=bs h
    obtain⟨y,hy,rfl⟩:=ag h
    exact AJ (lW hcl) (MF hs) hm (bC hs) (O.e _ _ hx) (O.e _ _ hy)
   ·cases h
  ·cases h
 ·cases h
theorem CS(C:Bk X N sc k)(g:Lm G X j)(hjk:j<=k)(O:c8 X T)(h:C5 G sc N T e=some f):DE X e f:=by
 unfold C5 at h
 split at h
 ·exact BF C g h
 ·exact w6 h
 ·exact E1 C O h
 ·exact DR C O h
 ·exact qa O h
 ·exact (um C O h).1
 ·obtain⟨z,hz,h⟩:=bs h
  obtain⟨x,hx,h⟩:=bs h
  obtain⟨y,hy,rfl⟩:=ag h
  exact Lw (O.t _ _ hz) (O.e _ _ hx) (O.e _ _ hy)
 ·obtain⟨x,hx,rfl⟩:=ag h;exact Iz (cX O hx)
 ·exact B7 C O h
 ·obtain⟨x,hx,rfl⟩:=ag h;exact DF.de (O.f _ _ hx)
 ·obtain⟨x,hx,rfl⟩:=ag h;exact DF.de (O.f _ _ hx)
 ·exact AQ C g hjk O h
 ·obtain⟨x,hx,rfl⟩:=ag h;exact DF.de (O.f _ _ hx)
 ·exact BL C O h
 ·cases h
theorem Ei(O:c8 X T):∀ {es:List Expr}{f:Dl.Env->Option Bool},LC T op es=some f->DW X (.BoolOp op es pos) f
 | [],f,h=>by cases h
 | [a],f,h=>by
  cases op with
  | And=>exact E2 (O.t _ _ h)
  | Or=>exact Ic (O.t _ _ h)
 | a::b::r,f,h=>by
  unfold LC at h
  obtain⟨x,hx,h⟩:=bs h
  obtain⟨y,hy,rfl⟩:=ag h
  have ih:=Ei O hy
  cases op with
  | And=>exact IU (O.t _ _ hx) ih
  | Or=>exact Kz (O.t _ _ hx) ih
theorem D6(C:Bk X N sc k)(O:c8 X T)(h:stepT T e=some f):DT X e f:=by
 unfold stepT at h
 split at h
 ·obtain⟨x,hx,rfl⟩:=ag h;exact (um C O hx).2
 ·obtain⟨x,hx,rfl⟩:=ag h;exact Im (O.t _ _ hx)
 ·exact DW.dt (Ei O h)
 ·split at h
  ·rename_i hp
   obtain⟨x,hx,rfl⟩:=ag h
   refine J6 (O.e _ _ hx) ?_
   revert hp
   cases e<;>first|(intro hp;cases hp;done)|(intro hp _;rfl)
  ·cases h
theorem J2{env:PySem.Env}(h:IJ e=true):∀x,foldedSetIterable e env x=pure x:=by
 cases e<;>first|(intro _;rfl)|cases h
theorem Da(C:Bk X N sc k)(B:Bn X)(O:c8 X T)(h:LG sc T tg iter=some fi):DI X tg iter fi/\∀x,foldedSetIterable iter X.env x=pure x:=by
 unfold LG at h
 split at h
 ·refine⟨?_,fun _=>rfl⟩
  split at h
  ·rename_i hx
   subst hx
   split at h
   ·split at h
    ·rename_i hg
     rw[zF,yP] at hg
     obtain⟨x,hx,rfl⟩:=ag h
     exact CY (C.blt B hg.1 (by decide +kernel) Ek) (cX O hx) (bC hg.2)
    ·cases h
   ·cases h
  ·split at h
   ·rename_i hx
    subst hx
    split at h
    ·split at h
     ·rename_i hg
      simp only[zF,yP] at hg
      obtain⟨x,hx,rfl⟩:=ag h
      cases tg<;>first|exact Gn (C.blt B hg.1.1 (by decide +kernel) sV) (cX O hx) (bC hg.1.2)|exact absurd hg.2 (by simp[sC])
     ·cases h
    ·cases h
   ·split at h
    ·rename_i hx
     subst hx
     split at h
     ·split at h
      ·rename_i e e' hg
       simp only[zF,yP] at hg
       obtain⟨x,hx,rfl⟩:=ag h
       cases tg<;>first|exact GU (C.blt B hg.1.1.1 (by decide +kernel) Iv) (bC hg.1.1.2) (dB (by simp[hg.1.2])) (cX O hx)|exact absurd hg.2 (by simp[sC])
      ·cases h
     ·cases h
    ·obtain⟨x,hx,rfl⟩:=ag h
     exact EH (O.e _ _ hx)
 ·cases h
 ·rename_i h1 h2
  obtain⟨x,hx,rfl⟩:=ag h
  refine⟨EH (O.e _ _ hx),J2 ?_⟩
  cases iter<;>first|rfl|exact absurd rfl (h2 _ _ _)
theorem JD(h:Mp tg=some xs):(∃x px,tg=.Name x px/\xs=[x])\/∃x px y py m pt,tg=.Tuple [.Name x px,.Name y py] m pt/\xs=[x,y]:=by
 unfold Mp at h
 split at h
 ·cases h;exact .inl ⟨_,_,rfl,rfl⟩
 ·cases h;exact .inr ⟨_,_,_,_,_,_,rfl,rfl⟩
 ·cases h
theorem Jx(h:L7 tg=some xs):((∃x px,tg=.Name x px/\xs=[x])\/∃x px y py m pt,tg=.Tuple [.Name x px,.Name y py] m pt/\xs=[x,y])\/∃x px y py z pz m pt,tg=.Tuple [.Name x px,.Name y py,.Name z pz] m pt/\xs=[x,y,z]:=by
 unfold L7 at h
 split at h
 ·cases h;exact .inr ⟨_,_,_,_,_,_,_,_,rfl,rfl⟩
 ·exact .inl (JD h)
theorem qr(C:Bk X N sc k)(B:Bn X)(O:c8 X T)(OB:∀scope N' fp s H,Bk (aR X scope N' fp s H) N' scope k->c8 (aR X scope N' fp s H) (blk scope N'))
  (h:sS sc N T blk elt [⟨tg,iter,ifs,as⟩] scope=some f):as=0/\n8 X tg iter ifs elt scope f:=by
 unfold sS at h
 dsimp only at h
 split at h
 ·rename_i has
  refine⟨has,?_⟩
  obtain⟨xs,hxs,h⟩:=bs h
  split at h
  ·rename_i hok
   rw[zF] at hok
   obtain⟨fi,hfi,h⟩:=bs h
   obtain⟨tt,htt,h⟩:=bs h
   obtain⟨te,hte,rfl⟩:=ag h
   obtain⟨S,CB⟩:=C.comp hok.1
   obtain⟨hd,hfold⟩:=Da C B O hfi
   refine⟨_,_,_,_,_,_,_,rfl,S,hd,hfold,fun fp s H=>?_⟩
   have C1:=CB fp s H
   have O1:=OB scope _ fp s H C1
   refine⟨?_,?_,O1.e _ _ hte⟩
   ·rcases Jx hxs with (⟨x,px,rfl,rfl⟩|⟨x,px,y,py,m,pt,rfl,rfl⟩)|⟨x,px,y,py,z,pz,m,pt,htg,rfl⟩
    ·have z:=C1.loc (i:=0) (x:=x) (List.all_eq_true.mp hok.2 0 (by simp))
     exact Gi 0 z.1 z.2.1 z.2.2.1 z.2.2.2
    ·have z:=C1.loc (i:=0) (x:=x) (List.all_eq_true.mp hok.2 0 (by simp))
     have w:=C1.loc (i:=1) (x:=y) (List.all_eq_true.mp hok.2 1 (by simp))
     exact JK 0 1 C1.calm z.1 z.2.1 z.2.2.1 w.2.1 w.2.2.1 z.2.2.2 w.2.2.2
    ·have z0:=C1.loc (i:=0) (x:=x) (List.all_eq_true.mp hok.2 0 (by simp))
     have w:=C1.loc (i:=1) (x:=y) (List.all_eq_true.mp hok.2 1 (by simp))
     have u:=C1.loc (i:=2) (x:=z) (List.all_eq_true.mp hok.2 2 (by simp))
     subst htg
     exact D4 0 1 2 C1.calm z0.1 z0.2.1 z0.2.2.1 w.2.1 w.2.2.1 u.2.1 u.2.2.1 z0.2.2.2 w.2.2.2 u.2.2.2
   ·unfold G7 at htt
    split at htt
    ·cases htt;exact Gm
    ·exact GA (O1.t _ _ htt)
    ·cases htt
  ·cases h
 ·cases h
theorem n8.df(hc:X.calm=true)(h:n8 X tg iter ifs elt scope f):DF X (.ListComp elt [⟨tg,iter,ifs,0⟩] scope pos) f:=by
 obtain⟨N',t,cs,fi,tgt,tt,te,rfl,S,hd,hfold,hY⟩:=h.ex
 exact GJ hc S hd hY hfold
theorem Dk(h:Dv a=some x):∃px,a=⟨[],[⟨x,none,px⟩],none,[],[],none,[]⟩/\(x="number"\/x="plan"):=by
 unfold Dv at h
 split at h
 ·split at h
  ·cases h;exact⟨_,rfl,.inl ‹_›⟩
  ·split at h
   ·cases h;exact⟨_,rfl,.inr ‹_›⟩
   ·cases h
 ·cases h
theorem bind1{x q:Str}{px:Pos}{body:Expr}{scope:Scope}{cl:List (Str×Addr)}{pm ctv u:Value}{c:Addr}(h:x="number"\/x="plan") :
  bindArgs (PySem.W.kla_fn "<lambda>" q ⟨[],[⟨x,none,px⟩],none,[],[],none,[]⟩ body scope cl pm (.ref c) ctv) ⟨[u],[]⟩=pure [(x,u)]:=by
 rcases h with rfl|rfl<;>rfl
theorem xf{sc:Scope}{e e':Expr}(h:setIn sc e=some e'):∃p1 p2,e=.Call (.Name "set" p1) [e'] [] p2/\AC sc "set"=true/\isStar e'=false:=by
 unfold setIn at h
 split at h
 ·split at h
  ·rename_i hc
   cases h
   rw[zF,zF,yP] at hc
   have e1:=eq_of_beq hc.1.1
   subst e1
   exact⟨_,_,rfl,hc.1.2,hc.2⟩
  ·cases h
 ·cases h
theorem xv{lam:Option Str}(C:Bk X N sc k)(B:Bn X)(hlam:∀q,lam=some q->uf X q/\j+3<=k)(O:c8 X T){lmb:Scope->List Str->Tr}
  (OL:∀scope N' qual A f c s H,Bk (j7 X A qual scope N' f c s H) N' scope (k - 3)->j<=k - 3->c8 (j7 X A qual scope N' f c s H) (lmb scope N')) {l body:Expr}{params:Arguments}{scope:Scope}{p0 lpos kpos:Pos}{f:Dl.Env->Option (List D)}
  (h:rm lam sc N T lmb l params body scope=some f):DF X (.Call (.Name "sorted" p0) [l] [⟨some "key",.Lambda params body scope lpos,kpos⟩] pos) f:=by
 unfold rm at h
 split at h
 ·rename_i hg
  simp only[zF,yP] at hg
  obtain⟨⟨hl,hg⟩,hs⟩:=hg
  obtain⟨q,rfl⟩:=Option.isSome_iff_exists.mp hl
  obtain⟨L,hk⟩:=hlam q rfl
  obtain⟨x,hx,h2⟩:=bs h
  clear h
  obtain⟨px,rfl,hpx⟩:=Dk hx
  split at h2
  ·rename_i hok
   rw[zF] at hok
   obtain⟨fl,hfl,h⟩:=bs h2
   obtain⟨te,hte,rfl⟩:=ag h
   obtain⟨k',rfl⟩:∃k',k=k'+3:=⟨k - 3,by omega⟩
   exact Bk.sortK (p:=x) C (C.blt B hg (by decide +kernel) mL) L hok.1 hok.2 (fun _ _ _ _ _=>bind1 hpx) rfl (O.e _ _ hfl) (fun A f c s H C'=>(OL scope _ q A f c s H C' (by omega)).e _ _ hte) (bC hs) (by rw[bC hs];rfl) (dB (by simp[hs]))
  ·cases h2
 ·cases h
theorem C0(C:Bk X N sc k)(B:Bn X)(hlam:∀q,lam=some q->uf X q/\j+3<=k)(O:c8 X T)
  (OB:∀scope N' fp s H,Bk (aR X scope N' fp s H) N' scope k->c8 (aR X scope N' fp s H) (blk scope N'))
  (OL:∀scope N' qual A f c s H,Bk (j7 X A qual scope N' f c s H) N' scope (k - 3)->j<=k - 3->c8 (j7 X A qual scope N' f c s H) (lmb scope N')) {e:Expr}{f:Dl.Env->Option (List D)}(h:zw lam sc N T blk lmb e=some f):DF X e f:=by
 unfold zw at h
 split at h
 ·obtain⟨x,hx,rfl⟩:=ag h;exact IB (cX O hx)
 ·rename_i elt gens scope ps
  match gens,h with
  | [⟨tg,iter,ifs,as⟩],h =>
   obtain⟨rfl,q⟩:=qr C B O OB h
   exact q.df C.calm
 ·obtain⟨x,hx,h⟩:=bs h
  obtain⟨y,hy,rfl⟩:=ag h
  exact HU (O.e _ _ hx) (O.e _ _ hy)
 ·split at h
  ·rename_i hk
   rw[zF] at hk
   have e1:=eq_of_beq hk.1
   have e2:=eq_of_beq hk.2
   subst e1 e2
   exact xv C B hlam O OL h
  ·cases h
 ·split at h
  ·rename_i hg
   rw[zF,yP] at hg
   split at h
   ·rename_i hx
    subst hx
    split at h
    ·rename_i e' hs
     obtain⟨f,hf,rfl⟩:=ag h
     obtain⟨p1,p2,rfl,h1,h2⟩:=xf hs
     exact vy C.calm (C.blt B hg.1 (by decide +kernel) mL) (C.blt B h1 (by decide +kernel) CH) (O.e _ _ hf) (bC h2)
    ·obtain⟨x,hx,rfl⟩:=ag h
     exact BJ (C.blt B hg.1 (by decide +kernel) mL) (cX O hx) (bC hg.2)
   ·cases h
  ·cases h
 ·cases h
theorem FI(C:Bk X N sc k)(B:Bn X)(O:c8 X T)(OB:∀scope N' fp s H,Bk (aR X scope N' fp s H) N' scope k->c8 (aR X scope N' fp s H) (blk scope N'))
  {elt:Expr}{gens:List Comprehension}{scope:Scope}{p:Pos}{f:Dl.Env->Option (List D)}(h:zw lam sc N T blk lmb (.ListComp elt gens scope p)=some f):∃tg iter ifs,gens=[⟨tg,iter,ifs,0⟩]/\n8 X tg iter ifs elt scope f:=by
 have h:sS sc N T blk elt gens scope=some f:=h
 match gens,h with
 | [⟨tg,iter,ifs,as⟩],h =>
  obtain⟨rfl,q⟩:=qr C B O OB h
  exact⟨tg,iter,ifs,rfl,q⟩
theorem Hi(n:Nat):∀ {lam:Option Str}{X:Cx}{N:List Str}{sc:Scope}{k:Nat},Bk X N sc k->Lm G X j->j<=k->(∀q,lam=some q->uf X q/\j+3<=k)->c8 X (tr G n lam sc N):=by
 induction n with
 | zero=>intro lam X N sc k C g hjk hlam;exact⟨fun _ _ _ _ _ h=>(by cases h),fun _ _ h=>(by cases h),fun _ _ h=>(by cases h),fun _ _ h=>(by cases h)⟩
 | succ n ih =>
  intro lam X N sc k C g hjk hlam
  have O:=ih C g hjk hlam
  exact⟨fun elt gens scope p f h=>FI (lam:=lam) (lmb:=tr G n none) (p:=p) C g.bn O (fun scope N' fp s H C'=>ih C' ⟨g.fn,g.int,g.bn⟩ hjk fun q z=>by cases z) h,fun e f h=>CS C g hjk O h,
   fun e f h=>C0 C g.bn hlam O (fun scope N' fp s H C'=>ih C' ⟨g.fn,g.int,g.bn⟩ hjk fun q z=>by cases z) (fun scope N' qual A f c s H C' hk=>ih C' ⟨g.fn,g.int,g.bn⟩ hk fun q z=>by cases z) h,
   fun e f h=>D6 C O h⟩
end
def oa:Nat->Expr->List Str
 | 0,_=>[]
 | n+1,e=>match e with
  | .Name x _=>[x]
  | .UnaryOp _ a _=>oa n a
  | .BinOp a _ b _=>oa n a++oa n b
  | .BoolOp _ es _=>es.flatMap (oa n)
  | .Compare a _ cs _=>oa n a++cs.flatMap (oa n)
  | .IfExp c a b _=>oa n c++(oa n a++oa n b)
  | .Tuple es _ _=>es.flatMap (oa n)
  | .List es _=>es.flatMap (oa n)
  | .Subscript a b _=>oa n a++oa n b
  | .Slice lo hi st _=>(lo.toList++(hi.toList++st.toList)).flatMap (oa n)
  | .Call f args kws _=>oa n f++(args.flatMap (oa n)++kws.flatMap fun k=>oa n k.value)
  | .Attribute o _ _=>oa n o
  | .ListComp elt gens _ _=>oa n elt++gens.flatMap fun g=>oa n g.iter++g.ifs.flatMap (oa n)
  | .Lambda _ b _ _=>oa n b
  | _=>[]
def oo(N:List Str)(e:Expr):List Nat:=let ns:=oa 60 e;(List.range N.length).filter fun j=>match N[j]? with|some x=>ns.contains x|none=>false
abbrev GS:=ao->Option Out
def turns:Nat:=1000000
def DY:Expr->Bool
 | .ListComp ..=>true
 | .SetComp ..=>true
 | .DictComp ..=>true
 | _=>false
def Dy(sc:Scope)(N:List Str)(T:Tr)(x:Str)(px:Pos)(e:Expr):Option GS :=
 (N.idxOf? x).bind fun i=>if pw N sc i x=true then
  (if za e=true then (match e with
   | .ListComp _ _ scope lp =>
    if (decide (sc.names.lookup x=some .local)&&(px.line == lp.line&&!(scope.names.any fun (n,k)=>n == x&&(k == .local || k == .cell))))=true then (T.f e).map fun f=>aN i (oo N e) f
    else if decide (sc.names.lookup x=some .cell)=true then (T.f e).map fun f=>aN i (oo N e) f
    else if (px.line == lp.line)=false then (T.f e).map fun f=>aN i (oo N e) f
    else none
   | _=>(T.f e).map fun f=>aN i (oo N e) f)
  else if DY e=false then (T.e e).map fun f=>az i (oo N e) f else none) else none
def Ds(N:List Str)(sc:Scope)(T:Tr)(e:Expr):Option GS:=match e with
 | .Constant (.str _) _ _=>some fO
 | .Call (.Attribute (.Name x _) m apos) args [] cpos =>
  (N.idxOf? x).bind fun i=>if (AH N sc i x&&apos.endLine == cpos.line&&args.all fun e=>!isStar e)=true then
   (if m="append" then (match args with
    | [a]=>(T.e a).map fun f=>kb i (oo N a) f
    | _=>none)
   else if m="extend" then (match args with
    | [a]=>(T.f a).map fun f=>rG i (oo N a) f
    | _=>none)
   else if m="insert" then (match args with
    | [a,b]=>(T.e a).bind fun fk=>(T.e b).map fun f=>B3 i (oo N b) fk f
    | _=>none)
   else none) else none
 | .Call (.Name _ _) _ _ _=>(T.e e).map fK
 | _=>none
def Ms(sc:Scope)(N:List Str)(tg:Expr):Option (ao->D->Option ao):=match tg with
 | .Name x _=>(N.idxOf? x).bind fun i=>if pw N sc i x=true then some (ig i) else none
 | .Tuple [.Name x _,.Name y _] _ _=>(N.idxOf? x).bind fun i=>(N.idxOf? y).bind fun j=>if (pw N sc i x&&pw N sc j y)=true then some (g8 i j) else none
 | _=>none
def C6(sc:Scope)(N:List Str)(T:Tr)(x:Str)(kx e:Expr):Option GS :=
 (N.idxOf? x).bind fun i=>if (AH N sc i x&&!EB kx)=true then (T.e kx).bind fun fk=>(T.e e).map fun f=>xi i (oo N e) fk f else none
def rX(sc:Scope)(N:List Str)(T:Tr)(x y z:Str)(e:Expr):Option GS :=
 (N.idxOf? x).bind fun i=>(N.idxOf? y).bind fun j=>(N.idxOf? z).bind fun l=>if (((pw N sc i x&&pw N sc j y)&&pw N sc l z)&&Au e)=true then (T.e e).map fun f=>xr i j l (oo N e) f else none
def oQ(f:Stmt->Option GS):List Stmt->Option GS
 | []=>some fO
 | [s]=>f s
 | s::r=>(f s).bind fun g=>(oQ f r).map fun h=>ar g h
def EV(sc:Scope)(N:List Str)(T:Tr):Nat->Stmt->Option GS
 | 0,_=>none
 | n+1,st=>match st with
  | .Return (some e) _=>(T.e e).map aG
  | .If c a b _=>(T.t c).bind fun t=>(oQ (EV sc N T n) a).bind fun g=>(oQ (EV sc N T n) b).map fun h=>fX t g h
  | .Assign [.Name x px] e _=>Dy sc N T x px e
  | .Assign [.Subscript (.Name x _) kx _] e _=>C6 sc N T x kx e
  | .Assign [.Tuple [.Name x _,.Name y _,.Name z _] _ _] e _=>rX sc N T x y z e
  | .For tg iter body [] _=>(LG sc T tg iter).bind fun fi=>(Ms sc N tg).bind fun t=>(oQ (EV sc N T n) body).map fun g=>cy (oo N iter) fi t g
  | .While c body [] _=>(T.t c).bind fun t=>(oQ (EV sc N T n) body).map fun g=>F2 t g turns
  | .Expr e _=>Ds N sc T e
  | .Raise ..=>some Ka
  | .Pass _=>some fO
  | _=>none
section
variable {X:Cx}{N:List Str}{sc:Scope}{k:Nat}{T:Tr}{HF₀ H₀:Hp}{pos:Pos}
theorem gM(H:∀s g,f s=some g->DS X HF₀ H₀ s g):∀ {l:List Stmt}{g:GS},oQ f l=some g->BN X HF₀ H₀ l g
 | [],g,h=>by cases h;exact Fq
 | [s],g,h=>FL (H _ _ h)
 | s::t::r,g,h=>by
  unfold oQ at h
  obtain⟨x,hx,h⟩:=bs h
  obtain⟨y,hy,rfl⟩:=ag h
  exact Eb (H _ _ hx) (gM H hy)
theorem qs{env:PySem.Env}(h:DY e=false):swapsWith e (some (.Name x px)) line env=pure false:=by
 cases e<;>first|rfl|cases h
theorem Dc(C:Bk X N sc k)(O:c8 X T)(h:Dy sc N T x px e=some g):DS X HF₀ H₀ (.Assign [.Name x px] e pos) g:=by
 unfold Dy at h
 obtain⟨i,hi,h⟩:=bs h
 split at h
 ·rename_i hloc
  obtain⟨z1,z2,z3,z4⟩:=C.loc hloc
  split at h
  ·split at h
   ·rename_i elt gens scope lp hl
    split at h
    ·rename_i hc
     rw[zF] at hc
     obtain⟨f,hf,rfl⟩:=ag h
     obtain⟨tg,iter,ifs,rfl,q⟩:=O.c _ _ _ _ _ hf
     obtain⟨N',t,cs,fi,tgt,tt,te,rfl,S,hd,hfold,hY⟩:=q.ex
     exact E3 i _ C.calm S hd hY z1 z2 (C.locl hc.1) (C.swap hc.1 hc.2) hfold
    ·split at h
     ·rename_i hc
      obtain⟨f,hf,rfl⟩:=ag h
      exact sU i _ z1 z2 z3 (O.f _ _ hf) (C.noswap hc) z4
     ·split at h
      ·rename_i hc
       obtain⟨f,hf,rfl⟩:=ag h
       refine sU i _ z1 z2 z3 (O.f _ _ hf) ?_ z4
       rw[pd,hc]
       simp
      ·cases h
   ·rename_i hl hn
    obtain⟨f,hf,rfl⟩:=ag h
    refine sU i _ z1 z2 z3 (O.f _ _ hf) (qs ?_) z4
    cases e<;>first|rfl|exact absurd rfl (hn _ _ _ _)|(rename_i hl _;cases hl;done)
  ·split at h
   ·rename_i hc
    obtain⟨f,hf,rfl⟩:=ag h
    exact Iq i _ z1 z2 z3 (O.e _ _ hf) (qs hc) z4
   ·cases h
 ·cases h
theorem wx{env:PySem.Env}(h:(es.all fun e=>!isStar e)=true)(hl:es.length < 20):((backTo cpos (starEach es env)).all (fun x=>!x.1)&&(backToKw cpos (keywordEach [] env)).all (fun x=>x.1.isSome)&&decide (es.length+([]:List Keyword).length+(if ([]:List Keyword).isEmpty then 0 else 1) < 30))=true:=by
 have h1:(backTo cpos (starEach es env)).all (fun x=>!x.1)=true:=by
  have:=dB (pos:=cpos) (env:=env) h
  rw[List.all_eq_not_any_not]
  simpa using this
 rw[h1]
 simp[backToKw,keywordEach]
 omega
theorem Eu(C:Bk X N sc k)(O:c8 X T)(h:Ds N sc T e=some g):DS X HF₀ H₀ (.Expr e pos) g:=by
 unfold Ds at h
 split at h
 ·cases h;exact HZ
 ·rename_i x px m apos args cpos
  replace h:=bs h
  obtain⟨i,hi,h⟩:=h
  split at h
  ·rename_i hv
   simp only[zF] at hv
   obtain⟨⟨hv,hline⟩,hs⟩:=hv
   obtain⟨z1,z2,z3,z4⟩:=C.vis hv
   split at h
   ·rename_i hm
    subst hm
    split at h
    ·obtain⟨f,hf,rfl⟩:=ag h
     exact Bo i _ z1 z2 (O.e _ _ hf) z3 z4 (wx hs (by simp)) hline (bC (by simpa using hs))
    ·cases h
   ·split at h
    ·rename_i hm
     subst hm
     split at h
     ·obtain⟨f,hf,rfl⟩:=ag h
      exact A8 i _ z1 z2 (O.f _ _ hf) z3 z4 (wx hs (by simp)) hline (bC (by simpa using hs))
     ·cases h
    ·split at h
     ·rename_i hm
      subst hm
      split at h
      ·obtain⟨fk,hfk,h⟩:=bs h
       obtain⟨f,hf,rfl⟩:=ag h
       have hs':=hs
       simp only[xS,List.all_nil,Bool.and_true,zF,yP] at hs'
       exact Bu i _ z1 z2 (O.e _ _ hfk) (O.e _ _ hf) z3 z4 (wx hs (by simp)) hline (bC hs'.1) (bC hs'.2)
      ·cases h
     ·cases h
  ·cases h
 ·obtain⟨f,hf,rfl⟩:=ag h
  exact E7 rfl (O.e _ _ hf)
 ·cases h
theorem Jr(C:Bk X N sc k)(h:Ms sc N tg=some t):LK X HF₀ H₀ tg t:=by
 unfold Ms at h
 split at h
 ·obtain⟨i,hi,h⟩:=bs h
  split at h
  ·rename_i hl
   cases h
   have z:=C.loc hl
   exact B5 i z.1 z.2.1 z.2.2.1 z.2.2.2
  ·cases h
 ·obtain⟨i,hi,h⟩:=bs h
  obtain⟨j,hj,h⟩:=bs h
  split at h
  ·rename_i hl
   rw[zF] at hl
   cases h
   have z:=C.loc hl.1
   have w:=C.loc hl.2
   exact Gx i j C.calm z.1 z.2.1 z.2.2.1 w.2.1 w.2.2.1 z.2.2.2 w.2.2.2
  ·cases h
 ·cases h
theorem yc(C:Bk X N sc k)(O:c8 X T)(h:rX sc N T x y z e=some g):DS X HF₀ H₀ (.Assign [.Tuple [.Name x px,.Name y py,.Name z pz] m pt] e pos) g:=by
 unfold rX at h
 obtain⟨i,hi,h⟩:=bs h
 obtain⟨j,hj,h⟩:=bs h
 obtain⟨l,hl',h⟩:=bs h
 split at h
 ·rename_i hl
  rw[zF,zF,zF] at hl
  obtain⟨f,hf,rfl⟩:=ag h
  have z:=C.loc hl.1.1.1
  have w:=C.loc hl.1.1.2
  have u:=C.loc hl.1.2
  exact CA i j l _ C.calm z.1 z.2.1 z.2.2.1 w.2.1 w.2.2.1 u.2.1 u.2.2.1 hl.2 (O.e _ _ hf) z.2.2.2 w.2.2.2 u.2.2.2
 ·cases h
theorem BY(C:Bk X N sc k)(O:c8 X T)(h:C6 sc N T x kx e=some g):DS X HF₀ H₀ (.Assign [.Subscript (.Name x px) kx spos] e pos) g:=by
 unfold C6 at h
 obtain⟨i,hi,h⟩:=bs h
 split at h
 ·rename_i hv
  simp only[zF,yP] at hv
  obtain⟨hv,hc⟩:=hv
  obtain⟨z1,z2,z3,z4⟩:=C.vis hv
  obtain⟨fk,hfk,h⟩:=bs h
  obtain⟨f,hf,rfl⟩:=ag h
  refine EO i _ z1 z2 (O.e _ _ hfk) (O.e _ _ hf) z3 z4 (fun v=>?_) ?_ ?_ rfl
  ·cases kx<;>first|rfl|cases hc
  ·cases e<;>rfl
  ·rfl
 ·cases h
theorem vt(C:Bk X N sc k)(B:Bn X)(O:c8 X T):∀ (n:Nat) {st:Stmt}{g:GS},EV sc N T n st=some g->DS X HF₀ H₀ st g
 | 0,st,g,h=>by cases h
 | n+1,st,g,h=>by
  have ih:=fun s g h=>vt C B O n (st:=s) (g:=g) h
  unfold EV at h
  split at h
  ·obtain⟨f,hf,rfl⟩:=ag h;exact JJ (O.e _ _ hf)
  ·obtain⟨t,ht,h⟩:=bs h
   obtain⟨a,ha,h⟩:=bs h
   obtain⟨b,hb,rfl⟩:=ag h
   exact K2 (O.t _ _ ht) (gM ih ha) (gM ih hb)
  ·exact Dc C O h
  ·exact BY C O h
  ·exact yc C O h
  ·obtain⟨fi,hfi,h⟩:=bs h
   obtain⟨t,ht,h⟩:=bs h
   obtain⟨b,hb,rfl⟩:=ag h
   obtain⟨hd,hfold⟩:=Da C B O hfi
   exact IT _ C.pass C.calm hd (Jr C ht) (gM ih hb) hfold
  ·obtain⟨t,ht,h⟩:=bs h
   obtain⟨b,hb,rfl⟩:=ag h
   exact Dj _ C.pass (O.t _ _ ht) (gM ih hb)
  ·exact Eu C O h
  ·cases h;exact Ks
  ·cases h;exact Fy
  ·cases h
end
section
variable {K:PySem.W.Frag}
def oz(P:Program)(w:World)(K:PySem.W.Frag)(mg:Str->Option Value)(base:Heap)(j:Nat)(l:List (Str×Nat×(List D->Option D))):Prop:=∀x n m,l.lookup x=some (n,m)->EF P w K mg base j x n m
def k6(mg:Str->Option Value)(l:List (Str×Int)):Prop:=∀x i,l.lookup x=some i->∃t,mg x=some (.int i t)
theorem Ma:oz P w K mg base j []:=fun _ _ _ h=>by cases h
theorem K8(F:EF P w K mg base j x n m)(h:oz P w K mg base j l):oz P w K mg base j ((x,n,m)::l):=fun y n' m' e=>by
 rw[yB] at e
 cases q:y == x with
 | true=>rw[q] at e;cases e;rw[eq_of_beq q];exact F
 | false=>rw[q] at e;exact h y n' m' e
theorem Mw:k6 mg []:=fun _ _ h=>by cases h
theorem Cr(F:∃t,mg x=some (.int i t))(h:k6 mg l):k6 mg ((x,i)::l):=fun y i' e=>by
 rw[yB] at e
 cases q:y == x with
 | true=>rw[q] at e;cases e;rw[eq_of_beq q];exact F
 | false=>rw[q] at e;exact h y i' e
theorem Hg{st:Stmt}(C:Bk X N (aD st) j)(B:Bn X)(hf:oz X.prog X.w X.K X.mg X.base j fs)(hi:k6 X.mg is)
  (t:oQ (EV (aD st) N (tr ⟨fs,is⟩ 40 none (aD st) N) 40) (bK st)=some g):BN X HF₀ H₀ (bK st) g :=
 gM (fun s g h=>vt C B (Hi (G:=⟨fs,is⟩) 40 C ⟨hf,hi,B⟩ (yM j) fun q z=>by cases z) 40 h) t
theorem Nu{st:Stmt}(D:Fh K mg x st ps)(S:dP N ps (aD st))(B:∀x∈dg,mg x=none)(hf:oz P w K mg base j fs)(hi:k6 mg is)
  (t:oQ (EV (aD st) N (tr ⟨fs,is⟩ 40 none (aD st) N) 40) (bK st)=some g):EF P w K mg base (j+1) x ps.length (aU g N.length):=by
 obtain⟨f,fd,hm,F,hb⟩:=D.ex
 exact MY F S hb hm fun X hP hw hK hm' hb' C _ _ HF H=>by subst hP;subst hw;subst hK;subst hm';subst hb';exact Hg C B hf hi t
theorem Na{st:Stmt}(D:JC K mg x st ps)(S:dP N ps (aD st))(B:∀x∈dg,mg x=none)(hf:oz P w K mg base j fs)(hi:k6 mg is)
  (hq:x∈iO/\x++".<locals>."++"<lambda>"=q) (t:oQ (EV (aD st) N (tr ⟨fs,is⟩ 40 (some q) (aD st) N) 40) (bK st)=some g):EF P w K mg base (j+4) x ps.length (aU g N.length):=by
 obtain⟨f,fd,c,P',hm,F,hb,hc,hh⟩:=D.ex
 refine MY (k:=j+3) F S hb hm fun X hP hw hK hm' hb' C h1 h2 HF H=>?_
 subst hP;subst hw;subst hK;subst hm';subst hb'
 have L:uf X q:=by
  refine⟨c,P',by rw[h1,hc],by rw[h2];exact hq.2,hh,fun HF tb=>?_⟩
  obtain⟨oc,od,kV,doc,pm,an,cdv,ct,osl,rfl,lk,_⟩:=F.ex
  have:=tb f oc od _ osl c P' lk hq.1 hc hh
  rw[<- hq.2]
  exact this
 exact gM (fun s g h=>vt C B (Hi (G:=⟨fs,is⟩) (j:=j) 40 C ⟨hf,hi,B⟩ (jU _ _) fun q' z=>by cases z;exact⟨L,yM _⟩) 40 h) t
end
abbrev tW(s:Stmt)(N:List Str)(S:Sg)(l:Option Str):Option GS:=oQ (EV (aD s) N (tr S 40 l (aD s) N) 40) (bK s)
theorem NA(a:sc.kind=.function:=by rfl)(b:sc.isCoroutine=false:=by rfl)(c:sc.isGenerator=false:=by rfl)(d:N.Nodup:=by decide +kernel)(e:N.take P.length=P:=by rfl)(f:∀x∈P,sc.names.lookup x=some .local \/ sc.names.lookup x=some .cell:=by decide +kernel)(g:∀y∈sc.names,y.2≠.free:=by decide +kernel):dP N P sc:=⟨a,b,c,d,e,f,g⟩
section
variable {K:PySem.W.Frag}
end
end Rf
namespace Ex
open PySem L2 PySem.Spec PyProof.Rows
section
variable {X:Cx}{pins:List (Addr×Obj)}{σ:L2.St}{H H':Hp}{s s':Shared}{cls:Value}{ea:Addr}
end
section
end
open PySem L2 Dl PySem.Spec PyProof.Rows
section
end
section
variable {X:Cx}{pins:List (Addr×Obj)}{σ:L2.St}{H H':Hp}{s s':Shared}{cls:Value}{ea:Addr}
end
section
end
section
end
section
end
open PySem PySem.W PySem.Spec PySem.Calls PyProof.Rows
section
variable {K:Frag}{x D:Addr}
end
section
variable {K:PySem.W.Frag}
end
section
end
section
end
open PySem L2 Dl PySem.Spec PyProof.Rows Rf
section
variable {tS:Stmt->Option GS}
end
section
variable {K:PySem.W.Frag}
end
section
variable {K:PySem.W.Frag}{cs:List (Str×Addr)}
end
end Ex
namespace Hd
open PySem L2 Dl PySem.Spec PyProof.Rows
section
variable {K:PySem.W.Frag}
theorem Lu{st:Stmt}(hb:fY st ps)(a:PySem.W.nsIn K mainGlobals x=some (some (.ref f)))(l:K.lookup f=some (fo x st pm c))(d:PySem.W.codeIn K (.ref c) x=true)(k:PySem.W.keepIn K (.ref f)=true):iu K x st ps:=K7 hb a l d k
theorem Nf{st:Stmt}(hb:fY st ps)(a:PySem.W.nsIn K mainGlobals x=some (some (.ref f)))(l:K.lookup f=some (fo x st pm c))(d:PySem.W.codeIn K (.ref c) x=true)(k:PySem.W.keepIn K (.ref f)=true)(hh:PySem.W.codeHdIn K c (FM K c)=true):oJ K x st ps:=KE hb a l d k hh
end
section
variable {α:Type}{R:List α->Prop}
theorem wa(h:∀a,R [a])(us:List α)(e:us.length=1):R us:=by
 obtain⟨a,rfl⟩:=List.length_eq_one_iff.mp e;exact h a
theorem GQ(us:List α)(e:us.length=n+1):∃a r,us=a::r/\r.length=n:=by
 cases us with
 | nil=>cases e
 | cons a r=>exact⟨a,r,rfl,by simpa using e⟩
theorem Ld(h:∀a b,R [a,b])(us:List α)(e:us.length=2):R us:=by
 obtain⟨a,r,rfl,e'⟩:=GQ us e;exact wa (R:=fun r=>R (a::r)) (h a) r e'
theorem J5(h:∀a b c,R [a,b,c])(us:List α)(e:us.length=3):R us:=by
 obtain⟨a,r,rfl,e'⟩:=GQ us e;exact Ld (R:=fun r=>R (a::r)) (h a) r e'
theorem Lf(h:∀a b c d,R [a,b,c,d])(us:List α)(e:us.length=4):R us:=by
 obtain⟨a,r,rfl,e'⟩:=GQ us e;exact J5 (R:=fun r=>R (a::r)) (h a) r e'
theorem Mt(h:∀a b c d f,R [a,b,c,d,f])(us:List α)(e:us.length=5):R us:=by
 obtain⟨a,r,rfl,e'⟩:=GQ us e;exact Lf (R:=fun r=>R (a::r)) (h a) r e'
end
section
variable {K:PySem.W.Frag}
theorem f1(f c:Addr)(pm:Value){st:Stmt}(hb:fY st ps:=by exact fun _ _ _ _ _ _ _ _ us hl=>wa (R:=fun us=>bindArgs _ ⟨us,[]⟩=pure (List.zip _ us)) (fun _=>rfl) us hl)(a:PySem.W.nsIn K mainGlobals x=some (some (.ref f)):=by kernel_rfl)(l:K.lookup f=some (fo x st pm c):=by kernel_rfl)(d:PySem.W.codeIn K (.ref c) x=true:=by kernel_rfl)(k:PySem.W.keepIn K (.ref f)=true:=by kernel_rfl):iu K x st ps:=Lu hb a l d k
theorem f2(f c:Addr)(pm:Value){st:Stmt}(hb:fY st ps:=by exact fun _ _ _ _ _ _ _ _ us hl=>Ld (R:=fun us=>bindArgs _ ⟨us,[]⟩=pure (List.zip _ us)) (fun _ _=>rfl) us hl)(a:PySem.W.nsIn K mainGlobals x=some (some (.ref f)):=by kernel_rfl)(l:K.lookup f=some (fo x st pm c):=by kernel_rfl)(d:PySem.W.codeIn K (.ref c) x=true:=by kernel_rfl)(k:PySem.W.keepIn K (.ref f)=true:=by kernel_rfl):iu K x st ps:=Lu hb a l d k
theorem f3(f c:Addr)(pm:Value){st:Stmt}(hb:fY st ps:=by exact fun _ _ _ _ _ _ _ _ us hl=>J5 (R:=fun us=>bindArgs _ ⟨us,[]⟩=pure (List.zip _ us)) (fun _ _ _=>rfl) us hl)(a:PySem.W.nsIn K mainGlobals x=some (some (.ref f)):=by kernel_rfl)(l:K.lookup f=some (fo x st pm c):=by kernel_rfl)(d:PySem.W.codeIn K (.ref c) x=true:=by kernel_rfl)(k:PySem.W.keepIn K (.ref f)=true:=by kernel_rfl):iu K x st ps:=Lu hb a l d k
theorem l3(f c:Addr)(pm:Value){st:Stmt}(hb:fY st ps:=by exact fun _ _ _ _ _ _ _ _ us hl=>J5 (R:=fun us=>bindArgs _ ⟨us,[]⟩=pure (List.zip _ us)) (fun _ _ _=>rfl) us hl)(a:PySem.W.nsIn K mainGlobals x=some (some (.ref f)):=by kernel_rfl)(l:K.lookup f=some (fo x st pm c):=by kernel_rfl)(d:PySem.W.codeIn K (.ref c) x=true:=by kernel_rfl)(k:PySem.W.keepIn K (.ref f)=true:=by kernel_rfl)(hh:PySem.W.codeHdIn K c (FM K c)=true:=by kernel_rfl):oJ K x st ps:=Nf hb a l d k hh
theorem f4(f c:Addr)(pm:Value){st:Stmt}(hb:fY st ps:=by exact fun _ _ _ _ _ _ _ _ us hl=>Lf (R:=fun us=>bindArgs _ ⟨us,[]⟩=pure (List.zip _ us)) (fun _ _ _ _=>rfl) us hl)(a:PySem.W.nsIn K mainGlobals x=some (some (.ref f)):=by kernel_rfl)(l:K.lookup f=some (fo x st pm c):=by kernel_rfl)(d:PySem.W.codeIn K (.ref c) x=true:=by kernel_rfl)(k:PySem.W.keepIn K (.ref f)=true:=by kernel_rfl):iu K x st ps:=Lu hb a l d k
theorem f5(f c:Addr)(pm:Value){st:Stmt}(hb:fY st ps:=by exact fun _ _ _ _ _ _ _ _ us hl=>Mt (R:=fun us=>bindArgs _ ⟨us,[]⟩=pure (List.zip _ us)) (fun _ _ _ _ _=>rfl) us hl)(a:PySem.W.nsIn K mainGlobals x=some (some (.ref f)):=by kernel_rfl)(l:K.lookup f=some (fo x st pm c):=by kernel_rfl)(d:PySem.W.codeIn K (.ref c) x=true:=by kernel_rfl)(k:PySem.W.keepIn K (.ref f)=true:=by kernel_rfl):iu K x st ps:=Lu hb a l d k
end
end Hd
namespace Pg
open PySem L2 Dl PySem.Spec PyProof.Rows
def oE:ao->Option Out:=(ar (fX (ka (bc (fB (Ht "int" (ab 0)))) (fB (Ht "bool" (ab 0)))) (aG (fC (.bool false))) fO) (aG (iY AA AA (ab 1) (ab 0) (ab 2))))
def br:List D->Option D:=aU oE 3
def nj:ao->Option Out:=(aG (ah 3 br (aa (ab 0) (aa (fC (.int 0)) (aa (f2 Dl.i4 (ab 1) (fC (.int 1))) af)))))
def cC:List D->Option D:=aU nj 2
def pZ:ao->Option Out:=(aG (iC (Ht "tuple" (ab 0)) (iY AA AA (ab 1) (ba bw (aa (ab 0) af)) (ab 2))))
def bD:List D->Option D:=aU pZ 3
def m7:ao->Option Out:=(ar (fX (bc (fB (Ht "tuple" (ab 0)))) (aG (fC (.bool false))) fO) (ar (fX (bc (fB (ba ju (aa (cf (aj 1 [1] (aP (ab 0)) (fG 0) (fun _=>some true) (ah 2 cC (aa (ab 0) (aa (ab 1) af))))) af)))) (aG (fC (.bool false))) fO) (aG (f2 bJ (f1 jo (ab 0)) (ba bw (aa (ab 0) af))))))
def fP:List D->Option D:=aU m7 2
def uh:ao->Option Out:=(aG (iC (ah 3 bD (aa (ab 0) (aa (fC (.int 2)) (aa (fC (.int 2)) af)))) (iC (ah 3 br (aa (f2 av (ab 0) (fC (.int 0))) (aa (fC (.int 0)) (aa (fC (.int 9)) af)))) (ah 2 fP (aa (f2 av (ab 0) (fC (.int 1))) (aa (ab 1) af))))))
def eX:List D->Option D:=aU uh 2
def uz:ao->Option Out:=(ar (fX (bc (fB (ah 3 bD (aa (ab 0) (aa (fC (.int 3)) (aa (fC (.int 3)) af)))))) (aG (fC (.bool false))) fO) (aG (iC (ah 2 cC (aa (f2 av (ab 0) (fC (.int 0))) (aa (ab 1) af))) (iC (ah 2 cC (aa (f2 av (ab 0) (fC (.int 1))) (aa (ab 2) af))) (ah 3 br (aa (f2 av (ab 0) (fC (.int 2))) (aa (fC (.int 1)) (aa (fC (.int 9)) af))))))))
def jd:List D->Option D:=aU uz 3
def nc:ao->Option Out:=(ar (fX (ka (bc (fB (ah 3 bD (aa (ab 0) (aa (fC (.int 1)) (aa (fC (.int 4)) af)))))) (bc (fB (ah 3 bD (aa (ab 1) (aa (fC (.int 1)) (aa (fC (.int 4)) af))))))) (aG (fC (.bool false))) fO) (ar (fX (bc (fB (ba ju (aa (cf (aj 1 [1] (aP (ab 0)) (fG 0) (fun _=>some true) (ah 2 eX (aa (ab 0) (aa (ba bw (aa (ab 1) af)) af))))) af)))) (aG (fC (.bool false))) fO) (ar (fX (bc (fB (ba ju (aa (cf (aj 1 [0] (aP (ab 1)) (fG 0) (fun _=>some true) (ah 2 eX (aa (ab 0) (aa (ba bw (aa (ab 1) af)) af))))) af)))) (aG (fC (.bool false))) fO) (aG (iC (Ht "tuple" (ab 2)) (ba ju (aa (cf (aj 1 [0,1] (aP (ab 2)) (fG 0) (fun _=>some true) (ah 3 jd (aa (ab 0) (aa (ba bw (aa (ab 1) af)) (aa (ba bw (aa (ab 2) af)) af)))))) af)))))))
def fR:List D->Option D:=aU nc 3
def j6:ao->Option Out:=(ar (aN 1 [] (eA af)) (ar (cy [0] (bz (aa (ab 0) af)) (g8 2 3) (rG 1 [2,3] (aj 1 [2] (aP (f2 av (ab 3) (fC (.int 1)))) (fG 0) (fun _=>some true) (aV (aa (ab 1) (aa (ab 0) af)))))) (aG (ab 1))))
def bA:List D->Option D:=aU j6 4
def ik:ao->Option Out:=(ar (fX (ka (bc (fB (ah 3 bD (aa (ab 0) (aa (fC (.int 3)) (aa (fC (.int 3)) af)))))) (bc (fB (ah 3 fR (aa (f2 av (ab 0) (fC (.int 0))) (aa (f2 av (ab 0) (fC (.int 1))) (aa (f2 av (ab 0) (fC (.int 2))) af))))))) (aG (fC (.bool false))) fO) (ar (aN 1 [0] (aj 1 [] (aP (f2 av (ab 0) (fC (.int 2)))) (fG 0) (fun _=>some true) (aV (aa (f2 av (ab 0) (fC (.int 0))) (aa (f2 av (ab 0) (fC (.int 1))) af))))) (ar (aN 2 [0] (pH fM (aa (ah 1 bA (aa (f2 av (ab 0) (fC (.int 0))) af)) af))) (ar (aN 3 [0] (pH fM (aa (cf (aj 2 [] (aP (ah 1 bA (aa (f2 av (ab 0) (fC (.int 1))) af))) (fJ 0 1) (fun _=>some true) (aV (aa (ab 1) (aa (ab 0) af))))) af))) (aG (iC (f2 bJ (ab 1) (ab 2)) (f2 bJ (ab 1) (ab 3))))))))
def cB:List D->Option D:=aU ik 4
def dN:ao->Option Out:=(fX (bc (fB (ah 1 cB (aa (ab 0) af)))) Ka fO)
def b8:List D->Option D:=aU dN 1
def dI:ao->Option Out:=(fX (bc (fB (ah 3 br (aa (ab 0) (aa (ab 1) (aa (ab 2) af)))))) Ka fO)
def f7:List D->Option D:=aU dI 3
def dk:ao->Option Out:=(fK (ah 3 f7 (aa (ab 0) (aa (fC (.int 0)) (aa (f2 Dl.i4 (ab 1) (fC (.int 1))) af)))))
def c7:List D->Option D:=aU dk 2
def eH:ao->Option Out:=(fK (ah 2 c7 (aa (ab 0) (aa (fC (.int 2)) af))))
def c9:List D->Option D:=aU eH 1
def oM:ao->Option Out:=(aG (f2 aI (f2 aI (mH gu (ab 0) mz (A7 (ab 1))) (aV (aa (ab 2) af))) (mH gu (ab 0) (A7 (f2 aI (ab 1) (fC (.int 1)))) mz)))
def lb:List D->Option D:=aU oM 3
abbrev AO:List Str:=["world","side","place","ways","likes","own"]
def me:ao->Option Out:=(ar (az 3 [0] (f2 av (ab 0) (fC (.int 2)))) (ar (az 4 [0,1,2] (f2 av (f2 av (f2 av (ab 0) (ab 1)) (ab 2)) (fC (.int 1)))) (ar (aN 5 [1,2,3] (aj 2 [1,2] (bz (aa (ab 3) af)) (fJ 0 1) (fB (f2 bJ (f2 av (ab 1) (ab 2)) (ab 3))) (ab 0))) (aG (cf (mM [1,3,4] (ab 5) (f2 ny (ab 3) (f2 av (f2 av (ab 2) (ab 0)) (f2 Dl.i4 (fC (.int 1)) (ab 1))))))))))
def cN:List D->Option D:=aU me 6
def jf:ao->Option Out:=(ar (aN 4 [0] (aj 1 [] (aP (f2 av (ab 0) (fC (.int 2)))) (fG 0) (fun _=>some true) (fC (.int 0)))) (ar (az 5 [0,1,2] (f2 av (f2 av (f2 av (ab 0) (ab 1)) (ab 2)) (fC (.int 0)))) (ar (cy [0,1,2] (aP (ah 3 cN (aa (ab 0) (aa (ab 1) (aa (ab 2) af))))) (ig 6) (ar (xi 4 [0,3,5,6] (ab 6) (ba uI (aa (f2 av (ab 3) (ab 6)) (aa (f2 av (f2 av (f2 av (ab 0) (fC (.int 2))) (ab 6)) (fC (.int 2))) (aa (ab 5) af))))) (az 5 [4,5,6] (f2 Dl.i4 (ab 5) (f2 av (ab 4) (ab 6)))))) (aG (ba bx (aa (ab 4) af))))))
def bO:List D->Option D:=aU jf 7
def eh:ao->Option Out:=(ar (aN 3 [0] (aj 1 [] (aP (f2 av (ab 0) (fC (.int 2)))) (fG 0) (fun _=>some true) (fC (.int 0)))) (ar (cy [0,1] (aL (aa (ba bw (aa (f2 av (ab 0) (ab 1)) af)) af)) (ig 4) (ar (az 5 [0,1,2,4] (ah 4 bO (aa (ab 0) (aa (ab 1) (aa (ab 4) (aa (ab 2) af)))))) (aN 3 [3,5] (aj 2 [] (fx (aa (ab 3) (aa (ab 5) af))) (fJ 0 1) (fun _=>some true) (f2 aI (ab 0) (ab 1)))))) (aG (ba bx (aa (ab 3) af)))))
def bq:List D->Option D:=aU eh 6
def uk:ao->Option Out:=(aG (ba bx (aa (cf (aj 1 [] (aP (f2 av (ab 0) (fC (.int 2)))) (fG 0) (fun _=>some true) (f2 av (ab 0) (fC (.int 2))))) af)))
def gq:List D->Option D:=aU uk 1
def p9:ao->Option Out:=(aG (ah 3 lb (aa (ab 0) (aa (ab 1) (aa (ab 2) af)))))
def cO:List D->Option D:=aU p9 3
def mr:ao->Option Out:=(ar (az 2 [0,1] (ah 3 bq (aa (ab 0) (aa (fC (.int 0)) (aa (ab 1) af))))) (ar (az 3 [0,2] (ah 3 bq (aa (ab 0) (aa (fC (.int 1)) (aa (ab 2) af))))) (ar (cy [3] (bz (aa (ab 3) af)) (g8 4 5) (fX (fB (f2 tN (ab 5) (f2 av (ab 2) (ab 4)))) (aG (aV (aa (ab 4) (aa (ab 5) af)))) fO)) (aG (fC .none)))))
def dz:List D->Option D:=aU mr 6
def si:ao->Option Out:=(ar (aN 1 [] (eA af)) (ar (az 2 [0] (ah 1 gq (aa (ab 0) af))) (ar (az 3 [0,2] (ah 2 dz (aa (ab 0) (aa (ab 2) af)))) (ar (F2 (fB (f2 mZ (ab 3) (fC .none))) (ar (kb 1 [3] (ab 3)) (ar (az 2 [2,3] (ah 3 cO (aa (ab 2) (aa (f2 av (ab 3) (fC (.int 0))) (aa (f2 av (ab 3) (fC (.int 1))) af))))) (az 3 [0,2] (ah 2 dz (aa (ab 0) (aa (ab 2) af)))))) Rf.turns) (aG (ab 1))))))
def rD:List D->Option D:=aU si 4
def oX:ao->Option Out:=(ar (az 2 [0] (ah 1 gq (aa (ab 0) af))) (ar (cy [1] (aP (ab 1)) (g8 3 4) (az 2 [2,3,4] (ah 3 cO (aa (ab 2) (aa (ab 3) (aa (ab 4) af)))))) (aG (ab 2))))
def nZ:List D->Option D:=aU oX 5
def fU:ao->Option Out:=(ar (fK (ah 1 b8 (aa (ab 0) af))) (aG (ah 3 bq (aa (ab 0) (aa (fC (.int 0)) (aa (ah 2 nZ (aa (ab 0) (aa (ah 1 rD (aa (ab 0) af)) af))) af))))))
def dM:List D->Option D:=aU fU 1
def iP:ao->Option Out:=(ar (fX (fB (f2 bJ (ab 0) (cf (eA af)))) (aG (f2 eK (fC (.int 7)) (ab 1))) fO) (aG (f2 aI (f2 av (ab 0) (f2 jv (ab 1) (ba bw (aa (ab 0) af)))) (f2 eK (fC (.int 6553)) (f2 lr (ab 1) (ba bw (aa (ab 0) af)))))))
def dR:List D->Option D:=aU iP 2
def lC:ao->Option Out:=(ar (az 3 [0,1] (f2 jv (f2 aI (f2 eK (f2 jv (ah 2 dR (aa (ab 0) (aa (ab 1) af))) (fC (.int 2147483563))) (fC (.int 69069))) (f2 eK (fC (.int 104723)) (f2 aI (ab 1) (fC (.int 1))))) (fC (.int 2147483563)))) (ar (az 3 [3] (f2 jv (f2 aI (f2 eK (ab 3) (ab 3)) (f2 lr (ab 3) (fC (.int 3)))) (fC (.int 2147483399)))) (aG (f2 jv (f2 lr (f2 jv (f2 aI (f2 eK (ab 3) (ab 3)) (f2 lr (ab 3) (fC (.int 7)))) (fC (.int 2147483647))) (fC (.int 11))) (ab 2)))))
def ak:List D->Option D:=aU lC 4
def j5:ao->Option Out:=(ar (aN 3 [] (eA af)) (ar (cy [2] (bz (aa (ab 2) af)) (g8 4 5) (ar (aN 6 [] (eA af)) (ar (cy [5] (bz (aa (ab 5) af)) (g8 7 8) (B3 6 [8] (ah 3 ak (aa (ab 0) (aa (f2 aI (f2 aI (ab 1) (f2 eK (fC (.int 4)) (ab 4))) (ab 7)) (aa (f2 aI (ba bw (aa (ab 6) af)) (fC (.int 1))) af)))) (ab 8))) (kb 3 [6] (ba bx (aa (ab 6) af)))))) (aG (ab 3))))
def bH:List D->Option D:=aU j5 9
def eJ:ao->Option Out:=(ar (fX (cn (fB (f2 BQ (ab 2) (fC (.int 3)))) (fB (f2 bJ (ah 3 ak (aa (ab 0) (aa (f2 aI (ab 1) (fC (.int 64))) (aa (fC (.int 4)) af)))) (fC (.int 0))))) (ar (az 3 [0,1] (f2 aI (fC (.int 1)) (ah 3 ak (aa (ab 0) (aa (f2 aI (ab 1) (fC (.int 65))) (aa (fC (.int 2)) af)))))) (ar (az 4 [3] (aV (aa (aV (aa (ab 3) (aa (aV (aa (fC (.int 1)) (aa (fC (.int 0)) af))) af))) (aa (aV (aa (ab 3) (aa (aV (aa (fC (.int 0)) (aa (fC (.int 1)) af))) af))) af)))) (aG (aV (aa (aV (aa (aV (aa (ab 3) (aa (aV (aa (fC (.int 0)) (aa (fC (.int 1)) af))) af))) (aa (aV (aa (ab 3) (aa (aV (aa (fC (.int 1)) (aa (fC (.int 0)) af))) af))) af))) (aa (ab 4) (aa (aV (aa (aV (aa (fC (.int 0)) (aa (fC (.int 0)) (aa (fC (.int 2)) af)))) (aa (aV (aa (fC (.int 0)) (aa (fC (.int 1)) (aa (fC (.int 2)) af)))) (aa (aV (aa (fC (.int 1)) (aa (fC (.int 0)) (aa (fC (.int 2)) af)))) (aa (aV (aa (fC (.int 1)) (aa (fC (.int 1)) (aa (fC (.int 2)) af)))) af))))) af))))))) fO) (ar (az 5 [0,1] (f2 aI (fC (.int 1)) (ah 3 ak (aa (ab 0) (aa (ab 1) (aa (fC (.int 3)) af)))))) (ar (az 6 [0,1] (f2 aI (fC (.int 1)) (ah 3 ak (aa (ab 0) (aa (f2 aI (ab 1) (fC (.int 1))) (aa (fC (.int 3)) af)))))) (ar (aN 7 [] (eA af)) (ar (cy [5,6] (aL (aa (f2 eK (ab 5) (ab 6)) af)) (ig 8) (fX (cn (fB (f2 tN (ba bw (aa (ab 7) af)) (ab 2))) (fB (f2 BQ (ah 3 ak (aa (ab 0) (aa (f2 aI (f2 aI (ab 1) (fC (.int 2))) (ab 8)) (aa (fC (.int 4)) af)))) (fC (.int 0))))) (kb 7 [0,1,6,8] (aV (aa (f2 lr (ab 8) (ab 6)) (aa (f2 jv (ab 8) (ab 6)) (aa (f2 aI (fC (.int 1)) (ah 3 ak (aa (ab 0) (aa (f2 aI (f2 aI (ab 1) (fC (.int 12))) (ab 8)) (aa (fC (.int 2)) af))))) af))))) fO)) (ar (az 9 [0,1,5,7] (ah 3 bH (aa (ab 0) (aa (f2 aI (ab 1) (fC (.int 24))) (aa (cf (aj 1 [7] (aL (aa (ab 5) af)) (fG 0) (fun _=>some true) (cf (aj 1 [0] (aP (ab 1)) (fG 0) (fB (f2 bJ (f2 av (ab 0) (fC (.int 0))) (ab 1))) (f2 av (ab 0) (fC (.int 1))))))) af))))) (ar (az 10 [0,1,6,7] (ah 3 bH (aa (ab 0) (aa (f2 aI (ab 1) (fC (.int 40))) (aa (cf (aj 1 [7] (aL (aa (ab 6) af)) (fG 0) (fun _=>some true) (cf (aj 1 [0] (aP (ab 1)) (fG 0) (fB (f2 bJ (f2 av (ab 0) (fC (.int 1))) (ab 1))) (f2 av (ab 0) (fC (.int 0))))))) af))))) (ar (az 11 [0,1,8,9] (ba bx (aa (cf (aj 2 [0,1] (bz (aa (ab 9) af)) (fJ 0 1) (fun _=>some true) (aV (aa (ah 3 ak (aa (ab 2) (aa (f2 aI (f2 aI (ab 3) (fC (.int 56))) (ab 0)) (aa (fC (.int 4)) af)))) (aa (ab 1) af))))) af))) (ar (az 4 [0,1,8,10] (ba bx (aa (cf (aj 2 [0,1] (bz (aa (ab 10) af)) (fJ 0 1) (fun _=>some true) (aV (aa (ah 3 ak (aa (ab 2) (aa (f2 aI (f2 aI (ab 3) (fC (.int 60))) (ab 0)) (aa (fC (.int 4)) af)))) (aa (ab 1) af))))) af))) (aG (aV (aa (ab 11) (aa (ab 4) (aa (ba bx (aa (ab 7) af)) af))))))))))))))
def bQ:List D->Option D:=aU eJ 12
def qm:ao->Option Out:=(aG (ba AV (aa (cf (aj 2 [2,3] (fx (aa (f2 av (ab 0) (fC (.int 2))) (aa (ab 1) af))) (fJ 0 1) (fB (f2 bJ (f2 av (ab 0) (ab 2)) (ab 3))) (ab 1))) af)))
def b9:List D->Option D:=aU qm 4
def iB:ao->Option Out:=(aG (ba ju (aa (cf (aj 2 [0,1,2] (bz (aa (f2 av (ab 0) (ab 2)) af)) (fJ 0 1) (fun _=>some true) (f2 AA (ah 4 b9 (aa (ab 2) (aa (ab 3) (aa (ab 4) (aa (ab 0) af))))) (f2 av (ab 1) (fC (.int 0)))))) af)))
def cT:List D->Option D:=aU iB 3
def mX:ao->Option Out:=(ar (az 2 [0] (f2 av (ab 0) (fC (.int 2)))) (ar (fX (bc (fB (ah 3 bD (aa (ab 1) (aa (ba bw (aa (ab 2) af)) (aa (ba bw (aa (ab 2) af)) af)))))) (aG (fC (.bool false))) fO) (ar (fX (bc (fB (ba ju (aa (cf (aj 2 [] (fx (aa (ab 2) (aa (ab 1) af))) (fJ 0 1) (fun _=>some true) (ah 3 br (aa (ab 1) (aa (fC (.int 0)) (aa (f2 av (ab 0) (fC (.int 2))) af)))))) af)))) (aG (fC (.bool false))) fO) (aG (iC (ah 3 cT (aa (ab 0) (aa (ab 1) (aa (fC (.int 0)) af)))) (ah 3 cT (aa (ab 0) (aa (ab 1) (aa (fC (.int 1)) af)))))))))
def gg:List D->Option D:=aU mX 3
def eL:ao->Option Out:=(ar (fK (ah 1 b8 (aa (ab 0) af))) (fX (bc (fB (ah 2 gg (aa (ab 0) (aa (ab 1) af))))) Ka fO))
def c6:List D->Option D:=aU eL 2
def gP:ao->Option Out:=(ar (az 4 [0,2,3] (f2 av (f2 av (f2 av (ab 0) (fC (.int 2))) (ab 3)) (ab 2))) (ar (fX (fB (f2 tN (ah 4 b9 (aa (ab 0) (aa (ab 1) (aa (ab 2) (aa (ab 4) af))))) (f2 av (f2 av (f2 av (ab 0) (ab 2)) (ab 4)) (fC (.int 0))))) (aG (fC (.bool true))) fO) (ar (az 5 [0,2,4] (ah 3 cN (aa (ab 0) (aa (ab 2) (aa (ab 4) af))))) (ar (az 6 [3,5] (mH gu (ab 5) (A7 (f2 aI (f2 ny (ab 5) (ab 3)) (fC (.int 1)))) mz)) (aG (ba Rf.EK (aa (cf (aj 1 [1] (aP (ab 6)) (fG 0) (fun _=>some true) (f2 BQ (f2 av (ab 1) (ab 0)) (fC (.int 0))))) af)))))))
def cK:List D->Option D:=aU gP 7
def k8:ao->Option Out:=(ar (fX (fB (f2 bJ (f2 av (ab 1) (ab 2)) (f2 av (f2 av (f2 av (ab 0) (fC (.int 2))) (ab 2)) (fC (.int 2))))) (aG (fC (.str "full"))) fO) (ar (fX (bc (fB (ah 4 cK (aa (ab 0) (aa (ab 1) (aa (fC (.int 0)) (aa (ab 2) af))))))) (aG (fC (.str "giver"))) fO) (ar (fX (bc (fB (ah 4 cK (aa (ab 0) (aa (ab 1) (aa (fC (.int 1)) (aa (ab 2) af))))))) (aG (fC (.str "taker"))) fO) (aG (fC .none)))))
def eZ:List D->Option D:=aU k8 3
def eC:ao->Option Out:=(ar (cy [1] (aL (aa (ba bw (aa (ab 1) af)) af)) (ig 2) (fX (fB (f2 pI (ah 3 eZ (aa (ab 0) (aa (ab 1) (aa (ab 2) af)))) (fC .none))) (aG (ab 2)) fO)) (aG (fC .none)))
def ee:List D->Option D:=aU eC 3
def k9:ao->Option Out:=(aG (f2 pI (ah 2 ee (aa (ab 0) (aa (ab 1) af))) (fC .none)))
def k3:List D->Option D:=aU k9 2
def dJ:ao->Option Out:=(ar (fK (ah 1 c9 (aa (ab 1) af))) (fK (ah 2 c7 (aa (ab 2) (aa (ba bw (aa (f2 av (ab 0) (ab 1)) af)) af)))))
def dQ:List D->Option D:=aU dJ 3
def p7:ao->Option Out:=(aG (ba bx (aa (cf (aj 2 [] (fx (aa (ab 0) (aa (ab 1) af))) (fJ 0 1) (fun _=>some true) (ba Bw (aa (ab 0) (aa (ab 1) af))))) af)))
def jn:List D->Option D:=aU p7 2
def lU:ao->Option Out:=(aG (ba bx (aa (cf (aj 1 [3] (aP (ah 3 cN (aa (ab 0) (aa (ab 1) (aa (ab 2) af))))) (fG 0) (fun _=>some true) (f2 av (ab 1) (ab 0)))) af)))
def dc:List D->Option D:=aU lU 4
def ie:ao->Option Out:=(ar (az 5 [0,1,2,3,4] (ah 4 bO (aa (ab 0) (aa (ab 1) (aa (ab 2) (aa (ah 2 jn (aa (ab 3) (aa (ab 4) af))) af)))))) (aG (f2 bJ (ah 4 dc (aa (ab 0) (aa (ab 1) (aa (ab 2) (aa (ab 5) af))))) (ah 4 dc (aa (ab 0) (aa (ab 1) (aa (ab 2) (aa (ab 3) af))))))))
def cH:List D->Option D:=aU ie 6
def eQ:ao->Option Out:=(ar (fK (ah 2 c6 (aa (ab 0) (aa (ab 1) af)))) (fK (ah 2 c6 (aa (ab 0) (aa (ab 2) af)))))
def eO:List D->Option D:=aU eQ 3
def kc:ao->Option Out:=(ar (fK (ah 3 eO (aa (ab 0) (aa (ab 2) (aa (ab 3) af))))) (ar (fK (ah 1 c9 (aa (ab 1) af))) (aG (ba ju (aa (cf (aj 1 [0,1,2,3] (aL (aa (ba bw (aa (f2 av (ab 0) (ab 1)) af)) af)) (fG 0) (fun _=>some true) (ah 5 cH (aa (ab 1) (aa (ab 2) (aa (ab 0) (aa (ab 3) (aa (ab 4) af)))))))) af)))))
def bp:List D->Option D:=aU kc 4
def eI:ao->Option Out:=(ar (az 1 [] (fC (.int 1))) (ar (cy [0] (aP (f2 av (ab 0) (fC (.int 2)))) (ig 2) (az 1 [1,2] (f2 eK (ab 1) (f2 aI (f2 av (ab 2) (fC (.int 2))) (fC (.int 1)))))) (fX (fB (f2 BQ (ab 1) (fC (.int 3000)))) Ka fO)))
def gQ:List D->Option D:=aU eI 3
def et:ao->Option Out:=(ar (aN 1 [] (eA (aa (aV af) af))) (ar (cy [0] (aP (ab 0)) (ig 2) (ar (aN 3 [] (eA af)) (ar (cy [1] (aP (ab 1)) (ig 4) (rG 3 [2,4] (aj 1 [4] (aL (aa (f2 aI (f2 av (ab 2) (fC (.int 2))) (fC (.int 1))) af)) (fG 0) (fun _=>some true) (f2 aI (ab 1) (aV (aa (ab 0) af)))))) (az 1 [3] (ab 3))))) (aG (ab 1))))
def eB:List D->Option D:=aU et 5
def iU:ao->Option Out:=(ar (fK (ah 1 b8 (aa (ab 0) af))) (ar (fK (ah 1 gQ (aa (ab 0) af))) (aG (cf (aj 1 [0] (aP (ah 1 eB (aa (f2 av (ab 0) (fC (.int 2))) af))) (fG 0) (fB (ah 2 gg (aa (ab 1) (aa (ab 0) af)))) (ab 0))))))
def iT:List D->Option D:=aU iU 1
def iQ:ao->Option Out:=(aG (cf (aj 1 [0] (aP (ah 1 iT (aa (ab 0) af))) (fG 0) (fB (ah 2 k3 (aa (ab 1) (aa (ab 0) af)))) (ab 0))))
def dS:List D->Option D:=aU iQ 1
def fV:ao->Option Out:=(aG (ba bx (aa (cf (aj 1 [0,1,2] (aL (aa (ba bw (aa (f2 av (ab 0) (ab 2)) af)) af)) (fG 0) (fun _=>some true) (ah 4 b9 (aa (ab 1) (aa (ab 2) (aa (ab 3) (aa (ab 0) af))))))) af)))
def dH:List D->Option D:=aU fV 3
def oW:ao->Option Out:=(ar (az 1 [0] (ah 1 dM (aa (ab 0) af))) (aG (aV (aa (ah 3 dH (aa (ab 0) (aa (ab 1) (aa (fC (.int 0)) af)))) (aa (ah 3 dH (aa (ab 0) (aa (ab 1) (aa (fC (.int 1)) af)))) af)))))
def ph:List D->Option D:=aU oW 2
def sO:ao->Option Out:=(ar (fK (ah 1 b8 (aa (ab 0) af))) (ar (fK (ah 1 c9 (aa (ab 1) af))) (ar (az 2 [0,1] (f2 av (ah 1 ph (aa (ab 0) af)) (ab 1))) (aG (cf (aj 2 [2] (bz (aa (f2 av (ab 0) (ab 1)) af)) (fJ 0 1) (fB (f2 tN (f2 av (ab 2) (ab 0)) (f2 av (ab 1) (fC (.int 0))))) (ab 0)))))))
def nK:List D->Option D:=aU sO 3
def xh:ao->Option Out:=(ar (fK (ah 2 c6 (aa (ab 0) (aa (ab 3) af)))) (ar (fK (ah 3 dQ (aa (ab 0) (aa (ab 1) (aa (ab 2) af))))) (aG (ah 4 dc (aa (ab 0) (aa (ab 1) (aa (ab 2) (aa (ab 3) af))))))))
def i8:List D->Option D:=aU xh 4
open PySem L2 Dl PySem.Spec PyProof.Rows Ex
def sg:ao->Option Out:=(ar (fK (ah 3 eO (aa (ab 0) (aa (ab 3) (aa (ab 4) af))))) (ar (fK (ah 3 dQ (aa (ab 0) (aa (ab 1) (aa (ab 2) af))))) (aG (ah 5 cH (aa (ab 0) (aa (ab 1) (aa (ab 2) (aa (ab 3) (aa (ab 4) af)))))))))
def ji:List D->Option D:=aU sg 5
abbrev pN:List Str:=["_law_script","_law_world_here","_law_rows","_law_some","_law_one","_law_other","_law_mine","_law_third","_law_side","_law_left","_law_place","_law_ranks","_law_told"]
def qh:ao->Option Out:=(ar (az 1 [0] (ah 3 bQ (aa (ab 0) (aa (fC (.int 0)) (aa (fC (.int 4)) af))))) (ar (az 2 [1] (ah 1 dS (aa (ab 1) af))) (ar (aN 3 [0,2] (aj 1 [2] (aP (cf (eY (cf (aj 1 [0,2] (aL (aa (fC (.int 3)) af)) (fG 0) (fun _=>some true) (ah 3 ak (aa (ab 1) (aa (f2 aI (fC (.int 70)) (ab 0)) (aa (ba bw (aa (ab 2) af)) af))))))))) (fG 0) (fun _=>some true) (f2 av (ab 1) (ab 0)))) (ar (cy [3] (aP (ab 3)) (ig 4) (cy [3] (aP (ab 3)) (ig 5) (ar (az 6 [1,4,5] (ah 4 bp (aa (ab 1) (aa (fC (.int 0)) (aa (ab 4) (aa (ab 5) af)))))) (ar (fX (ka (fB (f2 mw (ab 6) (ah 4 bp (aa (ab 1) (aa (fC (.int 1)) (aa (ab 5) (aa (ab 4) af))))))) (fB (f2 mw (iC (ab 6) (ah 4 bp (aa (ab 1) (aa (fC (.int 0)) (aa (ab 5) (aa (ab 4) af)))))) (f2 bJ (ab 4) (ab 5))))) (aG (fC (.bool false))) fO) (ar (cy [3] (aP (ab 3)) (ig 7) (fX (cn (fB (ab 6)) (cn (fB (ah 4 bp (aa (ab 1) (aa (fC (.int 0)) (aa (ab 5) (aa (ab 7) af)))))) (bc (fB (ah 4 bp (aa (ab 1) (aa (fC (.int 0)) (aa (ab 4) (aa (ab 7) af))))))))) (aG (fC (.bool false))) fO)) (cy [] (aL (aa (fC (.int 2)) af)) (ig 8) (ar (az 9 [1,8] (ah 2 nK (aa (ab 1) (aa (ab 8) af)))) (cy [1,8] (aL (aa (ba bw (aa (f2 av (ab 1) (ab 8)) af)) af)) (ig 10) (ar (az 11 [1,4,5,8,10] (aV (aa (ah 4 i8 (aa (ab 1) (aa (ab 8) (aa (ab 10) (aa (ab 4) af))))) (aa (ah 4 i8 (aa (ab 1) (aa (ab 8) (aa (ab 10) (aa (ab 5) af))))) af)))) (ar (az 12 [1,4,5,8,10] (ah 5 ji (aa (ab 1) (aa (ab 8) (aa (ab 10) (aa (ab 4) (aa (ab 5) af))))))) (ar (fX (ka (cn (fB (ab 12)) (fB (f2 tN (f2 av (ab 11) (fC (.int 0))) (f2 av (ab 11) (fC (.int 1)))))) (cn (fB (f2 vo (ab 10) (ab 9))) (fB (f2 mw (f2 av (ab 11) (fC (.int 0))) (f2 av (ab 11) (fC (.int 1))))))) (aG (fC (.bool false))) fO) (fX (ka (cn (fB (f2 bJ (f2 av (ab 11) (fC (.int 0))) (f2 av (ab 11) (fC (.int 1))))) (bc (fB (ab 12)))) (cn (bc (fB (ab 12))) (bc (fB (ah 5 ji (aa (ab 1) (aa (ab 8) (aa (ab 10) (aa (ab 5) (aa (ab 4) af)))))))))) (aG (fC (.bool false))) fO)))))))))))) (aG (fC (.bool true)))))))
def gG:List D->Option D:=aU qh 13
end Pg
namespace Rg0
open PySem L2 Dl Rf PySem.Spec PyProof.Rows
abbrev FT:=List (Str×Nat×(List D->Option D))
def LL(st:Stmt):List Str:=((aD st).names.filter fun y=>y.2 == .local || y.2 == .cell).map (·.1)
structure Ok(P:Program)(w:World)(K:PySem.W.Frag)(mg:Str->Option Value)(base:Heap)(is:List (Str×Int))(j:Nat)(l:FT):Prop where
 of:oz P w K mg base j l
 oi:k6 mg is
 ob:∀x∈dg,mg x=none
 os:∃h:Heap,K.In h/\h.Ns mainGlobals mg
section
variable {K:PySem.W.Frag}{st:Stmt}{l:FT}
theorem up(h:Ok P w K mg base is j l)(e:j<=k):Ok P w K mg base is k l:=⟨fun x n m z=>(h.of x n m z).mono e,h.oi,h.ob,h.os⟩
theorem K1(h:Ok P w K mg base is j l)(F:EF P w K mg base j x n m):Ok P w K mg base is j ((x,n,m)::l):=⟨K8 F h.of,h.oi,h.ob,h.os⟩
theorem Nh(h:Ok P w K mg base is j l)(D:iu K x st ps):Fh K mg x st ps:=let ⟨_,a,b⟩:=h.os;D.mg a b
theorem Nv(h:Ok P w K mg base is j l)(D:oJ K x st ps):JC K mg x st ps:=let ⟨_,a,b⟩:=h.os;D.mg a b
theorem fst(a:sc.kind=.function:=by kernel_rfl)(b:sc.isCoroutine=false:=by kernel_rfl)(c:sc.isGenerator=false:=by kernel_rfl)(d:N.Nodup:=by decide +kernel)(e:N.take P.length=P:=by kernel_rfl)(f:∀x∈P,sc.names.lookup x=some .local \/ sc.names.lookup x=some .cell:=by decide +kernel)(g:∀y∈sc.names,y.2≠.free:=by decide +kernel):dP N P sc:=⟨a,b,c,d,e,f,g⟩
abbrev MI(st:Stmt)(n:Nat):List Str:=(LL st).take n
theorem on(st:Stmt)(D:iu K x st (MI st n))(h:Ok P w K mg base is j l)(t:tW st (LL st) ⟨l,is⟩ none=some g:=by kernel_rfl)(F:dP (LL st) (MI st n) (aD st):=by exact fst)(e:(MI st n).length=n:=by kernel_rfl)(e':(LL st).length=k:=by kernel_rfl):Ok P w K mg base is (j+1) ((x,n,aU g k)::l):=by
 have:=K1 (up h (Nat.le_succ j)) (Nu (Nh h D) F h.ob h.of h.oi t)
 rw[e,e'] at this
 exact this
theorem ol(st:Stmt)(N:List Str)(q:Str)(D:oJ K x st (N.take n))(h:Ok P w K mg base is j l)(t:tW st N ⟨l,is⟩ (some q)=some g:=by kernel_rfl)(F:dP N (N.take n) (aD st):=by exact fst)(hq:x∈iO/\x++".<locals>."++"<lambda>"=q:=by decide +kernel)(e:(N.take n).length=n:=by kernel_rfl)(e':N.length=k:=by kernel_rfl):Ok P w K mg base is (j+4) ((x,n,aU g k)::l):=by
 have:=K1 (up h (jU j 4)) (Na (Nv h D) F h.ob h.of h.oi hq t)
 rw[e,e'] at this
 exact this
end
end Rg0
namespace K41
open PySem L2 Dl PySem.Spec PyProof.Rows
open Pg Rg0
abbrev gi:List (Str×Int):=[("MOST_PLACES",4),("MOST",9),("MOST_LISTED",3000)]
abbrev Ls:FT:=("_law_world",3,bQ)::("_law_orders",3,bH)::("_law_drawn",3,ak)::("_law_cell",2,dR)::("short",2,nK)::("totals",1,ph)::("through_all",3,dH)::("all_rests",1,dS)::("all_plans",1,iT)::("within_limits",1,eB)::("check_many",1,gQ)::("rank",4,i8)::("all_like",4,bp)::("likes",5,ji)::("check_both",3,eO)::("would_keep",5,cH)::("on_ways_of",4,dc)::("greater",2,jn)::("givers_best",1,dM)::("capped",2,nZ)::("steps",1,rD)::("refused",2,dz)::("lowered",3,cO)::("limits",1,gq)::("chosen_by_all",3,bq)::("is_still",2,k3)::("first_leaving",2,ee)::("why_kept",3,eZ)::("wants_more",4,cK)::("chosen_by",4,bO)::("ways_of",3,cN)::("replaced",3,lb)::("check_place",3,dQ)::("check_side",1,c9)::("check_number",2,c7)::("check_whole",3,f7)::("check_plan",2,c6)::("check_world",1,b8)::("is_plan",2,gg)::("keeps_amounts",3,cT)::("through",4,b9)::("is_world",1,cB)::("liked_pairs",1,bA)::("are_parts",3,fR)::("is_way",3,jd)::("is_end",2,eX)::("are_likes",2,fP)::("is_long",3,bD)::("is_number",2,cC)::("is_whole",3,br)::[]
theorem Kq:Rf.tW (top 65) pN ⟨Ls,gi⟩ none=some qh:=by kernel_rfl
structure Js(K:PySem.W.Frag)(mg:Str->Option Value):Prop where
 o:∀P w base,Ok P w K mg base gi 53 Ls
 c:Fh K mg "law" (top 65) ["_law_script"]
theorem J3{P:Program}{w:World}{K:PySem.W.Frag}{mg:Str->Option Value}{fa:Addr}(D:Js K mg)(hfa:mg "law"=some (.ref fa)):∃fd:FuncData,(∀ (s:Shared) (v:Value),BindsTo s fd ⟨[v],[]⟩ [("_law_script",v)])/\∀base:Heap,K.In base->base.Ns mainGlobals mg->oD P w K mg base Kb 54 fa fd ["_law_script"] (Lv K 1 gG):=by
 obtain⟨f,fd,hm,F,hb⟩:=D.c.ex
 rw[hfa] at hm;cases hm
 refine⟨fd,fun s v=>?_,fun base _ _=>Hc F (Rf.NA (N:=pN)) fun X hP hw hK hm' hb' C _ _ HF H=>by subst hP;subst hw;subst hK;subst hm';subst hb';have o:=D.o X.prog X.w X.base;exact Rf.Hg C o.ob o.of o.oi Kq⟩
 obtain⟨oc,od,kV,doc,pm,an,cdv,ct,osl,rfl,lk,hcd⟩:=F.ex
 exact .of_eq rfl
theorem walk{l:PySem.W.OpenLaw}{q:Program}{loose:List Str}{XP:(Str->Option Value)->Heap->Prop}{YP:World->Heap->Prop}{d:DefRec}{K:Params->PySem.W.Frag}{ts:List Addr}(hn:l.most=some 63)(hdf:d.params.defaults=[])(hname:d.name="law")
  (hY:∀ (w:World) (h:Heap),YP w h->(K w.params).In h/\∀P∈ts,h.get? P=some (PySem.W.tabObj #[])) (ht:∀w:World,l5 (K w.params) ts=true) (hI:∀ (w:World) {h:Heap}{mg:Str->Option Value},(K w.params).In h->h.Ns mainGlobals mg->Js (K w.params) mg) (main:∀ns:List Int,ns.length<=63->gG [.list (ns.map PyData.int)]=some (.bool true)) :
  PySem.W.WalkO q loose XP YP l.row.toRowW d [] (fun f vs=>PySem.call f vs) :=
 DP (n:=63) (k:=54) (x:="_law_script") (CX:=fun _=>Kb) (sp:=fun w=>Lv (K w.params) 1 gG) hn (by decide) hdf ⟨rfl,by decide,by decide⟩ hY ht (fun w mg fa h KX G hmg=>J3 (hI w KX G) (by rw[<- hname];exact hmg)) (fun _ _ a ns hl hT hS=>v8 hS hT (main ns hl)) fun _ _ _ _ _ z=>z
end K41
namespace Dl
open PySem L2 PySem.Spec PyProof.Rows
def tj:D->Prop|.none=>True|.bool _=>True|.int _=>True|.str x=>PyData.canLay0 (.str x)=true|_=>False
def gJ(b:Nat):Nat->D->Prop
 | 0,d=>tj d
 | k+1,d=>tj d\/(∃xs,(d=.list xs\/d=.tuple xs)/\xs.length<=b/\∀x∈xs,gJ b k x)
theorem gJ.leaf(h:tj d):gJ b k d:=by
 cases k with
 | zero=>exact h
 | succ k=>exact .inl h
theorem gJ.tup(hb:xs.length<=b)(h:∀x∈xs,gJ b k x):gJ b (k+1) (.tuple xs):=.inr ⟨xs,.inr rfl,hb,h⟩
theorem gJ.lst(hb:xs.length<=b)(h:∀x∈xs,gJ b k x):gJ b (k+1) (.list xs):=.inr ⟨xs,.inl rfl,hb,h⟩
theorem gJ.of_tup(h:gJ b k (.tuple xs)):∃j,k=j+1/\xs.length<=b/\∀x∈xs,gJ b j x:=by
 cases k with
 | zero=>cases h
 | succ k =>
  rcases h with h|⟨ys,h|h,h1,h2⟩
  ·cases h
  ·cases h
  ·cases h;exact⟨k,rfl,h1,h2⟩
theorem gJ.mono(hb:b<=b'):∀ {k k':Nat}{d:D},k<=k'->gJ b k d->gJ b' k' d
 | 0,k',d,_,h=>.leaf h
 | k+1,0,d,hk,h=>by omega
 | k+1,k'+1,d,hk,h=>by
  rcases h with h|⟨xs,h,h1,h2⟩
  ·exact .inl h
  ·exact .inr ⟨xs,h,yD h1 hb,fun x hx=>(h2 x hx).mono hb (by omega)⟩
theorem An{b:Nat}:∀ {xs:List D},(∀x∈xs,PyData.canLay0 x=true/\x.depth<=k)->PyData.canLayAll0 xs=true/\PyData.depthAll xs<=k
 | [],_=>⟨by simp[PyData.canLayAll0],by simp[PyData.depthAll]⟩
 | x::xs,h=>by
  obtain⟨a,c⟩:=An (b:=b) (xs:=xs) fun y hy=>h y (zC _ hy)
  obtain⟨a',c'⟩:=h x zE
  exact⟨by simp[PyData.canLayAll0,a,a'],by simp[PyData.depthAll];omega⟩
theorem gJ.lay:∀ {k:Nat}{d:D},gJ b k d->PyData.canLay0 d=true/\d.depth<=k:=by
 have lf:∀ {k:Nat}{d:D},tj d->PyData.canLay0 d=true/\d.depth<=k:=fun {k d} h=>by
  cases d<;>simp only[tj] at h<;>first|exact⟨h,by simp[PyData.depth]⟩|exact⟨by simp[PyData.canLay0],by simp[PyData.depth]⟩
 intro k
 induction k with
 | zero=>exact fun h=>lf h
 | succ k ih =>
  intro d h
  rcases h with h|⟨xs,h,h1,h2⟩
  ·exact lf h
  ·obtain⟨a,c⟩:=An (b:=b) (xs:=xs) fun y hy=>ih (h2 y hy)
   rcases h with rfl|rfl
   ·exact⟨by simp[PyData.canLay0,a],by simp[PyData.depth];omega⟩
   ·exact⟨by simp[PyData.canLay0,a],by simp[PyData.depth];omega⟩
theorem gJ.shaped(h:gJ b k d)(hk:k<=64):SeqAt.shaped d=true:=by
 obtain⟨a,c⟩:=h.lay
 simp[SeqAt.shaped,a];omega
theorem gJ.noDict(h:gJ b k d):∀kv,d≠.dict kv:=by
 rintro kv rfl
 have:=h.lay.1
 simp[PyData.canLay0] at this
def nh:D->Bool|.dict _=>false|_=>true
theorem gJ.nd(h:gJ b k d):nh d=true:=by
 cases d<;>first|rfl|exact absurd rfl (h.noDict _)
def MZ:D->Bool|.int _=>true|.bool _=>true|_=>false
def MT:D->Bool|.bool _=>true|_=>false
def HH:D->Bool|.tuple _=>true|_=>false
theorem kI(h:nh d=true):rQ (fW d) "int"=some (MZ d):=by cases d<;>first|cases h;done|exact GN _ (by simp[fW])
theorem kB(h:nh d=true):rQ (fW d) "bool"=some (MT d):=by cases d<;>first|cases h;done|exact EJ _ (by simp[fW])
theorem kT(h:nh d=true):rQ (fW d) "tuple"=some (HH d):=by cases d<;>first|cases h;done|exact kit_tuple _ (by simp[fW])
def whole(a b:Int):D->Bool|.int i=>decide (a<=i)&&decide (i<=b)|_=>false
theorem qq:∀ {ds:List D},(∀d∈ds,∃ρ',tgt ρ d=some ρ'/\te ρ'=some (h d))->cR tgt (fun _=>some true) te ρ ds=some (ds.map h)
 | [],_=>rfl
 | d::ds,hh=>by
  obtain⟨ρ',h1,h2⟩:=hh d zE
  have ih:=qq (ds:=ds) fun y hy=>hh y (zC _ hy)
  unfold cR
  rw[h1]
  simp[h2,ih]
theorem ll:∀ {ds:List D},(∀d∈ds,∃ρ',tgt ρ d=some ρ'/\tt ρ'=some (p d)/\(p d=true->te ρ'=some (h d)))->cR tgt tt te ρ ds=some ((ds.filter p).map h)
 | [],_=>rfl
 | d::ds,hh=>by
  obtain⟨ρ',h1,h2,h3⟩:=hh d zE
  have ih:=ll (ds:=ds) fun y hy=>hh y (zC _ hy)
  unfold cR
  rw[h1]
  simp only[zA,h2]
  cases hp:p d with
  | true=>rw[yL rfl,h3 hp];simp[ih,jW,hp]
  | false=>simp[ih,jW,hp]
theorem m5:∀ds:List D,boolsOf (ds.map fun d=>.bool (p d))=some (ds.map p)
 | []=>rfl
 | d::ds=>by simp[boolsOf,m5 ds]
theorem lJ(ds:List D):ju [.list (ds.map fun d=>.bool (p d))]=some (.bool (ds.all p)):=by
 simp only[ju,oneOf,zA,m5,zB,List.all_map]
 rfl
theorem bh(h:ds.length<=4000):small ds=some ds:=yL (yD h (by decide))
theorem lF{ds:List D}{i:Nat}(h:i < ds.length):rM ds (i:Nat)=some (ds.getD i .none):=by
 have:=sF (xs:=ds) (j:=i) (v:=ds[i]) (List.getElem?_eq_some_iff.mpr ⟨h,rfl⟩)
 rw[this]
 simp[List.getD,h]
theorem zk{ds:List D}(h:0 < ds.length):rM ds 0=some (ds.getD 0 .none):=lF (i:=0) h
theorem ua{ds:List D}(h:1 < ds.length):rM ds 1=some (ds.getD 1 .none):=lF (i:=1) h
theorem Hf{ds:List D}(h:2 < ds.length):rM ds 2=some (ds.getD 2 .none):=lF (i:=2) h
end Dl
namespace Wm
open PySem L2 Dl PySem.Spec PyProof.Rows Pg
theorem uC(ha:fa ρ=some (.int a))(hb:fb ρ=some (.int i))(hc:fc ρ=some (.int b)):iY AA AA fa fb fc ρ=some (.bool (decide (a<=i)&&decide (i<=b))):=by
 simp only[iY,ha,hb,hc,zA,AA,sZ,xH]
 by_cases h:a<=i<;>simp[h]
theorem nY(i j:Int):Dl.i4 (.int i) (.int j)=some (.int (i - j)):=rfl
theorem fA(i j:Int):Dl.aI (.int i) (.int j)=some (.int (i+j)):=rfl
theorem rO(d:D):Slot.all (.val d)=some d:=rfl
theorem sX(ds:List D):Slot.all (.own ds)=some (.list ds):=rfl
theorem Al:Slot.all .non=none:=rfl
theorem yk(d:D):Slot.frz (.val d)=some d:=rfl
theorem yz(ds:List D):Slot.frz (.own ds)=none:=rfl
theorem Ap:Slot.frz .non=none:=rfl
local macro_rules|`(tactic| simp! [$ts,*])=>`(tactic| simp only[aU,ar,fX,aG,fO,ka,cn,bc,fB,gB,Ht,ab,fC,iC,Mz,Mu,K3,f1,f2,nY,fA,aa,af,ah,ba,pH,bw,d9,oneOf,fN,bf,rO,sX,Al,yk,yz,Ap,aP,cf,bx,aV,eA,av,  zI,yU,xF,xO,zL,xK,List.replicate,xQ,yY,qG,kL,zA,Option.bind_none,zB,Option.map_none,Nat.reduceAdd,Nat.reduceSub,jD,Nat.sub_self,xH,reduceIte,$ts,*])
theorem fF(h:nh d=true)(a b:Int):br [d,.int a,.int b]=some (.bool (whole a b d)):=by
 simp! [br,oE,kI h,kB h]
 cases d<;>simp[MZ,MT,whole]
 rw[uC rfl rfl rfl]
theorem iM(h:nh d=true)(n:Int):cC [d,.int n]=some (.bool (whole 0 (n - 1) d)):=by
 simp! [cC,nj,fF h]
def long(a b:Int):D->Bool|.tuple ds=>decide (a<=(ds.length:Int))&&decide ((ds.length:Int)<=b)|_=>false
theorem dy(h:nh d=true)(a b:Int):bD [d,.int a,.int b]=some (.bool (long a b d)):=by
 simp! [bD,pZ,kT h]
 cases d<;>simp[HH,long]
 rw[uC rfl (i:=_) rfl rfl]
def iW:D->Int|.int i=>i|_=>0
theorem eU(h:whole a b d=true):d=.int (iW d)/\a<=iW d/\iW d<=b:=by
 cases d<;>simp[whole] at h
 exact⟨rfl,h⟩
theorem kl:∀ {ls:List D},ls.all (whole a b)=true->ls=(ls.map iW).map PyData.int
 | [],_=>rfl
 | d::ls,h=>by
  rw[xS,zF] at h
  rw[zI,zI,<- (eU h.1).1,<- kl h.2]
def gN(n:Int):D->Bool|.tuple ls=>ls.all (whole 0 (n - 1))&&decide ((ls.map iW).Nodup)|_=>false
theorem dZ(i j:Int):bJ (.int i) (.int j)=some (.bool (decide (i=j))):=by
 simp[bJ,Jm,SeqAt.shaped,PyData.canLay0,PyData.depth,PyData.eqv]
 rfl
theorem BM(h:ls.all (whole a b)=true)(hl:ls.length<=100):f2 bJ (f1 jo (fun _=>some (.tuple ls))) (ba bw (aa (fun _=>some (.tuple ls)) af)) []=some (.bool (decide ((ls.map iW).Nodup))):=by
 have e:=kl h
 have e1:jo (.tuple ls)=some (.int (many (ls.map iW))):=by
  simp only[jo,ij]
  conv=>lhs;rw[e]
  rw[bT,zA,yL]
  rw[zD]
  exact qZ (Nat.add_le_add_right hl 1) (by decide)
 simp! [e1,dZ]
 have:=ye (ls.map iW)
 rw[zD] at this
 simp only[<- this,Int.ofNat_inj,yK,PyData.bool.injEq]
theorem Km(r:Dl.Env)(d:D):fG 0 (none::r) d=some (some d::r):=by simp[fG,isFree]
theorem bL{cs:List Nat}(hfi:fi ρ=some ds)(hl:ds.length<=4000)(hh:∀d∈ds,te (some d::cs.map fun j=>(ρ[j]?).getD none)=some (h d)):aj 1 cs fi (fG 0) (fun _=>some true) te ρ=some (ds.map h):=by
 simp only[aj,hfi,zA,eE,List.replicate,xF,xO]
 rw[qq (h:=h) fun d hd=>⟨_,Km _ d,hh d hd⟩,zA,bh (by rw[zD];exact hl)]
theorem lj{cs:List Nat}(hfi:fi ρ=some ds)(hl:ds.length<=4000)
  (hp:∀d∈ds,tt (some d::cs.map fun j=>(ρ[j]?).getD none)=some (p d)) (hh:∀d∈ds,p d=true->te (some d::cs.map fun j=>(ρ[j]?).getD none)=some (h d)):aj 1 cs fi (fG 0) tt te ρ=some ((ds.filter p).map h):=by
 simp only[aj,hfi,zA,eE,List.replicate,xF,xO]
 rw[ll (p:=p) (h:=h) fun d hd=>⟨_,Km _ d,hp d hd,hh d hd⟩,zA,bh (by rw[zD];exact yD (xP _ _) hl)]
theorem uR(h:gJ b k d)(hb:b<=100)(n:Int):fP [d,.int n]=some (.bool (gN n d)):=by
 simp! [fP,m7,kT h.nd]
 cases d<;>try (simp[HH,gN];done)
 rename_i ls
 obtain⟨j,rfl,hl,hf⟩:=h.of_tup
 have c:=bL (cs:=[1]) (fi:=aP (ab 0)) (te:=(ah 2 cC (aa (ab 0) (aa (ab 1) af)))) (h:=fun x=>.bool (whole 0 (n - 1) x)) (ρ:=[some (.tuple ls),some (.int n)]) rfl (by omega) fun x hx=>by simp! [iM (hf x hx).nd]
 simp! [HH,xY,yO,c,lJ]
 cases e:ls.all (whole 0 (n - 1)) with
 | false=>simp[gN,e]
 | true =>
  have:=BM e (yD hl hb)
  simp only[f2,f1,ba,aa,af,zA,zB] at this
  simp! [gN,e,xY,yO,jK]
  simp only[bw,d9,oneOf,zA,fN,zB] at this
  simp! [this]
def placeOk(n:Int):D->Bool|.tuple ds=>decide (ds.length=2)&&(whole 0 9 (ds.getD 0 .none)&&gN n (ds.getD 1 .none))|_=>false
def iq(g t:Int):D->Bool|.tuple ds=>decide (ds.length=3)&&(whole 0 (g - 1) (ds.getD 0 .none)&&(whole 0 (t - 1) (ds.getD 1 .none)&&whole 1 9 (ds.getD 2 .none)))|_=>false
theorem rC(n:Nat)(ds:List D):long (n:Int) (n:Int) (.tuple ds)=decide (ds.length=n):=by
 simp only[long]
 by_cases h:ds.length=n
 ·simp[h]
 ·rw[zZ h,Bool.and_eq_false_iff,xB,xB];omega
theorem getD_mem{ds:List D}{i:Nat}(h:i < ds.length):ds.getD i .none∈ds:=by simp[List.getD,h]
theorem tM{b:Nat}(h:gJ b k d)(hb:b<=100)(n:Int):eX [d,.int n]=some (.bool (placeOk n d)):=by
 simp! [eX,uh,dy h.nd]
 cases d<;>try (simp[long,placeOk];done)
 rename_i ds
 obtain⟨j,rfl,hl,hf⟩:=h.of_tup
 rw[show long 2 2 (.tuple ds)=decide (ds.length=2) from rC 2 ds]
 by_cases e:ds.length=2
 ·have f0:=hf _ (getD_mem (i:=0) (by omega))
  have f1:=hf _ (getD_mem (i:=1) (by omega))
  simp! [e,jP,zk (show 0 < ds.length by omega),ua (show 1 < ds.length by omega),fF f0.nd,uR f1 hb,placeOk]
  cases whole 0 9 (ds.getD 0 .none)<;>simp
 ·simp[e,placeOk]
theorem Cj{b:Nat}(h:gJ b k d)(hb:b<=100)(g t:Int):jd [d,.int g,.int t]=some (.bool (iq g t d)):=by
 simp! [jd,uz,dy h.nd]
 cases d<;>try (simp[long,iq];done)
 rename_i ds
 obtain⟨j,rfl,hl,hf⟩:=h.of_tup
 rw[show long 3 3 (.tuple ds)=decide (ds.length=3) from rC 3 ds]
 by_cases e:ds.length=3
 ·have f0:=hf _ (getD_mem (i:=0) (by omega))
  have f1:=hf _ (getD_mem (i:=1) (by omega))
  have f2':=hf _ (getD_mem (i:=2) (by omega))
  simp! [e,jP,xY,yO,zk (show 0 < ds.length by omega),ua (show 1 < ds.length by omega),Hf (show 2 < ds.length by omega),fF f2'.nd,iM f0.nd,iM f1.nd,iq]
  cases whole 0 (g - 1) (ds.getD 0 .none)<;>cases whole 0 (t - 1) (ds.getD 1 .none)<;>simp
 ·simp[e,iq]
def cq:D->List D|.tuple ds=>ds|_=>[]
def mq(d:D):Bool:=long 1 4 d
def il(g t w:D):Bool:=mq g&&(mq t&&((cq g).all (placeOk (cq t).length)&&((cq t).all (placeOk (cq g).length)&&(HH w&&(cq w).all (iq (cq g).length (cq t).length)))))
theorem iX(h:long a b d=true):d=.tuple (cq d):=by cases d<;>first|rfl|cases h
theorem m9(hg:gJ b k g)(ht:gJ b k t)(hw:gJ b k w)(hb:b<=100):fR [g,t,w]=some (.bool (il g t w)):=by
 simp! [fR,nc,dy hg.nd,dy ht.nd,kT hw.nd]
 unfold il mq
 cases e1:long 1 4 g with
 | false=>simp
 | true =>
  cases e2:long 1 4 t with
  | false=>simp
  | true =>
   obtain⟨gs,rfl⟩:∃gs,g=.tuple gs:=⟨_,iX e1⟩
   obtain⟨ts,rfl⟩:∃ts,t=.tuple ts:=⟨_,iX e2⟩
   obtain⟨j,rfl,hgl,hgf⟩:=hg.of_tup
   obtain⟨j',hj,htl,htf⟩:=ht.of_tup
   have c1:=bL (cs:=[1]) (fi:=aP (ab 0)) (te:=(ah 2 eX (aa (ab 0) (aa (ba bw (aa (ab 1) af)) af)))) (h:=fun x=>.bool (placeOk ts.length x)) (ρ:=[some (.tuple gs),some (.tuple ts),some w]) rfl (by omega) fun x hx=>by simp! [tM (hgf x hx) hb]
   have c2:=bL (cs:=[0]) (fi:=aP (ab 1)) (te:=(ah 2 eX (aa (ab 0) (aa (ba bw (aa (ab 1) af)) af)))) (h:=fun x=>.bool (placeOk gs.length x)) (ρ:=[some (.tuple gs),some (.tuple ts),some w]) rfl (by omega) fun x hx=>by simp! [tM (htf x hx) hb]
   simp! [xY,yO,c1,lJ,cq,jK]
   cases e3:gs.all (placeOk ts.length) with
   | false=>simp
   | true =>
    simp! [xY,yO,c2,lJ,jK]
    cases e4:ts.all (placeOk gs.length) with
    | false=>simp
    | true =>
     cases hT:HH w with
     | false=>simp! [xY,yO,kT hw.nd,hT,vY,kX]
     | true =>
     obtain⟨ws,rfl⟩:∃ws,w=.tuple ws:=by cases w<;>first|exact⟨_,rfl⟩|cases hT
     obtain⟨j2,hj2,hwl,hwf⟩:=hw.of_tup
     have c3:=bL (cs:=[0,1]) (fi:=aP (ab 2)) (te:=(ah 3 jd (aa (ab 0) (aa (ba bw (aa (ab 1) af)) (aa (ba bw (aa (ab 2) af)) af))))) (h:=fun x=>.bool (iq gs.length ts.length x)) (ρ:=[some (.tuple gs),some (.tuple ts),some (.tuple ws)]) rfl (by omega) fun x hx=>by simp! [Cj (hwf x hx) hb]
     simp! [xY,yO,c3,lJ,jK,kT hw.nd,HH]
theorem pe:∀ (a b:List Int),PyData.eqvAll (a.map PyData.int) (b.map PyData.int)=decide (a=b)
 | [],[]=>by simp[PyData.eqvAll]
 | [],_::_=>by simp[PyData.eqvAll]
 | _::_,[]=>by simp[PyData.eqvAll]
 | i::a,j::b=>by
  rw[zI,zI,PyData.eqvAll,pe a b]
  by_cases h:i=j
  ·subst h;simp[PyData.eqv]
  ·simp[PyData.eqv,h]
theorem u5:∀ (a b:List (List Int)),PyData.eqvAll (a.map ae) (b.map ae)=decide (a=b)
 | [],[]=>by simp[PyData.eqvAll]
 | [],_::_=>by simp[PyData.eqvAll]
 | _::_,[]=>by simp[PyData.eqvAll]
 | x::a,y::b=>by
  rw[zI,zI,PyData.eqvAll,u5 a b,ae,ae,PyData.eqv,pe]
  by_cases h:x=y
  ·subst h;simp
  ·simp[h]
theorem gZ(i:Int):gJ b k (.int i):=.leaf trivial
theorem yt(h:r.length<=b):gJ b (k+1) (ae r):=.tup (by rw[zD];exact h) fun x hx=>by
 obtain⟨i,_,rfl⟩:=List.mem_map.mp hx
 exact gZ i
theorem Ea{b k:Nat}{a:List (List Int)}(h:a.length<=b)(hr:∀r∈a,r.length<=b):gJ b (k+2) (.list (a.map ae)):=.lst (by rw[zD];exact h) fun x hx=>by
 obtain⟨r,hr',rfl⟩:=List.mem_map.mp hx
 exact yt (hr r hr')
theorem A6(a:List (List Int)):∃b,a.length<=b/\∀r∈a,r.length<=b:=by
 induction a with
 | nil=>exact⟨0,yM _,fun r h=>by cases h⟩
 | cons x a ih =>
  obtain⟨b,h1,h2⟩:=ih
  refine⟨b+1+x.length,by rw[zL];omega,fun r hr=>?_⟩
  rcases List.mem_cons.mp hr with rfl|hr
  ·omega
  ·have:=h2 r hr;omega
theorem tv(a:List (List Int)):SeqAt.shaped (.list (a.map ae))=true:=by
 obtain⟨b,h1,h2⟩:=A6 a
 exact (Ea (b:=b) (k:=0) h1 h2).shaped (by decide)
theorem Bs(a b:List (List Int)):bJ (.list (a.map ae)) (.list (b.map ae))=some (.bool (decide (a=b))):=by
 simp only[bJ,Jm,tv,jO,xH,PyData.eqv,u5,zB]
def i3(d:D):List Int:=(cq ((cq d).getD 1 .none)).map iW
theorem hV(h:placeOk n d=true):∃a ds,d=.tuple ds/\ds.length=2/\ds.getD 0 .none=.int a/\0<=a/\a<=9/\ds.getD 1 .none=.tuple ((i3 d).map PyData.int)/\(i3 d).Nodup/\∀j∈i3 d,0<=j/\j<=n - 1:=by
 cases d<;>simp only[placeOk] at h<;>try cases h
 rename_i ds
 simp only[zF,zJ] at h
 obtain⟨h1,h2,h3⟩:=h
 have e:i3 (.tuple ds)=(cq (ds.getD 1 .none)).map iW:=rfl
 rw[e]
 generalize hl:ds.getD 1 .none=l at h3
 cases l<;>simp only[gN] at h3<;>try cases h3
 rename_i ls
 simp only[zF,zJ] at h3
 obtain⟨w1,w2,w3⟩:=eU h2
 refine⟨_,ds,rfl,h1,w1,w2,w3,?_,h3.2,fun j hj=>?_⟩
 ·rw[show cq (.tuple ls)=ls from rfl,<- kl h3.1];exact hl
 ·obtain⟨x,hx,rfl⟩:=List.mem_map.mp hj
  exact (eU (List.all_eq_true.mp h3.1 x hx)).2
def lh(k:Nat):List D->List (List Int)|[]=>[]|p::ps=>(i3 p).map (fun j=>[((k:Nat):Int),j])++lh (k+1) ps
theorem oG:∀ (n:Nat) {l:List Int},l.Nodup->(∀j∈l,0<=j/\j<=(n:Int) - 1)->l.length<=n:=by
 intro n l hn h
 have hs:l.map Int.toNat ⊆ List.range n:=fun x hx=>by
  obtain⟨j,hj,rfl⟩:=List.mem_map.mp hx
  have:=h j hj
  exact List.mem_range.mpr (by omega)
 have hnd:(l.map Int.toNat).Nodup:=by
  refine List.pairwise_map.mpr (hn.imp_of_mem fun {x y} hx hy hne e=>hne ?_)
  have:=h x hx;have:=h y hy;omega
 have:=List.Nodup.length_le_of_subset hnd hs
 simpa using this
theorem rY{n:Nat}:∀ {ps:List D}{k:Nat},(∀p∈ps,placeOk n p=true)->(lh k ps).length<=ps.length * n
 | [],k,_=>xV _
 | p::ps,k,h=>by
  obtain⟨_,_,_,_,_,_,_,_,hn,hr⟩:=hV (h p zE)
  have h1:=oG n hn hr
  have h2:=rY (ps:=ps) (k:=k+1) fun q hq=>h q (zC _ hq)
  rw[lh,zN,zD,zL,Nat.succ_mul]
  omega
def pB:ao->Option Out:=rG 1 [2,3] (aj 1 [2] (aP (f2 av (ab 3) (fC (.int 1)))) (fG 0) (fun _=>some true) (aV (aa (ab 1) (aa (ab 0) af))))
theorem wy{n:Nat}{p:D}{acc:List D}(hp:placeOk n p=true)(hn:n<=100)(ha:acc.length<=1000):pB [.val x,.own acc,.val (.int (k:Nat)),.val p]=some (.nx [.val x,.own (acc++((i3 p).map fun j=>ae [((k:Nat):Int),j])),.val (.int (k:Nat)),.val p]):=by
 obtain⟨a,ds,rfl,hl,_,_,_,h1,hnd,hr⟩:=hV hp
 have hb:=oG n hnd hr
 generalize i3 (.tuple ds)=ls at *
 have c:=bL (cs:=[2]) (fi:=aP (f2 av (ab 3) (fC (.int 1)))) (te:=aV (aa (ab 1) (aa (ab 0) af))) (h:=fun y=>.tuple [.int (k:Nat),y]) (ρ:=[some x,none,some (.int (k:Nat)),some (.tuple ds)]) (ds:=ls.map PyData.int)
  (by simp! [ua (show 1 < ds.length by omega),h1]) (by rw[zD];omega) fun y hy=>by
   simp! [bh (show [PyData.int (k:Nat),y].length<=4000 by simp)]
 have hh:hand [2,3] 0 [Slot.val x,.own acc,.val (.int (k:Nat)),.val (.tuple ds)]=[Slot.val x,.own acc,.val (.int (k:Nat)),.val (.tuple ds)]:=rfl
 simp only[pB,rG,hh,bM,zI,yU,Slot.frz,c,zA,mT,yY,xQ]
 rw[yL]
 ·simp only[zB,yW,yV,zM]
  rfl
 ·simp only[zD]
  exact yD (show acc.length+ls.length<=1100 by omega) (by decide)
theorem qy{n:Nat}(hn:n<=100):∀ {ps:List D}{k:Nat}{acc:List D}{s2 s3:Slot},(∀p∈ps,placeOk n p=true)->acc.length+ps.length * n<=1000 ->
  ∃t2 t3,cg (g8 2 3) pB (bu k ps) [.val x,.own acc,s2,s3]=some (.nx [.val x,.own (acc++(lh k ps).map ae),t2,t3])
 | [],k,acc,s2,s3,_,_=>⟨s2,s3,by simp[bu,cg,lh]⟩
 | p::ps,k,acc,s2,s3,h,hl=>by
  have hp:=h p zE
  obtain⟨_,_,_,_,_,_,_,_,hnd,hr⟩:=hV hp
  have hb:=oG n hnd hr
  rw[zL,Nat.succ_mul] at hl
  obtain⟨t2,t3,e⟩:=qy hn (x:=x) (ps:=ps) (k:=k+1) (acc:=acc++((i3 p).map fun j=>ae [((k:Nat):Int),j])) (s2:=.val (.int (k:Nat))) (s3:=.val p) (fun q hq=>h q (zC _ hq)) (by rw[zN,zD];omega)
  refine⟨t2,t3,?_⟩
  have hs:g8 2 3 [.val x,.own acc,s2,s3] (.tuple [.int (k:Nat),p])=some [.val x,.own acc,.val (.int (k:Nat)),.val p]:=rfl
  simp only[bu,cg,hs,zA,wy hp hn (show acc.length<=1000 by omega)]
  rw[e]
  simp[lh,zM,wU]
theorem ym{n:Nat}{ps:List D}(h:∀p∈ps,placeOk n p=true)(hn:n<=100)(hl:ps.length * n<=1000):bA [.tuple ps]=some (.list ((lh 0 ps).map ae)):=by
 obtain⟨t2,t3,e⟩:=qy hn (x:=.tuple ps) (k:=0) (acc:=[]) (s2:=.non) (s3:=.non) h (by simpa using hl)
 have hs:aN 1 [] (eA af) [Slot.val (.tuple ps),.non,.non,.non]=some (.nx [.val (.tuple ps),.own [],.non,.non]):=rfl
 have hh:hand [0] 0 [Slot.val (.tuple ps),.own [],.non,.non]=[Slot.val (.tuple ps),.own [],.non,.non]:=rfl
 have hf:bz (aa (ab 0) af) (bM [Slot.val (.tuple ps),.own [],.non,.non])=some (bu 0 ps):=rfl
 simp! [bA,j6,hs,cy,hh,hf]
 rw[show rG 1 [2,3] (aj 1 [2] (aP (f2 av (ab 3) (fC (.int 1)))) (fG 0) (fun _=>some true) (aV (aa (ab 1) (aa (ab 0) af))))=pB from rfl,e]
 simp! []
def eD(d:D):List Int:=[iW ((cq d).getD 0 .none),iW ((cq d).getD 1 .none)]
theorem wt(h:iq g t d=true):∃ds c,d=.tuple ds/\ds.length=3/\ds.getD 0 .none=.int (iW (ds.getD 0 .none))/\ds.getD 1 .none=.int (iW (ds.getD 1 .none))/\ds.getD 2 .none=.int c/\1<=c/\c<=9 /\
  0<=iW (ds.getD 0 .none)/\iW (ds.getD 0 .none)<=g - 1/\0<=iW (ds.getD 1 .none)/\iW (ds.getD 1 .none)<=t - 1:=by
 cases d<;>simp only[iq] at h<;>try cases h
 rename_i ds
 simp only[zF,zJ] at h
 obtain⟨h1,h2,h3,h4⟩:=h
 have a:=eU h2
 have b:=eU h3
 have c:=eU h4
 exact⟨ds,_,rfl,h1,a.1,b.1,c.1,c.2.1,c.2.2,a.2.1,a.2.2,b.2.1,b.2.2⟩
def vc(g t w:D):Bool:=decide ((cq w).map eD=pj (lh 0 (cq g)))&&decide ((cq w).map eD=pj ((lh 0 (cq t)).map List.reverse))
def LR(d:D):Bool:=long 3 3 d&&(il ((cq d).getD 0 .none) ((cq d).getD 1 .none) ((cq d).getD 2 .none)&&vc ((cq d).getD 0 .none) ((cq d).getD 1 .none) ((cq d).getD 2 .none))
theorem jr:∀ {ps:List D}{k:Nat},∀r∈lh k ps,∃i j,r=[i,j]
 | [],k,r,h=>by cases h
 | p::ps,k,r,h=>by
  rcases List.mem_append.mp h with h|h
  ·obtain⟨j,_,rfl⟩:=List.mem_map.mp h;exact⟨_,_,rfl⟩
  ·exact jr r h
theorem lM(h:∀r∈a,∃i j,r=[i,j])(hl:a.length < 64):fM [.list (a.map ae)]=some ((pj a).map ae):=by
 have:∀ns∈a,ns≠[]:=fun ns hn=>by obtain⟨i,j,rfl⟩:=h ns hn;exact List.cons_ne_nil _ _
 simp only[fM,oneOf,zA,nX this,yL hl]
theorem pW:∀ {a:List (List Int)},(∀r∈a,∃i j,r=[i,j])->cR (fJ 0 1) (fun _=>some true) (aV (aa (ab 1) (aa (ab 0) af))) [none,none] (a.map ae)=some ((a.map List.reverse).map ae)
 | [],_=>rfl
 | r::a,h=>by
  obtain⟨i,j,rfl⟩:=h r zE
  have ih:=pW (a:=a) fun q hq=>h q (zC _ hq)
  have e:fJ 0 1 [none,none] (ae [i,j])=some [some (.int i),some (.int j)]:=rfl
  rw[zI,cR,e,zA,zA,yL rfl,ih]
  simp! [bh (show [PyData.int j,.int i].length<=4000 by simp)]
  rfl
theorem BI{a:List (List Int)}(hfi:fi ρ=some (a.map ae))(hl:a.length<=4000)(h:∀r∈a,∃i j,r=[i,j]):aj 2 [] fi (fJ 0 1) (fun _=>some true) (aV (aa (ab 1) (aa (ab 0) af))) ρ=some ((a.map List.reverse).map ae):=by
 simp only[aj,hfi,zA,eE,List.replicate,xF,xO,yU]
 rw[pW h,zA,bh (by rw[zD,zD];exact hl)]
theorem uS(h:il g t w=true):∃gs ts ws,g=.tuple gs/\t=.tuple ts/\w=.tuple ws/\1<=gs.length/\gs.length<=4/\1<=ts.length/\ts.length<=4/\(∀p∈gs,placeOk ts.length p=true)/\(∀p∈ts,placeOk gs.length p=true)/\∀x∈ws,iq gs.length ts.length x=true:=by
 simp only[il,mq,zF] at h
 obtain⟨h1,h2,h3,h4,h5,h6⟩:=h
 cases w<;>try cases h5
 rename_i ws
 have e1:=iX h1
 have e2:=iX h2
 generalize cq g=gs at *
 generalize cq t=ts at *
 subst e1 e2
 simp only[long,zF,zJ] at h1 h2
 exact⟨gs,ts,ws,rfl,rfl,rfl,by omega,by omega,by omega,by omega,List.all_eq_true.mp h3,List.all_eq_true.mp h4,List.all_eq_true.mp h6⟩
theorem we{b:Nat}(h:gJ b k d)(hb:b<=100):cB [d]=some (.bool (LR d)):=by
 unfold LR
 cases e1:long 3 3 d with
 | false=>simp! [cB,ik,dy h.nd,e1,Bool.not_false,vY]
 | true =>
  obtain⟨ds,rfl⟩:∃ds,d=.tuple ds:=⟨_,iX e1⟩
  obtain⟨j,rfl,hl,hf⟩:=h.of_tup
  rw[show long 3 3 (.tuple ds)=decide (ds.length=3) from rC 3 ds,zJ] at e1
  have f0:=hf _ (getD_mem (i:=0) (by omega))
  have f1:=hf _ (getD_mem (i:=1) (by omega))
  have f2':=hf _ (getD_mem (i:=2) (by omega))
  have i0:=zk (show 0 < ds.length by omega)
  have i1:=ua (show 1 < ds.length by omega)
  have i2:=Hf (show 2 < ds.length by omega)
  have el:bD [.tuple ds,.int 3,.int 3]=some (.bool true):=by rw[dy rfl,show long 3 3 (.tuple ds)=decide (ds.length=3) from rC 3 ds,yA e1]
  rw[show cq (.tuple ds)=ds from rfl,jK]
  generalize hg:ds.getD 0 .none=g at *
  generalize ht:ds.getD 1 .none=t at *
  generalize hw:ds.getD 2 .none=w at *
  cases e2:il g t w with
  | false=>simp! [cB,ik,el,i0,i1,i2,m9 f0 f1 f2' hb,e2,Bool.not_false,xY,vY]
  | true =>
   obtain⟨gs,ts,ws,rfl,rfl,rfl,g1,g4,t1,t4,hG,hT,hW⟩:=uS e2
   have hfw:=f2'.of_tup
   obtain⟨j2,_,hwl,_⟩:=hfw
   have q1:=rY (k:=0) hG
   have q2:=rY (k:=0) hT
   have m1:gs.length * ts.length<=16:=vX g4 t4
   have m2:ts.length * gs.length<=16:=vX t4 g4
   have l1:=ym hG (by omega) (by omega)
   have l2:=ym hT (by omega) (by omega)
   have s1:=lM (a:=lh 0 gs) jr (by omega)
   have s2:=lM (a:=(lh 0 ts).map List.reverse) (fun r hr=>by
    obtain⟨q,hq,rfl⟩:=List.mem_map.mp hr
    obtain⟨i,j,rfl⟩:=jr q hq
    exact⟨j,i,rfl⟩) (by rw[zD];omega)
   have c1:aj 1 [] (aP (f2 av (ab 0) (fC (.int 2)))) (fG 0) (fun _=>some true) (aV (aa (f2 av (ab 0) (fC (.int 0))) (aa (f2 av (ab 0) (fC (.int 1))) af))) [some (.tuple ds),none,none,none]=some ((ws.map eD).map ae):=by
    rw[bL (ds:=ws) (h:=fun x=>ae (eD x)) (by simp! [i2]) (by omega) fun x hx=>?_,zM]
    ·rfl
    ·obtain⟨vs,c,rfl,v3,v0,v1,_⟩:=wt (hW x hx)
     simp! [zk (show 0 < vs.length by omega),ua (show 1 < vs.length by omega),bh (show [vs.getD 0 PyData.none,vs.getD 1 .none].length<=4000 by simp),ae,eD,cq]
     rw[<- v0,<- v1]
   have c2:∀x y z,aj 2 [] (aP (ah 1 bA (aa (f2 av (ab 0) (fC (.int 1))) af))) (fJ 0 1) (fun _=>some true) (aV (aa (ab 1) (aa (ab 0) af))) [some (.tuple ds),x,y,z]=some (((lh 0 ts).map List.reverse).map ae):=fun x y z =>
    BI (by simp! [i1,l2]) (by omega) jr
   have st1:aN 1 [0] (aj 1 [] (aP (f2 av (ab 0) (fC (.int 2)))) (fG 0) (fun _=>some true) (aV (aa (f2 av (ab 0) (fC (.int 0))) (aa (f2 av (ab 0) (fC (.int 1))) af)))) [Slot.val (.tuple ds),.non,.non,.non]=some (.nx [.val (.tuple ds),.own ((ws.map eD).map ae),.non,.non]):=by
    have hh:hand [0] 0 [Slot.val (.tuple ds),.non,.non,.non]=[Slot.val (.tuple ds),.non,.non,.non]:=rfl
    simp only[aN,hh,bM,zI,yU,Slot.frz,c1,zB,yW,yV]
   have st2:aN 2 [0] (pH fM (aa (ah 1 bA (aa (f2 av (ab 0) (fC (.int 0))) af)) af)) [Slot.val (.tuple ds),.own ((ws.map eD).map ae),.non,.non]=some (.nx [.val (.tuple ds),.own ((ws.map eD).map ae),.own ((pj (lh 0 gs)).map ae),.non]):=by
    have hh:hand [0] 0 [Slot.val (.tuple ds),.own ((ws.map eD).map ae),.non,.non]=[Slot.val (.tuple ds),.own ((ws.map eD).map ae),.non,.non]:=rfl
    simp only[aN,hh,bM,zI,yU,Slot.frz]
    simp! [i0,l1,s1,yW,yV]
   have st3:aN 3 [0] (pH fM (aa (cf (aj 2 [] (aP (ah 1 bA (aa (f2 av (ab 0) (fC (.int 1))) af))) (fJ 0 1) (fun _=>some true) (aV (aa (ab 1) (aa (ab 0) af))))) af)) [Slot.val (.tuple ds),.own ((ws.map eD).map ae),.own ((pj (lh 0 gs)).map ae),.non]
      =some (.nx [.val (.tuple ds),.own ((ws.map eD).map ae),.own ((pj (lh 0 gs)).map ae),.own ((pj ((lh 0 ts).map List.reverse)).map ae)]):=by
    have hh:hand [0] 0 [Slot.val (.tuple ds),.own ((ws.map eD).map ae),.own ((pj (lh 0 gs)).map ae),.non]=[Slot.val (.tuple ds),.own ((ws.map eD).map ae),.own ((pj (lh 0 gs)).map ae),.non]:=rfl
    simp only[aN,hh,bM,zI,yU,Slot.frz]
    simp! [c2,s2,yW,yV]
   simp! [cB,ik,el,i0,i1,i2,m9 f0 f1 f2' hb,e2,xY,yO,st1,st2,st3,Bs,vc,cq,jK]
   by_cases hq:List.map eD ws=pj (lh 0 gs)<;>simp[hq]
theorem yd(xs:List D):PyData.eqvAll xs []=xs.isEmpty:=by cases xs<;>simp[PyData.eqvAll]
theorem xw:SeqAt.shaped (.list [])=true:=by simp[SeqAt.shaped,PyData.canLay0,PyData.canLayAll0,PyData.depth,PyData.depthAll]
theorem Dx(h:∀x∈xs,gJ b k x)(hk:k<=60):bJ (.list xs) (.list [])=some (.bool xs.isEmpty):=by
 have hs:SeqAt.shaped (.list xs)=true:=(gJ.lst (b:=max b xs.length) (k:=k) (Nat.le_max_right _ _) fun x hx=>(h x hx).mono (Nat.le_max_left _ _) (yM _)).shaped (by omega)
 simp only[bJ,Jm,hs,xw,jO,xH,PyData.eqv,yd,zB]
theorem gD:small []=some []:=rfl
theorem BS(xs:List α)(k:Nat):cut xs none (some (k:Int))=xs.take k:=by
 simp only[cut,HT.tY,HT.zh,List.drop_zero,Nat.sub_zero]
 rw[List.take_eq_take_iff];omega
theorem uP(xs:List α)(k:Nat):cut xs (some (k:Int)) none=xs.drop k:=by
 simp only[cut,HT.tY,HT.zh]
 rw[kJ (by rw[qH];omega)]
 by_cases h:k<=xs.length
 ·rw[Nat.min_eq_left h]
 ·rw[Nat.min_eq_right (by omega),List.drop_of_length_le (yM _),List.drop_of_length_le (by omega)]
theorem fQ(b:Bool):gB (.bool b)=some b:=rfl
theorem xq(a b:D):small [a,b]=some [a,b]:=rfl
theorem IY(ρ:Dl.Env):aL (aa (fC (.int 2)) af) ρ=some [.int 0,.int 1]:=by
 have:Bt 2=true:=by decide
 simp! [aL,iI,this]
 rfl
theorem lR:∀ (ρ:ao) (k:Nat),hand [] k ρ=ρ
 | [],k=>rfl
 | s::r,k=>by simp[hand,lR r]
theorem nW:∀ {ps:List D}{k:Nat}{i j:Int},[i,j]∈lh k ps↔∃m p,ps[m]?=some p/\i=((k+m:Nat):Int)/\j∈i3 p
 | [],k,i,j=>by simp[lh]
 | p::ps,k,i,j=>by
  rw[lh,List.mem_append,nW (ps:=ps)]
  constructor
  ·rintro (h|⟨m,q,h1,h2,h3⟩)
   ·obtain⟨y,hy,e⟩:=List.mem_map.mp h
    injection e with e1 e2
    injection e2 with e2 _
    exact⟨0,p,rfl,by simpa using e1.symm,e2 ▸ hy⟩
   ·exact⟨m+1,q,by simpa using h1,by rw[h2];congr 1;omega,h3⟩
  ·rintro⟨m,q,h1,h2,h3⟩
   cases m with
   | zero =>
    simp at h1
    subst h1
    exact .inl (List.mem_map.mpr ⟨j,h3,by rw[h2];rfl⟩)
   | succ m=>exact .inr ⟨m,q,by simpa using h1,by rw[h2];congr 1;omega,h3⟩
theorem pU:∀ {ps:List D}{k:Nat},(∀p∈ps,(i3 p).Nodup)->(lh k ps).Nodup
 | [],k,_=>List.nodup_nil
 | p::ps,k,h=>by
  rw[lh,wR]
  refine⟨List.pairwise_map.mpr ((h p zE).imp fun hne e=>hne ?_),pU fun q hq=>h q (zC _ hq),?_⟩
  rotate_left
  ·injection e with _ e2
   injection e2
  ·rintro a ha b hb rfl
   obtain⟨y,hy,rfl⟩:=List.mem_map.mp ha
   obtain⟨m,q,h1,h2,h3⟩:=nW.mp hb
   omega
theorem KU(h:Dl.lexLt a b=true):lexLe a b=true:=by
 unfold lexLe
 cases e:Dl.lexLt b a with
 | false=>rfl
 | true=>have:=dG h e;rw[fw] at this;cases this
theorem dh(h:su i j):Dl.eK (.int i) (.int j)=some (.int (i * j)):=by
 simp only[Dl.eK,sZ,yL h,Option.some_or]
theorem gy(h:0 < j):Dl.jv (.int i) (.int j)=some (.int (i % j)):=yL h
theorem iN(h:0 < j/\j < 1073741824):Dl.lr (.int i) (.int j)=some (.int (i / j)):=yL h
theorem fS(i j:Int):Dl.BQ (.int i) (.int j)=some (.bool (decide (j < i))):=rfl
theorem jq(i j:Int):Dl.tN (.int i) (.int j)=some (.bool (decide (i < j))):=rfl
theorem ke(h:-(2 ^ 64) < i/\i < 2 ^ 64):su i j:=.inl h
theorem Jc(h:-(2 ^ 64) < j/\j < 2 ^ 64):su i j:=.inr h
theorem uQ(i:Int):Dl.oT (.int i)=true:=rfl
theorem uT(i:List D):Dl.oT (.tuple i)=false:=rfl
def cS(ns:List Int):D:=.list (ns.map PyData.int)
theorem JQ(k:Int)(hl:ns.length<=63):∃c,dR [cS ns,.int k]=some (.int c):=by
 have heq:bJ (.list (ns.map PyData.int)) (.list [])=some (.bool ns.isEmpty):=by
  have:=Dx (b:=0) (k:=0) (xs:=ns.map PyData.int) (fun x hx=>by obtain⟨i,_,rfl⟩:=List.mem_map.mp hx;exact gZ i) (by decide)
  rw[this];cases ns<;>rfl
 by_cases hn:ns=[]
 ·subst hn
  refine⟨7 * k,?_⟩
  rw[yU,List.isEmpty_nil] at heq
  simp! [dR,iP,cS,gD,heq,List.isEmpty_nil,dh (ke (i:=7) (j:=k) (by decide))]
 ·have hpos:(0:Int) < (ns.length:Int):=by have:=List.length_pos_iff.mpr hn;omega
  have he:ns.isEmpty=false:=by cases ns<;>first|rfl|exact absurd rfl hn
  obtain⟨j,hj⟩:=vJ (vU k (show (ns.length:Int)≠0 by omega))
  have hlt:=kZ k hpos
  have hx:rM (ns.map PyData.int) (k % (ns.length:Int))=some (.int (ns.getD j 0)):=by
   rw[hj]
   have:j < (ns.map PyData.int).length:=by rw[zD];omega
   rw[lF this,zG,zO,zG]
   rw[zK (by omega)]
   rfl
  refine⟨ns.getD j 0+6553 * (k / (ns.length:Int)),?_⟩
  simp! [dR,iP,cS,gD,heq,he,yO,zD,gy hpos,hx,iN (i:=k) (j:=(ns.length:Int)) ⟨hpos,by omega⟩,dh (ke (i:=6553) (j:=k / (ns.length:Int)) (by decide))]
theorem Fc(k many:Int)(hl:ns.length<=63)(hm:0 < many):∃r,ak [cS ns,.int k,.int many]=some (.int r)/\0<=r/\r < many:=by
 obtain⟨c,hc⟩:=JQ k hl
 have m1:∀i:Int,Dl.jv (.int i) (.int 2147483563)=some (.int (i % 2147483563)):=fun i=>gy (by decide)
 have m2:∀i:Int,Dl.jv (.int i) (.int 2147483399)=some (.int (i % 2147483399)):=fun i=>gy (by decide)
 have m3:∀i:Int,Dl.jv (.int i) (.int 2147483647)=some (.int (i % 2147483647)):=fun i=>gy (by decide)
 have d1:∀i:Int,Dl.lr (.int i) (.int 3)=some (.int (i / 3)):=fun i=>iN (by decide)
 have d2:∀i:Int,Dl.lr (.int i) (.int 7)=some (.int (i / 7)):=fun i=>iN (by decide)
 have d3:∀i:Int,Dl.lr (.int i) (.int 11)=some (.int (i / 11)):=fun i=>iN (by decide)
 have u1:∀i:Int,Dl.eK (.int i) (.int 69069)=some (.int (i * 69069)):=fun i=>dh (Jc (by decide))
 have u2:∀i:Int,Dl.eK (.int 104723) (.int i)=some (.int (104723 * i)):=fun i=>dh (ke (by decide))
 have b1:∀x:Int,Dl.eK (.int (x % 2147483563)) (.int (x % 2147483563))=some (.int (x % 2147483563 * (x % 2147483563))):=fun x=>dh (ke (by
  have:=vU x (show (2147483563:Int)≠0 by decide)
  have:=kZ x (show (0:Int) < 2147483563 by decide)
  omega))
 have b2:∀x:Int,Dl.eK (.int (x % 2147483399)) (.int (x % 2147483399))=some (.int (x % 2147483399 * (x % 2147483399))):=fun x=>dh (ke (by
  have:=vU x (show (2147483399:Int)≠0 by decide)
  have:=kZ x (show (0:Int) < 2147483399 by decide)
  omega))
 suffices h:∃x,ak [cS ns,.int k,.int many]=some (.int (x % many)) by
  obtain⟨x,hx⟩:=h
  exact⟨_,hx,vU x (show many≠0 by omega),kZ x hm⟩
 ·refine⟨(((((c % 2147483563 * 69069+104723 * (k+1)) % 2147483563) * ((c % 2147483563 * 69069+104723 * (k+1)) % 2147483563)+((c % 2147483563 * 69069+104723 * (k+1)) % 2147483563) / 3) % 2147483399) * ((((c % 2147483563 * 69069+104723 * (k+1)) % 2147483563) * ((c % 2147483563 * 69069+104723 * (k+1)) % 2147483563)+((c % 2147483563 * 69069+104723 * (k+1)) % 2147483563) / 3) % 2147483399)+((((c % 2147483563 * 69069+104723 * (k+1)) % 2147483563) * ((c % 2147483563 * 69069+104723 * (k+1)) % 2147483563)+((c % 2147483563 * 69069+104723 * (k+1)) % 2147483563) / 3) % 2147483399) / 7) % 2147483647 / 11,?_⟩
  simp! [ak,lC,hc,m1,u1,u2,Dl.az,uQ,yW,yV,b1,d1,m2,b2,d2,m3,d3,gy (j:=many) hm]
def dr(ns:List Int)(k many:Int):Int:=iW ((ak [cS ns,.int k,.int many]).getD .none)
theorem eu(k many:Int)(hl:ns.length<=63)(hm:0 < many):ak [cS ns,.int k,.int many]=some (.int (dr ns k many))/\0<=dr ns k many/\dr ns k many < many:=by
 obtain⟨r,h1,h2⟩:=Fc k many hl hm
 have:dr ns k many=r:=by simp only[dr,h1,qG,iW]
 rw[this];exact⟨h1,h2⟩
theorem uK(k many:Int)(hl:ns.length<=63)(hm:0 < many):ak [cS ns,.int k,.int many]=some (.int (dr ns k many)):=(eu k many hl hm).1
theorem Lj(k many:Int)(hl:ns.length<=63)(hm:0 < many):0<=dr ns k many:=(eu k many hl hm).2.1
theorem Lo(k many:Int)(hl:ns.length<=63)(hm:0 < many):dr ns k many < many:=(eu k many hl hm).2.2
def bN(r:List Int):D:=.list (r.map PyData.int)
def insI(ds:List Int)(k:Int)(d:Int):List Int:=let j:=if k < 0 then (k+(ds.length:Int)).toNat else min k.toNat ds.length;ds.take j++d::ds.drop j
theorem A1(ds:List Int)(k d:Int):Ar (ds.map PyData.int) k (.int d)=(insI ds k d).map PyData.int:=by
 simp only[Ar,insI,zD,jA,zI,List.map_take,List.map_drop]
theorem insI_perm(ds:List Int)(k d:Int):(insI ds k d).Perm (d::ds):=by
 simp only[insI]
 refine List.perm_middle.trans ?_
 rw[List.take_append_drop]
def oB:ao->Option Out:=(B3 6 [8] (ah 3 ak (aa (ab 0) (aa (f2 aI (f2 aI (ab 1) (f2 eK (fC (.int 4)) (ab 4))) (ab 7)) (aa (f2 aI (ba bw (aa (ab 6) af)) (fC (.int 1))) af)))) (ab 8))
theorem wq{s3:Slot}(hl:ns.length<=63)(ho:order.length<=1000) :
  oB [.val (cS ns),.val (.int a),s2,s3,.val (.int k),s5,.own (order.map PyData.int),.val (.int j),.val (.int x)] =
   some (.nx [.val (cS ns),.val (.int a),s2,s3,.val (.int k),s5,.own ((insI order (dr ns (a+4 * k+j) ((order.length:Int)+1)) x).map PyData.int),.val (.int j),.val (.int x)]):=by
 have h4:Dl.eK (.int 4) (.int k)=some (.int (4 * k)):=dh (ke (by decide))
 have hd:=eu (ns:=ns) (a+4 * k+j) ((order.length:Int)+1) hl (by omega)
 have hr:Bt (dr ns (a+4 * k+j) ((order.length:Int)+1))=true:=by
  simp only[Bt,zF,zJ]
  omega
 have hz:(order.map PyData.int).length < sizeLine:=by rw[zD];exact qZ ho (by decide)
 simp! [oB,B3,jx,uQ,mT,zD,h4,hd.1]
 rw[zD] at hz
 simp only[hr,hz,jO,xH,zB,A1,yW,yV]
theorem Cd{s3:Slot}(hl:ns.length<=63):∀ {row order:List Int}{j:Nat}{s7 s8:Slot},order.length+row.length<=1000 ->
  ∃ (o:List Int) (t7 t8:Slot),cg (g8 7 8) oB (bu j (row.map PyData.int)) [.val (cS ns),.val (.int a),s2,s3,.val (.int k),s5,.own (order.map PyData.int),s7,s8] =
   some (.nx [.val (cS ns),.val (.int a),s2,s3,.val (.int k),s5,.own (o.map PyData.int),t7,t8])/\o.Perm (row++order)
 | [],order,j,s7,s8,_=>⟨order,s7,s8,by simp[bu,cg],by simp⟩
 | x::row,order,j,s7,s8,h=>by
  rw[zL] at h
  have hp:=insI_perm order (dr ns (a+4 * k+((j:Nat):Int)) ((order.length:Int)+1)) x
  have hlen:=hp.length_eq
  rw[zL] at hlen
  obtain⟨o,t7,t8,e,p⟩:=Cd (s2:=s2) (s3:=s3) (s5:=s5) (a:=a) (k:=k) hl (row:=row) (order:=insI order (dr ns (a+4 * k+((j:Nat):Int)) ((order.length:Int)+1)) x) (j:=j+1) (s7:=.val (.int (j:Nat))) (s8:=.val (.int x)) (by omega)
  refine⟨o,t7,t8,?_,p.trans ?_⟩
  ·have hs:g8 7 8 [.val (cS ns),.val (.int a),s2,s3,.val (.int k),s5,.own (order.map PyData.int),s7,s8] (.tuple [.int (j:Nat),.int x])=some [.val (cS ns),.val (.int a),s2,s3,.val (.int k),s5,.own (order.map PyData.int),.val (.int (j:Nat)),.val (.int x)]:=rfl
   simp only[zI,bu,cg,hs,zA,wq hl (show order.length<=1000 by omega),e]
  ·refine (hp.append_left row).trans ?_
   rw[xF]
   exact List.perm_middle
def pf:List (List Int)->List (List Int)->Prop|[],[]=>True|a::l,b::m=>a.Perm b/\pf l m|_,_=>False
def rB:ao->Option Out:=(ar (aN 6 [] (eA af)) (ar (cy [5] (bz (aa (ab 5) af)) (g8 7 8) oB) (kb 3 [6] (ba bx (aa (ab 6) af)))))
theorem JN(hl:ns.length<=63)(hr:row.length<=1000)(hf:found.length<=1000) :
  ∃ (o:List Int) (t7 t8:Slot),rB [.val (cS ns),.val (.int a),.val rows,.own found,.val (.int k),.val (bN row),s6,s7,s8]=some (.nx [.val (cS ns),.val (.int a),.val rows,.own (found++[ae o]),.val (.int k),.val (bN row),.val (bN o),t7,t8])/\o.Perm row:=by
 obtain⟨o,t7,t8,e,p⟩:=Cd (s2:=.val rows) (s3:=.own found) (s5:=.val (bN row)) (a:=a) (k:=k) hl (row:=row) (order:=[]) (j:=0) (s7:=s7) (s8:=s8) (by simpa using hr)
 rw[qF] at p
 refine⟨o,t7,t8,?_,p⟩
 have h1:aN 6 [] (eA af) [.val (cS ns),.val (.int a),.val rows,.own found,.val (.int k),.val (bN row),s6,s7,s8]=some (.nx [.val (cS ns),.val (.int a),.val rows,.own found,.val (.int k),.val (bN row),.own [],s7,s8]):=by
  simp only[aN,lR,eA,af,zA,gD,zB,yW,yV]
 have h2:cy [5] (bz (aa (ab 5) af)) (g8 7 8) oB [.val (cS ns),.val (.int a),.val rows,.own found,.val (.int k),.val (bN row),.own [],s7,s8]=some (.nx [.val (cS ns),.val (.int a),.val rows,.own found,.val (.int k),.val (bN row),.own (o.map PyData.int),t7,t8]):=by
  have hh:hand [5] 0 [Slot.val (cS ns),.val (.int a),.val rows,.own found,.val (.int k),.val (bN row),.own [],s7,s8]=[Slot.val (cS ns),.val (.int a),.val rows,.own found,.val (.int k),.val (bN row),.own [],s7,s8]:=rfl
  have hq:bz (aa (ab 5) af) (bM [Slot.val (cS ns),.val (.int a),.val rows,.own found,.val (.int k),.val (bN row),.own [],s7,s8])=some (bu 0 (row.map PyData.int)):=by
   simp only[bM,zI,yU]
   simp! [bz,bN]
  simp only[cy,hh,hq,zA]
  exact e
 have h3:kb 3 [6] (ba bx (aa (ab 6) af)) [.val (cS ns),.val (.int a),.val rows,.own found,.val (.int k),.val (bN row),.own (o.map PyData.int),t7,t8]=some (.nx [.val (cS ns),.val (.int a),.val rows,.own (found++[ae o]),.val (.int k),.val (bN row),.val (bN o),t7,t8]):=by
  have hz:found.length < sizeLine:=qZ hf (by decide)
  have hh:hand [6] 0 [Slot.val (cS ns),.val (.int a),.val rows,.own found,.val (.int k),.val (bN row),.own (o.map PyData.int),t7,t8]=[Slot.val (cS ns),.val (.int a),.val rows,.own found,.val (.int k),.val (bN row),.val (bN o),t7,t8]:=rfl
  simp only[kb,jx,hh,bM,zI,yU]
  simp! [uT,yO,mT,hz,yW,yV,bN,ae]
 simp only[rB,ar,h1,h2,h3,zA]
theorem Ck{rws:D}(hl:ns.length<=63):∀ {rows:List (List Int)}{found:List D}{k:Nat}{s4 s5 s6 s7 s8:Slot},(∀r∈rows,r.length<=1000)->found.length+rows.length<=1000 ->
  ∃ (os:List (List Int)) (t4 t5 t6 t7 t8:Slot),cg (g8 4 5) rB (bu k (rows.map bN)) [.val (cS ns),.val (.int a),.val rws,.own found,s4,s5,s6,s7,s8]=some (.nx [.val (cS ns),.val (.int a),.val rws,.own (found++os.map ae),t4,t5,t6,t7,t8])/\pf os rows
 | [],found,k,s4,s5,s6,s7,s8,_,_=>⟨[],s4,s5,s6,s7,s8,by simp[bu,cg],trivial⟩
 | r::rows,found,k,s4,s5,s6,s7,s8,h,hf=>by
  rw[zL] at hf
  obtain⟨o,u7,u8,e1,p1⟩:=JN (rows:=rws) (a:=a) (k:=((k:Nat):Int)) (s6:=s6) (s7:=s7) (s8:=s8) hl (h r zE) (show found.length<=1000 by omega)
  obtain⟨os,t4,t5,t6,t7,t8,e,p⟩:=Ck hl (rws:=rws) (a:=a) (rows:=rows) (found:=found++[ae o]) (k:=k+1) (s4:=.val (.int (k:Nat))) (s5:=.val (bN r)) (s6:=.val (bN o)) (s7:=u7) (s8:=u8) (fun r' hr'=>h r' (zC _ hr')) (by rw[zN,xC];omega)
  refine⟨o::os,t4,t5,t6,t7,t8,?_,p1,p⟩
  have hs:g8 4 5 [.val (cS ns),.val (.int a),.val rws,.own found,s4,s5,s6,s7,s8] (.tuple [.int (k:Nat),bN r])=some [.val (cS ns),.val (.int a),.val rws,.own found,.val (.int (k:Nat)),.val (bN r),s6,s7,s8]:=rfl
  simp only[zI,bu,cg,hs,zA,e1]
  rw[e,List.append_assoc]
  rfl
theorem uN(hl:ns.length<=63)(hr:∀r∈rows,r.length<=1000)(hn:rows.length<=1000):∃os:List (List Int),bH [cS ns,.int a,.list (rows.map bN)]=some (.list (os.map ae))/\pf os rows:=by
 obtain⟨os,t4,t5,t6,t7,t8,e,p⟩:=Ck hl (rws:=.list (rows.map bN)) (a:=a) (rows:=rows) (found:=[]) (k:=0) (s4:=.non) (s5:=.non) (s6:=.non) (s7:=.non) (s8:=.non) hr (by simpa using hn)
 refine⟨os,?_,p⟩
 rw[xO] at e
 have h1:aN 3 [] (eA af) [.val (cS ns),.val (.int a),.val (.list (rows.map bN)),.non,.non,.non,.non,.non,.non]=some (.nx [.val (cS ns),.val (.int a),.val (.list (rows.map bN)),.own [],.non,.non,.non,.non,.non]):=by
  simp only[aN,lR,eA,af,zA,gD,zB,yW,yV]
 have h2:cy [2] (bz (aa (ab 2) af)) (g8 4 5) rB [.val (cS ns),.val (.int a),.val (.list (rows.map bN)),.own [],.non,.non,.non,.non,.non]=some (.nx [.val (cS ns),.val (.int a),.val (.list (rows.map bN)),.own (os.map ae),t4,t5,t6,t7,t8]):=by
  have hh:hand [2] 0 [Slot.val (cS ns),.val (.int a),.val (.list (rows.map bN)),.own [],.non,.non,.non,.non,.non]=[Slot.val (cS ns),.val (.int a),.val (.list (rows.map bN)),.own [],.non,.non,.non,.non,.non]:=rfl
  have hq:bz (aa (ab 2) af) (bM [Slot.val (cS ns),.val (.int a),.val (.list (rows.map bN)),.own [],.non,.non,.non,.non,.non])=some (bu 0 (rows.map bN)):=by
   simp only[bM,zI,yU]
   simp! [bz]
  simp only[cy,hh,hq,zA]
  exact e
 unfold rB oB at h2
 simp! [bH,j5,h1,h2]
abbrev Pl:=Int×List Int
abbrev Wy:=Int×Int×Int
def bB(p:Pl):D:=.tuple [.int p.1,ae p.2]
def au(w:Wy):D:=.tuple [.int w.1,.int w.2.1,.int w.2.2]
def ax(G T:List Pl)(W:List Wy):D:=.tuple [.tuple (G.map bB),.tuple (T.map bB),.tuple (W.map au)]
def zg(W:List Wy)(i:Int):List Int:=(W.filter fun w=>decide (w.1=i)).map fun w=>w.2.1
def ofT(W:List Wy)(j:Int):List Int:=(W.filter fun w=>decide (w.2.1=j)).map fun w=>w.1
abbrev B8(W:List Wy):Prop:=W.Pairwise fun a b=>a.1 < b.1\/(a.1=b.1/\a.2.1 < b.2.1)
structure Wd(G T:List Pl)(W:List Wy):Prop where
 g1:1<=G.length
 g4:G.length<=4
 t1:1<=T.length
 t4:T.length<=4
 ga:∀p∈G,0<=p.1/\p.1<=9
 ta:∀p∈T,0<=p.1/\p.1<=9
 gl:∀ (i:Nat) (p:Pl),G[i]?=some p->p.2.Perm (zg W i)
 tl:∀ (j:Nat) (p:Pl),T[j]?=some p->p.2.Perm (ofT W j)
 wr:∀w∈W,(0<=w.1/\w.1 < G.length)/\(0<=w.2.1/\w.2.1 < T.length)/\1<=w.2.2/\w.2.2<=9
 wp:B8 W
 wl:W.length<=16
theorem r8:j∈zg W i↔[i,j]∈W.map fun w=>[w.1,w.2.1]:=by
 simp only[zg,List.mem_map,List.mem_filter,zJ,kU,and_true]
 constructor
 ·rintro⟨w,⟨h1,h2⟩,h3⟩;exact⟨w,h1,h2,h3⟩
 ·rintro⟨w,h1,h2,h3⟩;exact⟨w,⟨h1,h2⟩,h3⟩
theorem sr:i∈ofT W j↔[i,j]∈W.map fun w=>[w.1,w.2.1]:=by
 simp only[ofT,List.mem_map,List.mem_filter,zJ,kU,and_true]
 constructor
 ·rintro⟨w,⟨h1,h2⟩,h3⟩;exact⟨w,h1,h3,h2⟩
 ·rintro⟨w,h1,h2,h3⟩;exact⟨w,⟨h1,h3⟩,h2⟩
theorem ma(h:B8 W)(i:Int):(zg W i).Nodup:=by
 unfold zg List.Nodup
 rw[jE,List.pairwise_filter]
 refine h.imp fun hab ha hb=>?_
 rw[zJ] at ha hb
 omega
theorem mW(h:B8 W)(i:Int):(ofT W i).Nodup:=by
 unfold ofT List.Nodup
 rw[jE,List.pairwise_filter]
 refine h.imp fun hab ha hb=>?_
 rw[zJ] at ha hb
 omega
theorem eS(p:Pl):i3 (bB p)=p.2:=by
 show ((p.2.map PyData.int).map iW)=p.2
 rw[zM]
 exact List.map_id _
theorem m6(ha:0<=p.1/\p.1<=9)(hn:p.2.Nodup)(hr:∀j∈p.2,0<=j/\j < n):placeOk n (bB p)=true:=by
 have e:(p.2.map PyData.int).map iW=p.2:=eS p
 have e2:(p.2.map PyData.int).all (whole 0 (n - 1))=true:=by
  rw[xG]
  intro x hx
  obtain⟨j,hj,rfl⟩:=List.mem_map.mp hx
  have:=hr j hj
  simp only[whole,zF,zJ]
  omega
 simp only[placeOk,bB,ae,zL,xK,vZ,wA,gN,whole,e,e2,ha.1,ha.2,hn,jP,Bool.and_self]
theorem AW(h:(0<=w.1/\w.1 < g)/\(0<=w.2.1/\w.2.1 < t)/\1<=w.2.2/\w.2.2<=9):iq g t (au w)=true:=by
 obtain⟨⟨a,b⟩,⟨c,d⟩,e,f⟩:=h
 have b':w.1<=g - 1:=by omega
 have d':w.2.1<=t - 1:=by omega
 simp only[iq,au,zL,xK,vZ,wA,whole,a,b',c,d',e,f,jP,Bool.and_self]
theorem MO(h:a < c\/(a=c/\b < d)):Dl.lexLt [a,b] [c,d]=true:=by
 show HT.lexLt [a,b] [c,d]=true
 rw[HT.cA]
 by_cases e:a=c
 ·rw[yL e,HT.cA,yN (by omega)]
  simp only[zJ];omega
 ·rw[yN e];simp only[zJ];omega
theorem Wd.glike(h:Wd G T W)(hp:p∈G):∃i:Nat,i < G.length/\p.2.Perm (zg W i):=by
 obtain⟨i,hi,e⟩:=qQ hp
 exact⟨i,hi,h.gl i p (by rw[zK hi,e])⟩
theorem Wd.tlike(h:Wd G T W)(hp:p∈T):∃i:Nat,i < T.length/\p.2.Perm (ofT W i):=by
 obtain⟨i,hi,e⟩:=qQ hp
 exact⟨i,hi,h.tl i p (by rw[zK hi,e])⟩
theorem Wd.gok(h:Wd G T W):(G.map bB).all (placeOk T.length)=true:=by
 rw[xG]
 intro x hx
 obtain⟨p,hp,rfl⟩:=List.mem_map.mp hx
 obtain⟨i,hi,q⟩:=h.glike hp
 refine m6 (h.ga p hp) (q.nodup_iff.mpr (ma h.wp _)) fun j hj=>?_
 obtain⟨w,hw,e⟩:=List.mem_map.mp (r8.mp (q.mem_iff.mp hj))
 injection e with e1 e2
 injection e2 with e2 _
 have:=(h.wr w hw).2.1
 rw[e2] at this;exact this
theorem Wd.tok(h:Wd G T W):(T.map bB).all (placeOk G.length)=true:=by
 rw[xG]
 intro x hx
 obtain⟨p,hp,rfl⟩:=List.mem_map.mp hx
 obtain⟨i,hi,q⟩:=h.tlike hp
 refine m6 (h.ta p hp) (q.nodup_iff.mpr (mW h.wp _)) fun j hj=>?_
 obtain⟨w,hw,e⟩:=List.mem_map.mp (sr.mp (q.mem_iff.mp hj))
 injection e with e1 e2
 have:=(h.wr w hw).1
 rw[e1] at this;exact this
theorem oh{W:List Wy}{p:Wy->Bool}(h:W.length<=16):(W.filter p).length<=16:=yD (xP _ _) h
theorem yq(h:p.2.length<=16):gJ 16 2 (bB p):=.tup (by simp only[zL,xK];omega) fun x hx=>by
 rcases List.mem_cons.mp hx with rfl|hx
 ·exact gZ _
 ·rw[yJ] at hx
  subst hx
  exact yt h
theorem FZ(w:Wy):gJ 16 1 (au w):=.tup (by simp only[zL,xK];omega) fun x hx=>by
 simp only[zQ,yF,xU] at hx
 rcases hx with rfl|rfl|rfl<;>exact gZ _
theorem Wd.fit(h:Wd G T W):gJ 16 4 (ax G T W):=by
 refine .tup (by simp only[zL,xK];omega) fun x hx=>?_
 simp only[zQ,yF,xU] at hx
 have h4:=h.g4
 have h5:=h.t4
 have h6:=h.wl
 rcases hx with rfl|rfl|rfl
 ·refine .tup (by rw[zD];omega) fun x hx=>?_
  obtain⟨p,hp,rfl⟩:=List.mem_map.mp hx
  obtain⟨i,hi,q⟩:=h.glike hp
  exact yq (by rw[q.length_eq,zg,zD];exact oh h.wl)
 ·refine .tup (by rw[zD];omega) fun x hx=>?_
  obtain⟨p,hp,rfl⟩:=List.mem_map.mp hx
  obtain⟨i,hi,q⟩:=h.tlike hp
  exact yq (by rw[q.length_eq,ofT,zD];exact oh h.wl)
 ·refine .tup (by rw[zD];omega) fun x hx=>?_
  obtain⟨p,hp,rfl⟩:=List.mem_map.mp hx
  exact (FZ p).mono (yM _) (by decide)
theorem AU(h0:0<=c)(h9:c<=9):Wd [(c,[0,1]),(c,[1,0])] [(c,[1,0]),(c,[0,1])] [(0,0,2),(0,1,2),(1,0,2),(1,1,2)] where
 g1:=by simp only[zL,xK];omega
 g4:=by simp only[zL,xK];omega
 t1:=by simp only[zL,xK];omega
 t4:=by simp only[zL,xK];omega
 ga:=by intro p hp;simp only[zQ,yF,xU] at hp;rcases hp with rfl|rfl<;>exact⟨h0,h9⟩
 ta:=by intro p hp;simp only[zQ,yF,xU] at hp;rcases hp with rfl|rfl<;>exact⟨h0,h9⟩
 gl:=by
  intro i p hp
  match i,hp with
  | 0,hp=>injection hp with hp;subst hp;exact (show List.Perm ([0,1]:List Int) (zg [(0,0,2),(0,1,2),(1,0,2),(1,1,2)] ((0:Nat):Int)) by decide)
  | 1,hp=>injection hp with hp;subst hp;exact (show List.Perm ([1,0]:List Int) (zg [(0,0,2),(0,1,2),(1,0,2),(1,1,2)] ((1:Nat):Int)) by decide)
 tl:=by
  intro i p hp
  match i,hp with
  | 0,hp=>injection hp with hp;subst hp;exact (show List.Perm ([1,0]:List Int) (ofT [(0,0,2),(0,1,2),(1,0,2),(1,1,2)] ((0:Nat):Int)) by decide)
  | 1,hp=>injection hp with hp;subst hp;exact (show List.Perm ([0,1]:List Int) (ofT [(0,0,2),(0,1,2),(1,0,2),(1,1,2)] ((1:Nat):Int)) by decide)
 wr:=show ∀w∈([(0,0,2),(0,1,2),(1,0,2),(1,1,2)]:List Wy),(0<=w.1/\w.1 < ((2:Nat):Int))/\(0<=w.2.1/\w.2.1 < ((2:Nat):Int))/\1<=w.2.2/\w.2.2<=9 by decide
 wp:=by decide
 wl:=by decide
def iD(f:Nat->Int):Nat->List (List Int)->List Pl|_,[]=>[]|k,r::rs=>(f k,r)::iD f (k+1) rs
theorem gC(f:Nat->Int):∀ (rs:List (List Int)) (k:Nat),(iD f k rs).length=rs.length
 | [],k=>rfl
 | r::rs,k=>by rw[iD,zL,zL,gC f rs]
theorem f9(f:Nat->Int):∀ {rs:List (List Int)}{k i:Nat}{p:Pl},(iD f k rs)[i]?=some p->∃r,rs[i]?=some r/\p=(f (k+i),r)
 | [],k,i,p,h=>by simp[iD] at h
 | r::rs,k,0,p,h=>by simp[iD] at h;exact⟨r,rfl,h.symm⟩
 | r::rs,k,i+1,p,h=>by
  simp only[iD,yY] at h
  obtain⟨y,h1,h2⟩:=f9 f h
  exact⟨y,by simpa using h1,by rw[h2];congr 2;omega⟩
theorem dC:∀ {a b:List (List Int)},pf a b->a.length=b.length
 | [],[],_=>rfl
 | x::a,y::b,h=>by rw[zL,zL,dC h.2]
 | [],_::_,h=>h.elim
 | _::_,[],h=>h.elim
theorem mj:∀ {a b:List (List Int)}{i:Nat}{r:List Int},pf a b->a[i]?=some r->∃s,b[i]?=some s/\r.Perm s
 | [],[],i,r,_,h=>by simp at h
 | x::a,y::b,0,r,h,e=>by
  simp only[xQ,yK] at e
  subst e
  exact⟨y,rfl,h.1⟩
 | x::a,y::b,i+1,r,h,e=>by
  simp only[yY] at e
  obtain⟨s,h1,h2⟩:=mj h.2 e
  exact⟨s,by simpa using h1,h2⟩
 | [],_::_,i,r,h,_=>h.elim
 | _::_,[],i,r,h,_=>h.elim
def jw(W:List Wy)(m:Nat):List (List Int):=(List.range m).map fun i=>zg W ((i:Nat):Int)
def ir(W:List Wy)(m:Nat):List (List Int):=(List.range m).map fun i=>ofT W ((i:Nat):Int)
theorem FB(m1:1<=m)(m4:m<=4)(s1:1<=s)(s4:s<=4)(hf:∀k,0<=f k/\f k<=9)(hg:∀k,0<=g k/\g k<=9)
  (hm:pf mine (jw W m)) (hy:pf yours (ir W s)) (wr:∀w∈W,(0<=w.1/\w.1 < m)/\(0<=w.2.1/\w.2.1 < s)/\1<=w.2.2/\w.2.2<=9) (wp:B8 W) (wl:W.length<=16):Wd (iD f 0 mine) (iD g 0 yours) W:=by
 have lm:(iD f 0 mine).length=m:=by rw[gC,dC hm,jw,zD,zR]
 have ly:(iD g 0 yours).length=s:=by rw[gC,dC hy,ir,zD,zR]
 have am:∀ {h:Nat->Int}{rs:List (List Int)},(∀k,0<=h k/\h k<=9)->∀p∈iD h 0 rs,0<=p.1/\p.1<=9:=fun {h rs} hh p hp=>by
  obtain⟨i,hi⟩:=List.mem_iff_getElem?.mp hp
  obtain⟨r,_,rfl⟩:=f9 h hi
  exact hh _
 refine⟨by omega,by omega,by omega,by omega,am hf,am hg,fun i p hp=>?_,fun i p hp=>?_,by rw[lm,ly];exact wr,wp,wl⟩
 ·obtain⟨r,h1,rfl⟩:=f9 f hp
  obtain⟨t,h2,h3⟩:=mj hm h1
  rw[jw,zO] at h2
  obtain⟨k,hk,rfl⟩:=Option.map_eq_some_iff.mp h2
  have:k=i:=by
   rw[zT] at hk
   obtain⟨h,e⟩:=hk
   rw[List.getElem_range] at e
   exact e.symm
  subst this
  exact h3
 ·obtain⟨r,h1,rfl⟩:=f9 g hp
  obtain⟨t,h2,h3⟩:=mj hy h1
  rw[ir,zO] at h2
  obtain⟨k,hk,rfl⟩:=Option.map_eq_some_iff.mp h2
  have:k=i:=by
   rw[zT] at hk
   obtain⟨h,e⟩:=hk
   rw[List.getElem_range] at e
   exact e.symm
  subst this
  exact h3
theorem bY{i:Nat}{fz:List Nat}{f:Dl.Env->Option D}{ρ ρ':ao}{d:D}(hf:f (bf ρ)=some d)(hs:Dl.oT d=false)(hh:hand fz 0 ρ=ρ')(hv:bM ρ'=bf ρ)(hr:gh d=false\/ρ'=ρ:=by first|exact .inr rfl|exact .inl rfl):Dl.az i fz f ρ=some (.nx (ρ'.set i (.val d))):=by
 rcases hr with hr|hr
 ·simp only[Dl.az,hf,zA,hs,yO,qP,hh,hv,zB,hr]
 ·subst hr
  simp only[Dl.az,hf,zA,hs,yO,qP,hh,hv,zB,ite_self]
theorem cL{i:Nat}{fz:List Nat}{f:Dl.Env->Option D}{ρ:ao}{d:D}(hf:f (bf ρ)=some d)(hs:Dl.oT d=true):Dl.az i fz f ρ=some (.nx (ρ.set i (.val d))):=by
 simp only[Dl.az,hf,zA,hs,xH]
theorem Hq(w:Wy):av (au w) (.int 0)=some (.int w.1):=rfl
theorem G8(w:Wy):av (au w) (.int 1)=some (.int w.2.1):=rfl
theorem w4(a b c:D):small [a,b,c]=some [a,b,c]:=rfl
theorem Li{a b s:Int}(hs:s=1\/s=2\/s=3)(h:a < b):a / s < b / s\/(a / s=b / s/\a % s < b % s):=by rcases hs with rfl|rfl|rfl<;>omega
theorem J9{k m s:Int}(hs:s=1\/s=2\/s=3)(hm:m=1\/m=2\/m=3)(h0:0<=k)(h:k < m * s):(0<=k / s/\k / s < m)/\0<=k % s/\k % s < s:=by
 rcases hs with rfl|rfl|rfl<;>rcases hm with rfl|rfl|rfl<;>omega
def lB:ao->Option Out:=(fX (cn (fB (f2 tN (ba bw (aa (ab 7) af)) (ab 2))) (fB (f2 BQ (ah 3 ak (aa (ab 0) (aa (f2 aI (f2 aI (ab 1) (fC (.int 2))) (ab 8)) (aa (fC (.int 4)) af)))) (fC (.int 0))))) (kb 7 [0,1,6,8] (aV (aa (f2 lr (ab 8) (ab 6)) (aa (f2 jv (ab 8) (ab 6)) (aa (f2 aI (fC (.int 1)) (ah 3 ak (aa (ab 0) (aa (f2 aI (f2 aI (ab 1) (fC (.int 12))) (ab 8)) (aa (fC (.int 2)) af))))) af))))) fO)
abbrev st(ns:List Int)(a mo m s:Int)(x4 x7 x8 x9 x10 x11:Slot):ao:=[.val (cS ns),.val (.int a),.val (.int mo),.non,x4,.val (.int m),.val (.int s),x7,x8,x9,x10,x11]
def GC(ns:List Int)(a mo s k:Int)(W:List Wy):List Wy:=if (W.length:Int) < mo/\0 < dr ns (a+2+k) 4 then W++[(k / s,k % s,1+dr ns (a+12+k) 2)] else W
theorem Ie{ns:List Int}{a mo m s k:Int}{W:List Wy}(hl:ns.length<=63)(hs:s=1\/s=2\/s=3)(hw:W.length<=9) :
  lB (st ns a mo m s .non (.own (W.map au)) (.val (.int k)) .non .non .non)=some (.nx (st ns a mo m s .non (.own ((GC ns a mo s k W).map au)) (.val (.int k)) .non .non .non)):=by
 have hs0:0 < s:=by omega
 have hz:W.length < sizeLine:=qZ hw (by decide)
 have hd:Dl.lr (.int k) (.int s)=some (.int (k / s)):=iN ⟨hs0,by omega⟩
 have hm:Dl.jv (.int k) (.int s)=some (.int (k % s)):=gy hs0
 have e4:=uK (ns:=ns) (a+2+k) 4 hl (by decide)
 have e2:=uK (ns:=ns) (a+12+k) 2 hl (by decide)
 have hh:hand [0,1,6,8] 0 (st ns a mo m s .non (.own (W.map au)) (.val (.int k)) .non .non .non)=st ns a mo m s .non (.own (W.map au)) (.val (.int k)) .non .non .non:=rfl
 have ha:kb 7 [0,1,6,8] (aV (aa (f2 lr (ab 8) (ab 6)) (aa (f2 jv (ab 8) (ab 6)) (aa (f2 aI (fC (.int 1)) (ah 3 ak (aa (ab 0) (aa (f2 aI (f2 aI (ab 1) (fC (.int 12))) (ab 8)) (aa (fC (.int 2)) af))))) af)))) (st ns a mo m s .non (.own (W.map au)) (.val (.int k)) .non .non .non)=some (.nx (st ns a mo m s .non (.own ((W++[(k / s,k % s,1+dr ns (a+12+k) 2)]).map au)) (.val (.int k)) .non .non .non)):=by
  simp only[kb,jx,hh,bM,zI,yU]
  simp! [uT,yO,mT,hd,hm,e2,w4,zD,hz,yW,yV,jA]
  rfl
 by_cases c1:(W.length:Int) < mo
 ·by_cases c2:0 < dr ns (a+2+k) 4
  ·rw[show GC ns a mo s k W=W++[(k / s,k % s,1+dr ns (a+12+k) 2)] from yL ⟨c1,c2⟩,<- ha]
   simp! [lB,jq,fS,zD,c1,c2,jP,fQ,e4]
  ·rw[show GC ns a mo s k W=W from yN fun h=>c2 h.2]
   simp! [lB,jq,fS,zD,c1,c2,jP,wK,fQ,e4,yO]
 ·rw[show GC ns a mo s k W=W from yN fun h=>c1 h.1]
  simp! [lB,jq,fS,zD,c1,wK,fQ,yO]
structure Bx(mo s k:Int)(W:List Wy):Prop where
 mem:∀w∈W,∃j:Int,0<=j/\j < k/\w.1=j / s/\w.2.1=j % s/\1<=w.2.2/\w.2.2<=2
 ris:B8 W
 len:(W.length:Int)<=k
 lem:(W.length:Int)<=mo
theorem Bx.next{ns:List Int}{a mo s k:Int}{W:List Wy}(hl:ns.length<=63)(hs:s=1\/s=2\/s=3)(hk:0<=k)(h:Bx mo s k W):Bx mo s (k+1) (GC ns a mo s k W):=by
 have old:∀w∈W,∃j:Int,0<=j/\j < k+1/\w.1=j / s/\w.2.1=j % s/\1<=w.2.2/\w.2.2<=2:=fun w hw=>by
  obtain⟨j,a,b,c⟩:=h.mem w hw
  exact⟨j,a,by omega,c⟩
 by_cases c:(W.length:Int) < mo/\0 < dr ns (a+2+k) 4
 ·rw[show GC ns a mo s k W=W++[(k / s,k % s,1+dr ns (a+12+k) 2)] from yL c]
  have g1:=Lj (ns:=ns) (a+12+k) 2 hl (by decide)
  have g2:=Lo (ns:=ns) (a+12+k) 2 hl (by decide)
  refine⟨fun w hw=>?_,?_,?_,?_⟩
  ·rcases List.mem_append.mp hw with hw|hw
   ·exact old w hw
   ·rw[yJ] at hw
    subst hw
    exact⟨k,hk,by omega,rfl,rfl,by simp only;omega,by simp only;omega⟩
  ·refine List.pairwise_append.mpr ⟨h.ris,vI _ _,fun a ha b hb=>?_⟩
   rw[yJ] at hb
   subst hb
   obtain⟨j,_,b,c1,c2,_⟩:=h.mem a ha
   rw[c1,c2]
   exact Li hs b
  ·have:=h.len;rw[zN,xC];omega
  ·have:=c.1;rw[zN,xC];omega
 ·rw[show GC ns a mo s k W=W from yN c]
  exact⟨old,h.ris,by have:=h.len;omega,h.lem⟩
theorem Cs{ns:List Int}{a mo m s:Int}(hl:ns.length<=63)(hs:s=1\/s=2\/s=3):∀ (n k:Nat) {W:List Wy}{x8:Slot},k+n<=9->Bx mo s k W ->
  ∃W' t8,cg (ig 8) lB ((List.range' k n).map fun i=>PyData.int ((i:Nat):Int)) (st ns a mo m s .non (.own (W.map au)) x8 .non .non .non)=some (.nx (st ns a mo m s .non (.own (W'.map au)) t8 .non .non .non))/\(n=0/\t8=x8\/∃d,t8=.val d)/\Bx mo s ((k+n:Nat):Int) W'
 | 0,k,W,x8,hk,h=>⟨W,x8,rfl,.inl ⟨rfl,rfl⟩,h⟩
 | n+1,k,W,x8,hk,h=>by
  have h':Bx mo s ((k+1:Nat):Int) (GC ns a mo s k W):=by
   have:=h.next (ns:=ns) (a:=a) hl hs (by omega)
   rwa [show ((k:Int)+1)=((k+1:Nat):Int) by omega] at this
  obtain⟨W',t8,e,q,b⟩:=Cs hl hs n (k+1) (W:=GC ns a mo s k W) (x8:=.val (.int (k:Nat))) (by omega) h'
  refine⟨W',t8,?_,.inr (q.elim (fun z=>⟨_,z.2⟩) id),by rw[show k+(n+1)=k+1+n by omega];exact b⟩
  have hsg:∀d,ig 8 (st ns a mo m s .non (.own (W.map au)) x8 .non .non .non) d=some (st ns a mo m s .non (.own (W.map au)) (.val d) .non .non .non):=fun d=>rfl
  rw[vG,zI,cg,hsg,zA,Ie hl hs (by have:=h.len;omega)]
  exact e
theorem Nc(W:List Wy)(i:Int)(hw:W.length<=20):aj 1 [0] (aP (ab 1)) (fG 0) (fB (f2 bJ (f2 av (ab 0) (fC (.int 0))) (ab 1))) (f2 av (ab 0) (fC (.int 1))) [some (.int i),some (.list (W.map au))]=some ((zg W i).map PyData.int):=by
 rw[lj (ds:=W.map au) (p:=fun d=>decide (iW ((cq d).getD 0 .none)=i)) (h:=fun d=>(cq d).getD 1 .none) rfl (by rw[zD];omega) (fun d hd=>?_) fun d hd _=>?_]
 ·rw[kG,zM,zg,zM];rfl
 ·obtain⟨w,_,rfl⟩:=List.mem_map.mp hd
  simp! [Hq,dZ,fQ]
  rfl
 ·obtain⟨w,_,rfl⟩:=List.mem_map.mp hd
  simp! [G8]
  rfl
theorem Nx(W:List Wy)(i:Int)(hw:W.length<=20):aj 1 [0] (aP (ab 1)) (fG 0) (fB (f2 bJ (f2 av (ab 0) (fC (.int 1))) (ab 1))) (f2 av (ab 0) (fC (.int 0))) [some (.int i),some (.list (W.map au))]=some ((ofT W i).map PyData.int):=by
 rw[lj (ds:=W.map au) (p:=fun d=>decide (iW ((cq d).getD 1 .none)=i)) (h:=fun d=>(cq d).getD 0 .none) rfl (by rw[zD];omega) (fun d hd=>?_) fun d hd _=>?_]
 ·rw[kG,zM,ofT,zM];rfl
 ·obtain⟨w,_,rfl⟩:=List.mem_map.mp hd
  simp! [G8,dZ,fQ]
  rfl
 ·obtain⟨w,_,rfl⟩:=List.mem_map.mp hd
  simp! [Hq]
  rfl
theorem Ah{m:Nat}(hm:m<=1000):Bt ((m:Nat):Int)=true:=by
 unfold Bt
 rw[zF,zJ,zJ]
 have h1:(0:Int)<=(m:Int):=Int.natCast_nonneg m
 have h2:(m:Int)<=1000:=by omega
 exact⟨jT (by decide) h1,Int.lt_of_le_of_lt h2 (by decide)⟩
theorem tq{j:Int}(h:Bt j=true):iI [.int j]=some ((List.range j.toNat).map fun i=>PyData.int ((i:Nat):Int)):=by
 rw[iI,yL h]
theorem sH{fi:Dl.Env->Option D}{ρ:Dl.Env}(m:Nat)(hm:m<=1000)(h:fi ρ=some (.int (m:Nat))):aL (aa fi af) ρ=some ((List.range m).map fun i=>PyData.int ((i:Nat):Int)):=by
 have e:aa fi af ρ=some [.int ((m:Nat):Int)]:=by simp only[aa,af,h,zA,zB]
 have e2:aL (aa fi af) ρ=(aa fi af ρ).bind iI:=rfl
 rw[e2,e,zA,tq (Ah hm),yG]
theorem Gc{W:List Wy}{m:Nat}{i7 i5:Nat}{ρ:Dl.Env}(hw:W.length<=20)(hm:m<=1000)(h5:ab i5 ρ=some (.int (m:Nat)))(h7:(ρ[i7]?).getD none=some (.list (W.map au))) :
  aj 1 [i7] (aL (aa (ab i5) af)) (fG 0) (fun _=>some true) (cf (aj 1 [0] (aP (ab 1)) (fG 0) (fB (f2 bJ (f2 av (ab 0) (fC (.int 0))) (ab 1))) (f2 av (ab 0) (fC (.int 1))))) ρ=some ((jw W m).map bN):=by
 rw[bL (h:=fun d=>bN (zg W (iW d))) (sH m hm h5) (by rw[zD,zR];omega) fun d hd=>?_]
 ·rw[jw,zM,zM];rfl
 ·obtain⟨i,_,rfl⟩:=List.mem_map.mp hd
  simp only[zI,yU,h7,cf,Nc W _ hw,zB,bN,iW]
theorem Gs{W:List Wy}{m:Nat}{i7 i5:Nat}{ρ:Dl.Env}(hw:W.length<=20)(hm:m<=1000)(h5:ab i5 ρ=some (.int (m:Nat)))(h7:(ρ[i7]?).getD none=some (.list (W.map au))) :
  aj 1 [i7] (aL (aa (ab i5) af)) (fG 0) (fun _=>some true) (cf (aj 1 [0] (aP (ab 1)) (fG 0) (fB (f2 bJ (f2 av (ab 0) (fC (.int 1))) (ab 1))) (f2 av (ab 0) (fC (.int 0))))) ρ=some ((ir W m).map bN):=by
 rw[bL (h:=fun d=>bN (ofT W (iW d))) (sH m hm h5) (by rw[zD,zR];omega) fun d hd=>?_]
 ·rw[ir,zM,zM];rfl
 ·obtain⟨i,_,rfl⟩:=List.mem_map.mp hd
  simp only[zI,yU,h7,cf,Nx W _ hw,zB,bN,iW]
def HB(c:Int):Dl.Env->Option D:=(aV (aa (ah 3 ak (aa (ab 2) (aa (f2 aI (f2 aI (ab 3) (fC (.int c))) (ab 0)) (aa (fC (.int 4)) af)))) (aa (ab 1) af)))
theorem Ko{ns:List Int}{a:Int}(c:Int)(hl:ns.length<=63):∀ (mine:List (List Int)) (k:Nat),cR (fJ 0 1) (fun _=>some true) (HB c) [none,none,some (cS ns),some (.int a)] (bu k (mine.map ae))=some ((iD (fun k=>dr ns (a+c+((k:Nat):Int)) 4) k mine).map bB)
 | [],k=>rfl
 | r::mine,k=>by
  have hg:fJ 0 1 [none,none,some (cS ns),some (.int a)] (.tuple [.int ((k:Nat):Int),ae r])=some [some (.int ((k:Nat):Int)),some (ae r),some (cS ns),some (.int a)]:=rfl
  have he:HB c [some (.int ((k:Nat):Int)),some (ae r),some (cS ns),some (.int a)]=some (bB (dr ns (a+c+((k:Nat):Int)) 4,r)):=by
   simp! [HB,uK (ns:=ns) (a+c+((k:Nat):Int)) 4 hl (by decide),xq,bB]
  have ih:=Ko (a:=a) c hl mine (k+1)
  rw[zI,bu,cR,hg]
  simp only[zA,xH,he,ih,zB,iD,zI]
theorem jj:∀ (ds:List D) (k:Nat),(bu k ds).length=ds.length
 | [],k=>rfl
 | d::ds,k=>by rw[bu,zL,zL,jj ds]
theorem tU{ns:List Int}{a c:Int}{i9:Nat}{ρ:Dl.Env}{mine:List (List Int)}(hl:ns.length<=63)(hm:mine.length<=1000)(h9:ab i9 ρ=some (.list (mine.map ae)))(h0:(ρ[0]?).getD none=some (cS ns))(h1:(ρ[1]?).getD none=some (.int a)) :
  ba bx (aa (cf (aj 2 [0,1] (bz (aa (ab i9) af)) (fJ 0 1) (fun _=>some true) (HB c))) af) ρ=some (.tuple ((iD (fun k=>dr ns (a+c+((k:Nat):Int)) 4) 0 mine).map bB)):=by
 have hi:bz (aa (ab i9) af) ρ=some (bu 0 (mine.map ae)):=by
  simp only[bz,aa,af,h9,zA,zB,d9,oneOf,fN]
 have hc:aj 2 [0,1] (bz (aa (ab i9) af)) (fJ 0 1) (fun _=>some true) (HB c) ρ=some ((iD (fun k=>dr ns (a+c+((k:Nat):Int)) 4) 0 mine).map bB):=by
  simp only[aj,hi,zA,eE,zI,yU,h0,h1,List.replicate,xF,xO,Ko c hl]
  exact bh (by rw[zD,gC];omega)
 simp only[ba,aa,af,cf,hc,zB,zA,bx,d9,oneOf,fN]
theorem ai{g1 g2:ao->Option Out}{ρ ρ':ao}(h:g1 ρ=some (.nx ρ')):ar g1 g2 ρ=g2 ρ':=by
 simp only[ar,h,zA]
theorem aH{g:ao->Option Out}{n:Nat}{args:List D}{d:D}(h:g (args.map Slot.val++List.replicate (n - args.length) .non)=some (.rt d)):aU g n args=some d:=by
 simp only[aU,h,zB]
theorem iz{g:D->D->Option D}{fa fb:Dl.Env->Option D}{ρ:Dl.Env}{a b:D}(ha:fa ρ=some a)(hb:fb ρ=some b):f2 g fa fb ρ=g a b:=by
 simp only[f2,ha,hb,zA]
theorem HV{ns:List Int}{a mo:Int}{m s:Nat}(m1:m<=3)(s1:s<=3):f2 eK (ab 5) (ab 6) (bM (st ns a mo m s .non (.own []) .non .non .non .non))=some (.int ((m * s:Nat):Int)):=by
 have h:Dl.eK (.int (m:Int)) (.int (s:Int))=some (.int ((m:Int) * (s:Int))):=dh (ke (by omega))
 rw[iz (a:=.int (m:Int)) (b:=.int (s:Int)) rfl rfl,h,Int.natCast_mul]
theorem J0{ns:List Int}{a mo:Int}{m s:Nat}(m1:m<=3)(s1:s<=3)(hms:m * s<=9){W:List Wy}{t8:Slot}(e: cg (ig 8) lB ((List.range' 0 (m * s)).map fun i=>PyData.int ((i:Nat):Int)) (st ns a mo m s .non (.own (([]:List Wy).map au)) .non .non .non .non)=some (.nx (st ns a mo m s .non (.own (W.map au)) t8 .non .non .non))):cy [5,6] (aL (aa (f2 eK (ab 5) (ab 6)) af)) (ig 8) lB (st ns a mo m s .non (.own []) .non .non .non .non)=some (.nx (st ns a mo m s .non (.own (W.map au)) t8 .non .non .non)):=by
 have hh:hand [5,6] 0 (st ns a mo m s .non (.own []) .non .non .non .non)=st ns a mo m s .non (.own []) .non .non .non .non:=rfl
 have hr:=sH (fi:=f2 eK (ab 5) (ab 6)) (ρ:=bM (st ns a mo m s .non (.own []) .non .non .non .non)) (m * s) (by omega) (HV m1 s1)
 rw[List.range_eq_range'] at hr
 rw[yU] at e
 simp only[cy,hh,hr,zA]
 exact e
structure Mi(mo:Int)(G T:List Pl)(W:List Wy):Prop where
 g3:G.length<=3
 t3:T.length<=3
 w2:∀w∈W,w.2.2<=2
 ga:∀p∈G,p.1<=3
 ta:∀p∈T,p.1<=3
 wm:(W.length:Int)<=mo
theorem sN{ns:List Int}{a mo:Int}(hl:ns.length<=63)(hmo:3 < mo)(c:dr ns (a+64) 4=0):∃G T W,bQ [cS ns,.int a,.int mo]=some (ax G T W)/\Wd G T W/\Mi mo G T W:=by
 have e64:=uK (ns:=ns) (a+64) 4 hl (by decide)
 have e65:=eu (ns:=ns) (a+65) 2 hl (by decide)
 refine⟨_,_,_,?_,AU (c:=1+dr ns (a+65) 2) (by omega) (by omega),⟨by simp,by simp,by decide,fun p hp=>?_,fun p hp=>?_,by simp;omega⟩⟩
 rotate_left
 ·simp only[zQ,yF,xU] at hp;rcases hp with rfl|rfl<;>(simp only;omega)
 ·simp only[zQ,yF,xU] at hp;rcases hp with rfl|rfl<;>(simp only;omega)
 have s1:Dl.az 3 [0,1] (f2 aI (fC (.int 1)) (ah 3 ak (aa (ab 0) (aa (f2 aI (ab 1) (fC (.int 65))) (aa (fC (.int 2)) af))))) [.val (cS ns),.val (.int a),.val (.int mo),.non,.non,.non,.non,.non,.non,.non,.non,.non]=some (.nx [.val (cS ns),.val (.int a),.val (.int mo),.val (.int (1+dr ns (a+65) 2)),.non,.non,.non,.non,.non,.non,.non,.non]) :=
  cL (d:=.int (1+dr ns (a+65) 2)) (by simp! [e65.1]) rfl
 generalize 1+dr ns (a+65) 2=x at *
 have s2:Dl.az 4 [3] (aV (aa (aV (aa (ab 3) (aa (aV (aa (fC (.int 1)) (aa (fC (.int 0)) af))) af))) (aa (aV (aa (ab 3) (aa (aV (aa (fC (.int 0)) (aa (fC (.int 1)) af))) af))) af))) [.val (cS ns),.val (.int a),.val (.int mo),.val (.int x),.non,.non,.non,.non,.non,.non,.non,.non]=some (.nx [.val (cS ns),.val (.int a),.val (.int mo),.val (.int x),.val (.tuple [bB (x,[1,0]),bB (x,[0,1])]),.non,.non,.non,.non,.non,.non,.non]) :=
  bY (d:=.tuple [bB (x,[1,0]),bB (x,[0,1])]) (by simp! [xq];rfl) rfl rfl rfl
 simp! [bQ,eJ,fS,e64,c,dZ,jP,fQ,show decide ((3:Int) < mo)=true from yA hmo,s1,s2,xq,w4,show ∀a b c d:D,small [a,b,c,d]=some [a,b,c,d] from fun _ _ _ _=>rfl]
 rfl
theorem sP{ns:List Int}{a mo:Int}(hl:ns.length<=63)(hm0:0<=mo)(c:¬ (3 < mo/\dr ns (a+64) 4=0)):∃G T W,bQ [cS ns,.int a,.int mo]=some (ax G T W)/\Wd G T W/\Mi mo G T W:=by
 have e64:=uK (ns:=ns) (a+64) 4 hl (by decide)
 have em:=eu (ns:=ns) a 3 hl (by decide)
 have es:=eu (ns:=ns) (a+1) 3 hl (by decide)
 obtain⟨m,hm⟩:=vJ (show 0<=1+dr ns a 3 by omega)
 obtain⟨s,hs⟩:=vJ (show 0<=1+dr ns (a+1) 3 by omega)
 have m1:1<=m/\m<=3:=by omega
 have s1:1<=s/\s<=3:=by omega
 have hs':(s:Int)=1\/(s:Int)=2\/(s:Int)=3:=by omega
 have hm':(m:Int)=1\/(m:Int)=2\/(m:Int)=3:=by omega
 have t5:Dl.az 5 [0,1] (f2 aI (fC (.int 1)) (ah 3 ak (aa (ab 0) (aa (ab 1) (aa (fC (.int 3)) af))))) [.val (cS ns),.val (.int a),.val (.int mo),.non,.non,.non,.non,.non,.non,.non,.non,.non]=some (.nx [.val (cS ns),.val (.int a),.val (.int mo),.non,.non,.val (.int (m:Nat)),.non,.non,.non,.non,.non,.non]) :=
  cL (d:=.int (m:Nat)) (by simp! [em.1,hm]) rfl
 have t6:Dl.az 6 [0,1] (f2 aI (fC (.int 1)) (ah 3 ak (aa (ab 0) (aa (f2 aI (ab 1) (fC (.int 1))) (aa (fC (.int 3)) af))))) [.val (cS ns),.val (.int a),.val (.int mo),.non,.non,.val (.int (m:Nat)),.non,.non,.non,.non,.non,.non]=some (.nx (st ns a mo m s .non .non .non .non .non .non)) :=
  cL (d:=.int (s:Nat)) (by simp! [es.1,hs]) rfl
 have t7:aN 7 [] (eA af) (st ns a mo m s .non .non .non .non .non .non)=some (.nx (st ns a mo m s .non (.own []) .non .non .non .non)):=by
  simp only[aN,lR,eA,af,zA,gD,zB,yW,yV]
 have hms:m * s<=9:=vX m1.2 s1.2
 have hms1:1<=m * s:=vX m1.1 s1.1
 obtain⟨W,t8,e,h8,I⟩:=Cs (ns:=ns) (a:=a) (m:=m) (s:=s) hl hs' (m * s) 0 (W:=[]) (x8:=.non) (by omega) (mo:=mo) ⟨fun w hw=>(by cases hw),List.Pairwise.nil,by decide,hm0⟩
 rw[jD] at I
 obtain⟨d8,rfl⟩:∃d,t8=.val d:=h8.elim (fun z=>by omega) id
 have hlen9:W.length<=9:=by have:=I.len;omega
 have tf:=J0 m1.2 s1.2 hms e
 unfold lB at tf
 have hwl:W.length<=20:=by omega
 have wr:∀w∈W,(0<=w.1/\w.1 < m)/\(0<=w.2.1/\w.2.1 < s)/\1<=w.2.2/\w.2.2<=9:=fun w hw=>by
  obtain⟨j,j0,jk,ea,b,c1,c2⟩:=I.mem w hw
  have:=J9 hs' hm' j0 (by rw[<- Int.natCast_mul];exact jk)
  rw[ea,b]
  exact⟨this.1,this.2,c1,by omega⟩
 have lenG:∀r∈jw W m,r.length<=1000:=fun r hr=>by
  obtain⟨i,_,rfl⟩:=List.mem_map.mp hr
  rw[zg,zD]
  exact yD (xP _ _) (by omega)
 have lenT:∀r∈ir W s,r.length<=1000:=fun r hr=>by
  obtain⟨i,_,rfl⟩:=List.mem_map.mp hr
  rw[ofT,zD]
  exact yD (xP _ _) (by omega)
 obtain⟨mine,om,pm⟩:=uN (ns:=ns) (a:=a+24) (rows:=jw W m) hl lenG (by rw[jw,zD,zR];omega)
 obtain⟨yours,oy,py⟩:=uN (ns:=ns) (a:=a+40) (rows:=ir W s) hl lenT (by rw[ir,zD,zR];omega)
 have lm:mine.length<=1000:=by rw[dC pm,jw,zD,zR];omega
 have ly:yours.length<=1000:=by rw[dC py,ir,zD,zR];omega
 have t9:Dl.az 9 [0,1,5,7] (ah 3 bH (aa (ab 0) (aa (f2 aI (ab 1) (fC (.int 24))) (aa (cf (aj 1 [7] (aL (aa (ab 5) af)) (fG 0) (fun _=>some true) (cf (aj 1 [0] (aP (ab 1)) (fG 0) (fB (f2 bJ (f2 av (ab 0) (fC (.int 0))) (ab 1))) (f2 av (ab 0) (fC (.int 1))))))) af)))) (st ns a mo m s .non (.own (W.map au)) (.val d8) .non .non .non)=some (.nx (st ns a mo m s .non (.val (.list (W.map au))) (.val d8) (.val (.list (mine.map ae))) .non .non)):=by
  refine (bY (ρ':=st ns a mo m s .non (.val (.list (W.map au))) (.val d8) .non .non .non) (d:=.list (mine.map ae)) ?_ rfl rfl ?_).trans rfl
  ·have q:=Gc (ρ:=bf (st ns a mo m s .non (.own (W.map au)) (.val d8) .non .non .non)) (i5:=5) (i7:=7) hwl (show m<=1000 by omega) rfl rfl
   simp only[ah,aa,af,cf,q,zB,zA]
   simp! [om]
  ·simp only[st,bM,bf,zI,yU];rfl
 have t10:Dl.az 10 [0,1,6,7] (ah 3 bH (aa (ab 0) (aa (f2 aI (ab 1) (fC (.int 40))) (aa (cf (aj 1 [7] (aL (aa (ab 6) af)) (fG 0) (fun _=>some true) (cf (aj 1 [0] (aP (ab 1)) (fG 0) (fB (f2 bJ (f2 av (ab 0) (fC (.int 1))) (ab 1))) (f2 av (ab 0) (fC (.int 0))))))) af)))) (st ns a mo m s .non (.val (.list (W.map au))) (.val d8) (.val (.list (mine.map ae))) .non .non)=some (.nx (st ns a mo m s .non (.val (.list (W.map au))) (.val d8) (.val (.list (mine.map ae))) (.val (.list (yours.map ae))) .non)):=by
  refine (bY (ρ':=st ns a mo m s .non (.val (.list (W.map au))) (.val d8) (.val (.list (mine.map ae))) .non .non) (d:=.list (yours.map ae)) ?_ rfl ?_ ?_).trans rfl
  ·have q:=Gs (ρ:=bf (st ns a mo m s .non (.val (.list (W.map au))) (.val d8) (.val (.list (mine.map ae))) .non .non)) (i5:=6) (i7:=7) hwl (show s<=1000 by omega) rfl rfl
   simp only[ah,aa,af,cf,q,zB,zA]
   simp! [oy]
  ·rfl
  ·simp only[st,bM,bf,zI,yU];rfl
 have t11:Dl.az 11 [0,1,8,9] (ba bx (aa (cf (aj 2 [0,1] (bz (aa (ab 9) af)) (fJ 0 1) (fun _=>some true) (HB 56))) af)) (st ns a mo m s .non (.val (.list (W.map au))) (.val d8) (.val (.list (mine.map ae))) (.val (.list (yours.map ae))) .non)=some (.nx (st ns a mo m s .non (.val (.list (W.map au))) (.val d8) (.val (.list (mine.map ae))) (.val (.list (yours.map ae))) (.val (.tuple ((iD (fun k=>dr ns (a+56+((k:Nat):Int)) 4) 0 mine).map bB))))):=by
  refine (bY (ρ':=st ns a mo m s .non (.val (.list (W.map au))) (.val d8) (.val (.list (mine.map ae))) (.val (.list (yours.map ae))) .non) (tU hl lm rfl rfl rfl) rfl rfl ?_).trans rfl
  simp only[st,bM,bf,zI,yU];rfl
 have t4:∀G:D,Dl.az 4 [0,1,8,10] (ba bx (aa (cf (aj 2 [0,1] (bz (aa (ab 10) af)) (fJ 0 1) (fun _=>some true) (HB 60))) af)) (st ns a mo m s .non (.val (.list (W.map au))) (.val d8) (.val (.list (mine.map ae))) (.val (.list (yours.map ae))) (.val G))=some (.nx (st ns a mo m s (.val (.tuple ((iD (fun k=>dr ns (a+60+((k:Nat):Int)) 4) 0 yours).map bB))) (.val (.list (W.map au))) (.val d8) (.val (.list (mine.map ae))) (.val (.list (yours.map ae))) (.val G))):=fun G=>by
  refine (bY (ρ':=st ns a mo m s .non (.val (.list (W.map au))) (.val d8) (.val (.list (mine.map ae))) (.val (.list (yours.map ae))) (.val G)) (tU hl ly rfl rfl rfl) rfl rfl ?_).trans rfl
  simp only[st,bM,bf,zI,yU];rfl
 refine⟨_,_,W,?_,FB (f:=fun k=>dr ns (a+56+((k:Nat):Int)) 4) (g:=fun k=>dr ns (a+60+((k:Nat):Int)) 4) m1.1 (by omega) s1.1 (by omega) (fun k=>?_) (fun k=>?_) pm py wr I.ris (by omega),⟨by rw[gC,dC pm,jw,zD,zR];omega,by rw[gC,dC py,ir,zD,zR];omega,fun w hw=>(by obtain⟨j,_,_,_,_,_,z⟩:=I.mem w hw;exact z),fun p hp=>?_,fun p hp=>?_,I.lem⟩⟩
 ·unfold HB at t11 t4
  have tA:∀g,fX (cn (fB (f2 BQ (ab 2) (fC (.int 3)))) (fB (f2 bJ (ah 3 ak (aa (ab 0) (aa (f2 aI (ab 1) (fC (.int 64))) (aa (fC (.int 4)) af)))) (fC (.int 0))))) g fO [.val (cS ns),.val (.int a),.val (.int mo),.non,.non,.non,.non,.non,.non,.non,.non,.non]=some (.nx [.val (cS ns),.val (.int a),.val (.int mo),.non,.non,.non,.non,.non,.non,.non,.non,.non]):=fun g=>by
   by_cases c1:3 < mo
   ·have c2:¬ dr ns (a+64) 4=0:=fun z=>c ⟨c1,z⟩
    simp! [fS,e64,c1,c2,dZ,wK,jP,fQ,yO]
   ·simp! [fS,c1,wK,fQ,yO]
  refine aH ?_
  show eJ [.val (cS ns),.val (.int a),.val (.int mo),.non,.non,.non,.non,.non,.non,.non,.non,.non]=_
  unfold eJ
  rw[ai (tA _),ai t5,ai t6,ai t7,ai tf,ai t9,ai t10,ai t11,ai (t4 _)]
  simp! [w4,ax]
 ·have q:=eu (ns:=ns) (a+56+((k:Nat):Int)) 4 hl (by decide)
  exact⟨q.2.1,by omega⟩
 ·have q:=eu (ns:=ns) (a+60+((k:Nat):Int)) 4 hl (by decide)
  exact⟨q.2.1,by omega⟩
 ·obtain⟨i,hi⟩:=List.getElem?_of_mem hp
  obtain⟨r,_,rfl⟩:=f9 _ hi
  have q:=eu (ns:=ns) (a+56+((0+i:Nat):Int)) 4 hl (by decide)
  simp only;omega
 ·obtain⟨i,hi⟩:=List.getElem?_of_mem hp
  obtain⟨r,_,rfl⟩:=f9 _ hi
  have q:=eu (ns:=ns) (a+60+((0+i:Nat):Int)) 4 hl (by decide)
  simp only;omega
theorem uq{ns:List Int}{a mo:Int}(hl:ns.length<=63)(hm0:0<=mo):∃G T W,bQ [cS ns,.int a,.int mo]=some (ax G T W)/\Wd G T W/\Mi mo G T W:=by
 by_cases c:3 < mo/\dr ns (a+64) 4=0
 ·exact sN hl c.1 c.2
 ·exact sP hl hm0 c
section
theorem HA(h:B8 W):(W.map fun w=>[w.1,w.2.1]).Pairwise fun a b=>Dl.lexLt a b=true:=List.pairwise_map.mpr (h.imp fun hab=>MO hab)
theorem D0(h:B8 W):(W.map fun w=>[w.1,w.2.1]).Nodup:=(HA h).imp fun {a b} hab e=>by
 rw[e,fw] at hab
 cases hab
theorem D1(h:B8 W)(hn:m.Nodup)(hm:∀r,r∈W.map (fun w=>[w.1,w.2.1])↔r∈m):W.map (fun w=>[w.1,w.2.1])=pj m :=
 Dw ((List.perm_ext_iff_of_nodup (D0 h) hn).mpr hm) ((HA h).imp fun hab=>KU hab)
theorem Wd.wok(h:Wd G T W):LR (ax G T W)=true:=by
 have hP:(W.map au).map eD=W.map fun w=>[w.1,w.2.1]:=by rw[zM];rfl
 have hpg:∀i j:Int,[i,j]∈W.map (fun w=>[w.1,w.2.1])↔[i,j]∈lh 0 (G.map bB):=fun i j=>by
  rw[nW]
  constructor
  ·intro hm
   obtain⟨w,hw,e⟩:=List.mem_map.mp hm
   simp only[kU,and_true] at e
   have hr:=(h.wr w hw).1
   obtain⟨p,hp⟩:∃p,G[i.toNat]?=some p:=⟨G[i.toNat]'(by omega),zK (by omega)⟩
   refine⟨i.toNat,bB p,by rw[zO,hp];rfl,by omega,?_⟩
   rw[eS,(h.gl _ p hp).mem_iff,r8,show ((i.toNat:Nat):Int)=i by omega]
   exact hm
  ·rintro⟨m,p,hp,rfl,hj⟩
   rw[zO] at hp
   obtain⟨p',hp',rfl⟩:=Option.map_eq_some_iff.mp hp
   rw[eS,(h.gl m p' hp').mem_iff,r8] at hj
   rwa [jD]
 have hpt:∀i j:Int,[i,j]∈W.map (fun w=>[w.1,w.2.1])↔[j,i]∈lh 0 (T.map bB):=fun i j=>by
  rw[nW]
  constructor
  ·intro hm
   obtain⟨w,hw,e⟩:=List.mem_map.mp hm
   simp only[kU,and_true] at e
   have hr:=(h.wr w hw).2.1
   obtain⟨p,hp⟩:∃p,T[j.toNat]?=some p:=⟨T[j.toNat]'(by omega),zK (by omega)⟩
   refine⟨j.toNat,bB p,by rw[zO,hp];rfl,by omega,?_⟩
   rw[eS,(h.tl _ p hp).mem_iff,sr,show ((j.toNat:Nat):Int)=j by omega]
   exact hm
  ·rintro⟨m,p,hp,rfl,hj⟩
   rw[zO] at hp
   obtain⟨p',hp',rfl⟩:=Option.map_eq_some_iff.mp hp
   rw[eS,(h.tl m p' hp').mem_iff,sr] at hj
   rwa [jD]
 have two:∀ {r:List Int},r∈W.map (fun w=>[w.1,w.2.1])->∃i j,r=[i,j]:=fun hr=>by
  obtain⟨w,_,rfl⟩:=List.mem_map.mp hr
  exact⟨_,_,rfl⟩
 have ng:∀ (L:List Pl),(∀p∈L,p.2.Nodup)->(lh 0 (L.map bB)).Nodup:=fun L hL=>pU fun p hp=>by
  obtain⟨p',hp',rfl⟩:=List.mem_map.mp hp
  rw[eS]
  exact hL p' hp'
 have e1:W.map (fun w=>[w.1,w.2.1])=pj (lh 0 (G.map bB)):=D1 h.wp (ng G fun p hp=>by
   obtain⟨i,hi,e⟩:=qQ hp
   exact (h.gl i p (by rw[zK hi,e])).nodup_iff.mpr (ma h.wp i)) fun r=>⟨fun hr=>by
   obtain⟨i,j,rfl⟩:=two hr
   exact (hpg i j).mp hr,fun hr=>by
   obtain⟨i,j,rfl⟩:=jr r hr
   exact (hpg i j).mpr hr⟩
 have e2:W.map (fun w=>[w.1,w.2.1])=pj ((lh 0 (T.map bB)).map List.reverse):=D1 h.wp (by
   exact List.pairwise_map.mpr (List.Pairwise.imp (fun {a b} hne e=>hne (List.reverse_inj.mp e)) (ng T fun p hp=>by
    obtain⟨i,hi,e⟩:=qQ hp
    exact (h.tl i p (by rw[zK hi,e])).nodup_iff.mpr (mW h.wp i)))) fun r=>⟨fun hr=>by
   obtain⟨i,j,rfl⟩:=two hr
   exact List.mem_map.mpr ⟨[j,i],(hpt i j).mp hr,rfl⟩,fun hr=>by
   obtain⟨r',hr',rfl⟩:=List.mem_map.mp hr
   obtain⟨i,j,rfl⟩:=jr r' hr'
   exact (hpt j i).mpr hr'⟩
 have hw:(W.map au).all (iq G.length T.length)=true:=by
  rw[xG]
  intro x hx
  obtain⟨w,hw,rfl⟩:=List.mem_map.mp hx
  exact AW (h.wr w hw)
 have hs:∀ {L:List Pl},1<=L.length->L.length<=4->mq (.tuple (L.map bB))=true:=fun {L} a b=>by
  simp only[mq,long,zD,zF,zJ];omega
 have h3:long 3 3 (ax G T W)=true:=rfl
 have hg:=h.gok
 have ht:=h.tok
 unfold LR vc
 rw[h3,jK]
 simp only[ax,cq,vZ,wA,hP,<- e1,<- e2,jP,Bool.and_true,il,hs h.g1 h.g4,hs h.t1 h.t4,zD,hg,ht,hw,HH]
end
def sI(b:Bool):Int:=if b then 1 else 0
def bo(b:Bool)(w:Wy):Int:=if b then w.2.1 else w.1
def cm(b:Bool)(w:Wy):Int:=bo (!b) w
def aw(b:Bool)(G T:List Pl):List Pl:=if b then T else G
theorem gT(b:Bool)(G T:List Pl)(W:List Wy):av (ax G T W) (.int (sI b))=some (.tuple ((aw b G T).map bB)):=by cases b<;>rfl
theorem rh(G T:List Pl)(W:List Wy):av (ax G T W) (.int 2)=some (.tuple (W.map au)):=rfl
theorem sf(b:Bool)(w:Wy):av (au w) (.int (sI b))=some (.int (bo b w)):=by cases b<;>rfl
theorem GZ(b:Bool)(w:Wy):av (au w) (.int (1 - sI b))=some (.int (cm b w)):=by cases b<;>rfl
theorem sT(w:Wy):av (au w) (.int 2)=some (.int w.2.2):=rfl
theorem Fd(p:Pl):av (bB p) (.int 0)=some (.int p.1):=rfl
theorem F3(p:Pl):av (bB p) (.int 1)=some (ae p.2):=rfl
theorem oS(h:ds[i]?=some d):av (.tuple ds) (.int ((i:Nat):Int))=some d:=by
 show rM ds (i:Nat)=_
 exact sF h
theorem IH(h:ds[i]?=some d):av (.list ds) (.int ((i:Nat):Int))=some d:=by
 show rM ds (i:Nat)=_
 exact sF h
theorem mG{l:List α}(h:l[i]?=some x):av (.tuple (l.map f)) (.int ((i:Nat):Int))=some (f x):=oS (by rw[zO,h];rfl)
theorem yi{l:List α}(h:l[i]?=some x):av (.list (l.map f)) (.int ((i:Nat):Int))=some (f x):=IH (by rw[zO,h];rfl)
def LD(b:Bool)(W:List Wy)(p:Int):List Int:=(W.filter fun w=>decide (bo b w=p)).map (cm b)
theorem Wd.lik{G T:List Pl}{W:List Wy}(h:Wd G T W){b:Bool}{i:Nat}{p:Pl}(e:(aw b G T)[i]?=some p):p.2.Perm (LD b W i):=by
 cases b
 ·exact h.gl i p e
 ·exact h.tl i p e
theorem Wd.nod(h:Wd G T W)(b:Bool)(i:Int):(LD b W i).Nodup:=by
 cases b
 ·exact ma h.wp i
 ·exact mW h.wp i
theorem oZ{tt:Dl.Env->Option Bool}{te:Dl.Env->Option D}{r:List (Option D)}{p:Nat->D->Bool}{h:Nat->D->D}:∀ {ds:List D}{k:Nat},
  (∀i d,ds[i]?=some d->tt (some (.int ((k+i:Nat):Int))::some d::r)=some (p (k+i) d)/\(p (k+i) d=true->te (some (.int ((k+i:Nat):Int))::some d::r)=some (h (k+i) d))) ->
  cR (fJ 0 1) tt te (none::none::r) (bu k ds)=some (((ds.zipIdx k).filter fun q=>p q.2 q.1).map fun q=>h q.2 q.1)
 | [],k,_=>rfl
 | d::ds,k,hh=>by
  obtain⟨h1,h2⟩:=hh 0 d rfl
  have ih:=oZ (ds:=ds) (k:=k+1) fun i x hx=>by
   have:=hh (i+1) x (by simpa using hx)
   rw[show k+1+i=k+(i+1) by omega]
   exact this
  have hg:fJ 0 1 (none::none::r) (.tuple [.int ((k:Nat):Int),d])=some (some (.int ((k:Nat):Int))::some d::r):=by
   simp only[fJ,isFree,xQ,yY,qG,wG,jO,xH,yV,yW]
  rw[bu,cR,hg,List.zipIdx_cons]
  simp only[Nat.add_zero] at h1 h2
  simp only[zA,h1]
  cases hp:p k d with
  | true=>simp[h2 hp,ih,hp]
  | false=>simp[ih,hp]
theorem BE{cs:List Nat}{fi:Dl.Env->Option (List D)}{tt:Dl.Env->Option Bool}{te:Dl.Env->Option D}{ρ:Dl.Env}{ds:List D}{p:Nat->D->Bool}{h:Nat->D->D}(hfi:fi ρ=some (bu 0 ds))(hl:ds.length<=1000)
  (hh:∀i d,ds[i]?=some d->tt (some (.int ((i:Nat):Int))::some d::cs.map fun j=>(ρ[j]?).getD none)=some (p i d)/\(p i d=true->te (some (.int ((i:Nat):Int))::some d::cs.map fun j=>(ρ[j]?).getD none)=some (h i d))) :
  aj 2 cs fi (fJ 0 1) tt te ρ=some ((ds.zipIdx.filter fun q=>p q.2 q.1).map fun q=>h q.2 q.1):=by
 have:=oZ (tt:=tt) (te:=te) (r:=cs.map fun j=>(ρ[j]?).getD none) (p:=p) (h:=h) (ds:=ds) (k:=0) (by simpa using hh)
 simp only[aj,hfi,zA,eE,List.replicate,xF,xO,this]
 refine bh ?_
 rw[zD]
 refine yD (xP _ _) ?_
 rw[List.length_zipIdx]
 omega
theorem j4(f:α->Int):∀ {l m:List α},l.Perm m->(l.Pairwise fun a b=>f a<=f b)->(m.Pairwise fun a b=>f a < f b)->l=m
 | l,[],hp,_,_=>hp.eq_nil
 | [],x::m,hp,_,_=>absurd hp.symm.eq_nil (by simp)
 | y::l,x::m,hp,h1,h2=>by
  rw[List.pairwise_cons] at h1 h2
  have e:y=x:=by
   have hx:x∈y::l:=hp.mem_iff.mpr zE
   rcases List.mem_cons.mp hx with z|hx
   ·exact z.symm
   ·have hy:y∈x::m:=hp.mem_iff.mp zE
    rcases List.mem_cons.mp hy with z|hy
    ·exact z
    ·have:=h1.1 x hx
     have:=h2.1 y hy
     omega
  subst e
  rw[j4 f ((List.perm_cons y).mp hp) h1.2 h2.2]
theorem xl(z:Nat->Int)(l:List α)(d:α)(f:α->Int)(h:∀i,i < l.length->z i=f (l.getD i d)):(nS z l d).Pairwise fun a b=>f a<=f b:=by
 unfold nS
 split
 ·rename_i hl
  match l,hl with
  | [],_=>exact List.Pairwise.nil
  | [a],_=>exact vI _ _
 ·rename_i hl
  obtain⟨hp,hs⟩:=SP.eP (z:=z) (n:=l.length) (by omega)
  rw[jE] at hs ⊢
  refine hs.imp_of_mem fun {i j} hi hj hij=>?_
  have hi':i < l.length:=by have:=hp.mem_iff.mp hi;simpa using this
  have hj':j < l.length:=by have:=hp.mem_iff.mp hj;simpa using this
  rw[<- h i hi',<- h j hj']
  exact hij
def aS(W:List Wy)(i:Nat):Wy:=W.getD i (0,0,0)
theorem mC(hk:k < W.length):W[k]=aS W k:=by simp[aS,hk]
theorem lS(hk:k < W.length):W[k]?=some (aS W k):=by rw[zK hk,mC hk]
def own(b:Bool)(W:List Wy)(p:Int):List Nat:=(List.range W.length).filter fun i=>decide (bo b (aS W i)=p)
def oY(b:Bool)(W:List Wy)(p o:Int):Nat:=W.findIdx fun w=>decide (bo b w=p)&&decide (cm b w=o)
def d6(b:Bool)(W:List Wy)(p:Int)(L:List Int):List Nat:=L.map (oY b W p)
theorem cM:i∈own b W p↔i < W.length/\bo b (aS W i)=p:=by simp[own]
theorem map_range(d:α)(f:α->β)(l:List α):(List.range l.length).map (fun i=>f (l.getD i d))=l.map f:=by
 apply jH
 ·simp
 ·intro i h1 h2
  have:i < l.length:=by simpa using h2
  simp[this]
theorem sG(d:α)(q:α->Bool):∀ (l:List α),((List.range l.length).filter fun i=>q (l.getD i d)).map (fun i=>l.getD i d)=l.filter q:=by
 intro l
 have e:l=(List.range l.length).map fun i=>l.getD i d:=by
  have:=map_range d (fun x=>x) l
  simp at this
  simpa using this.symm
 conv=>rhs;rw[e]
 rw[kG]
 rfl
theorem nE(b:Bool)(W:List Wy)(p:Int):(own b W p).map (fun i=>cm b (aS W i))=LD b W p:=by
 unfold own LD aS
 rw[<- sG (0,0,0) (fun w=>decide (bo b w=p)) W,zM]
 rfl
theorem yn(h:B8 W)(hi:i < W.length)(hj:j < W.length)(h1:(aS W i).1=(aS W j).1)(h2:(aS W i).2.1=(aS W j).2.1):i=j:=by
 have e:∀k,k < W.length->W[k]?=some (aS W k):=fun k hk=>by simp[aS,hk]
 rcases Nat.lt_trichotomy i j with z|z|z
 ·have:=List.pairwise_iff_getElem.mp h i j hi hj z
  have a:=e i hi
  have b:=e j hj
  rw[zK hi] at a
  rw[zK hj] at b
  rw[xD a,xD b] at this
  rcases this with z|z<;>omega
 ·exact z
 ·have:=List.pairwise_iff_getElem.mp h j i hj hi z
  have a:=e i hi
  have b:=e j hj
  rw[zK hi] at a
  rw[zK hj] at b
  rw[xD a,xD b] at this
  rcases this with z|z<;>omega
theorem Ez(h:B8 W)(hi:i < W.length)(hj:j < W.length)(h1:bo b (aS W i)=bo b (aS W j))(h2:cm b (aS W i)=cm b (aS W j)):i=j:=by
 cases b
 ·exact yn h hi hj h1 h2
 ·exact yn h hi hj h2 h1
theorem rf(h:B8 W)(hi:i∈own b W p):oY b W p (cm b (aS W i))=i:=by
 obtain⟨hl,he⟩:=cM.mp hi
 have hw:W[i]=aS W i:=by simp[aS,hl]
 unfold oY
 have hlt:W.findIdx (fun w=>decide (bo b w=p)&&decide (cm b w=cm b (aS W i))) < W.length:=by
  apply kK
  exact⟨W[i],qA _,by rw[hw];simp[he]⟩
 have hq:=List.findIdx_getElem (w:=hlt)
 rw[zF,zJ,zJ] at hq
 rw[mC hlt] at hq
 exact Ez h hlt hl (by rw[hq.1,he]) hq.2
theorem dX{G T:List Pl}{W:List Wy}(h:Wd G T W){b:Bool}{i:Nat}(e:(aw b G T)[i]?=some p):(d6 b W i p.2).Perm (own b W i):=by
 have h1:=(h.lik e).map (oY b W i)
 rw[<- nE b W i,zM] at h1
 have e2:(own b W i).map (oY b W i ∘ fun j=>cm b (aS W j))=own b W i:=by
  conv=>rhs;rw[<- List.map_id (own b W i)]
  exact yH fun j hj=>rf h.wp hj
 rw[e2] at h1
 exact h1
theorem rV{G T:List Pl}{W:List Wy}(h:Wd G T W){b:Bool}{i:Nat}{p:Pl}(e:(aw b G T)[i]?=some p){o:Int}(ho:o∈p.2):oY b W i o < W.length/\bo b (aS W (oY b W i o))=i/\cm b (aS W (oY b W i o))=o:=by
 have hm:=(h.lik e).mem_iff.mp ho
 rw[<- nE b W i] at hm
 obtain⟨j,hj,rfl⟩:=List.mem_map.mp hm
 rw[rf h.wp hj]
 obtain⟨h1,h2⟩:=cM.mp hj
 exact⟨h1,h2,rfl⟩
def kD(b:Bool)(W:List Wy)(L:List Int)(d:D):Int:=(L.findIdx fun o=>decide (o=cm b (aS W (iW d).toNat)):Nat)
theorem mU:∀ {L:List Int}{x:Int},x∈L->tT x L=some (L.findIdx fun o=>decide (o=x))
 | [],x,h=>by cases h
 | o::L,x,h=>by
  unfold tT
  by_cases e:o=x
  ·simp[e,vC]
  ·rw[yN e]
   have hx:x∈L:=(List.mem_cons.mp h).resolve_left fun z=>e z.symm
   rw[mU hx]
   simp[vC,e]
theorem ET{G T:List Pl}{W:List Wy}(h:Wd G T W){b:Bool}{i:Nat}{p:Pl}(e:(aw b G T)[i]?=some p)(z:Nat->Int)(hz:∀j,j < (own b W i).length->z j=kD b W p.2 (((own b W i).map fun n=>PyData.int ((n:Nat):Int)).getD j .none)) :
  nS z ((own b W i).map fun n=>PyData.int ((n:Nat):Int)) .none=(d6 b W i p.2).map fun n=>PyData.int ((n:Nat):Int):=by
 refine j4 (kD b W p.2) ((iF _ _ _).trans ((dX h e).symm.map _)) (xl z _ _ _ fun j hj=>hz j (by simpa using hj)) ?_
 have hn:p.2.Nodup:=(h.lik e).nodup_iff.mpr (h.nod b i)
 unfold d6
 rw[zM,jE]
 have key:∀k (hk:k < p.2.length),kD b W p.2 (PyData.int ((oY b W i p.2[k]:Nat):Int))=(k:Nat):=fun k hk=>by
  obtain⟨_,_,e3⟩:=rV h e (qA hk)
  unfold kD
  simp only[iW,yG,e3]
  congr 1
  rw[List.findIdx_eq (by exact hk)]
  refine⟨by simp,fun j hj=>?_⟩
  have:=List.pairwise_iff_getElem.mp hn j k (by omega) hk hj
  simpa using this
 refine List.pairwise_iff_getElem.mpr fun j k hj hk hjk=>?_
 show kD b W p.2 (PyData.int ((oY b W i p.2[j]:Nat):Int)) < kD b W p.2 (PyData.int ((oY b W i p.2[k]:Nat):Int))
 rw[key j hj,key k hk]
 omega
abbrev nD(n:Nat):D:=.int ((n:Nat):Int)
theorem pX:∀ {ds:List D},(∀d∈ds,te (ρ.set 0 (some d))=some (h d))->j8 te ρ ds=some (ds.map h)
 | [],_=>rfl
 | d::ds,hh=>by
  unfold j8
  rw[hh d zE,zA,pX fun x hx=>hh x (zC _ hx)]
  rfl
theorem nF(b:Bool)(W:List Wy)(p:Int):(own b W p).length<=W.length:=by
 unfold own
 refine yD (xP _ _) ?_
 rw[zR]
 exact yM _
theorem xn(b:Bool)(W:List Wy)(p:Int):(((W.map au).zipIdx.filter fun q=>decide (bo b (aS W q.2)=p)).map fun q=>nD q.2)=(own b W p).map nD:=by
 have e:(W.map au).zipIdx=(List.range W.length).map fun i=>(au (aS W i),i):=by
  apply jH
  ·simp
  ·intro i h1 h2
   have:i < W.length:=by simpa using h2
   simp[mC this]
 rw[e,kG,zM]
 rfl
theorem mD(h:Wd G T W)(e:(aw b G T)[i]?=some p):cN [ax G T W,.int (sI b),nD i]=some (.list ((d6 b W i p.2).map nD)):=by
 have hw:=h.wl
 have ep:av (.tuple ((aw b G T).map bB)) (nD i)=some (bB p):=mG e
 have hl:=nF b W i
 have t3:Dl.az 3 [0] (f2 av (ab 0) (fC (.int 2))) [.val (ax G T W),.val (.int (sI b)),.val (nD i),.non,.non,.non]=some (.nx [.val (ax G T W),.val (.int (sI b)),.val (nD i),.val (.tuple (W.map au)),.non,.non]) :=
  bY (d:=.tuple (W.map au)) rfl rfl rfl rfl
 have t4:Dl.az 4 [0,1,2] (f2 av (f2 av (f2 av (ab 0) (ab 1)) (ab 2)) (fC (.int 1))) [.val (ax G T W),.val (.int (sI b)),.val (nD i),.val (.tuple (W.map au)),.non,.non]=some (.nx [.val (ax G T W),.val (.int (sI b)),.val (nD i),.val (.tuple (W.map au)),.val (ae p.2),.non]):=by
  refine bY (d:=ae p.2) ?_ rfl rfl rfl
  rw[iz (a:=bB p) (b:=.int 1) ?_ rfl,F3]
  rw[iz (a:=.tuple ((aw b G T).map bB)) (b:=nD i) ?_ rfl,ep]
  rw[iz (a:=ax G T W) (b:=.int (sI b)) rfl rfl,gT]
 have c5:aj 2 [1,2] (bz (aa (ab 3) af)) (fJ 0 1) (fB (f2 bJ (f2 av (ab 1) (ab 2)) (ab 3))) (ab 0) [some (ax G T W),some (.int (sI b)),some (nD i),some (.tuple (W.map au)),some (ae p.2),none]=some ((own b W i).map nD):=by
  rw[BE (ds:=W.map au) (p:=fun j _=>decide (bo b (aS W j)=i)) (h:=fun j _=>nD j) rfl (by rw[zD];omega) fun j d hd=>?_,xn]
  rw[zO] at hd
  obtain⟨w,hw',rfl⟩:=Dl.ag hd
  have hj:j < W.length:=(List.getElem?_eq_some_iff.mp hw').1
  rw[lS hj] at hw'
  cases hw'
  refine⟨?_,fun _=>rfl⟩
  show fB (f2 bJ (f2 av (ab 1) (ab 2)) (ab 3)) [some (nD j),some (au (aS W j)),some (.int (sI b)),some (nD i)]=_
  simp only[fB]
  rw[iz (a:=.int (bo b (aS W j))) (b:=nD i) (by rw[iz (a:=au (aS W j)) (b:=.int (sI b)) rfl rfl,sf]) rfl,dZ]
  rfl
 have t5:aN 5 [1,2,3] (aj 2 [1,2] (bz (aa (ab 3) af)) (fJ 0 1) (fB (f2 bJ (f2 av (ab 1) (ab 2)) (ab 3))) (ab 0)) [.val (ax G T W),.val (.int (sI b)),.val (nD i),.val (.tuple (W.map au)),.val (ae p.2),.non]=some (.nx [.val (ax G T W),.val (.int (sI b)),.val (nD i),.val (.tuple (W.map au)),.val (ae p.2),.own ((own b W i).map nD)]):=by
  have hh:hand [1,2,3] 0 [Slot.val (ax G T W),.val (.int (sI b)),.val (nD i),.val (.tuple (W.map au)),.val (ae p.2),.non]=[Slot.val (ax G T W),.val (.int (sI b)),.val (nD i),.val (.tuple (W.map au)),.val (ae p.2),.non]:=rfl
  simp only[aN,hh,bM,zI,yU,Slot.frz,c5,zB,yW,yV]
 have hk:j8 (f2 ny (ab 3) (f2 av (f2 av (ab 2) (ab 0)) (f2 Dl.i4 (fC (.int 1)) (ab 1)))) [none,some (.int (sI b)),some (.tuple (W.map au)),some (ae p.2)] ((own b W i).map nD)=some (((own b W i).map nD).map fun d=>.int (kD b W p.2 d)):=by
  refine pX fun d hd=>?_
  obtain⟨j,hj,rfl⟩:=List.mem_map.mp hd
  obtain⟨hjl,hje⟩:=cM.mp hj
  show f2 ny (ab 3) (f2 av (f2 av (ab 2) (ab 0)) (f2 Dl.i4 (fC (.int 1)) (ab 1))) [some (nD j),some (.int (sI b)),some (.tuple (W.map au)),some (ae p.2)]=_
  have ew:av (.tuple (W.map au)) (nD j)=some (au (aS W j)):=mG (lS hjl)
  rw[iz (a:=ae p.2) (b:=.int (cm b (aS W j))) rfl ?_]
  ·have hm:cm b (aS W j)∈p.2:=(h.lik e).mem_iff.mpr (by rw[<- nE];exact List.mem_map.mpr ⟨j,hj,rfl⟩)
   simp only[ny,ae,bT,zA,mU hm,zB,kD,iW,yG]
   all_goals first|rfl|(congr 3;funext o;congr)
  ·rw[iz (a:=au (aS W j)) (b:=.int (1 - sI b)) ?_ ?_,GZ]
   ·rw[iz (a:=.tuple (W.map au)) (b:=nD j) rfl rfl,ew]
   ·rw[iz (a:=.int 1) (b:=.int (sI b)) rfl rfl,nY]
 have hi:intsOf (((own b W i).map nD).map fun d=>PyData.int (kD b W p.2 d))=some (((own b W i).map nD).map (kD b W p.2)):=by
  rw[show (((own b W i).map nD).map fun d=>PyData.int (kD b W p.2 d))=(((own b W i).map nD).map (kD b W p.2)).map PyData.int by simp only[zM];rfl,bT]
 have t6:aG (cf (mM [1,3,4] (ab 5) (f2 ny (ab 3) (f2 av (f2 av (ab 2) (ab 0)) (f2 Dl.i4 (fC (.int 1)) (ab 1)))))) [.val (ax G T W),.val (.int (sI b)),.val (nD i),.val (.tuple (W.map au)),.val (ae p.2),.own ((own b W i).map nD)]=some (.rt (.list ((d6 b W i p.2).map nD))):=by
  have es:mM [1,3,4] (ab 5) (f2 ny (ab 3) (f2 av (f2 av (ab 2) (ab 0)) (f2 Dl.i4 (fC (.int 1)) (ab 1)))) [some (ax G T W),some (.int (sI b)),some (nD i),some (.tuple (W.map au)),some (ae p.2),some (.list ((own b W i).map nD))]=some ((d6 b W i p.2).map nD):=by
   unfold mM
   show (j8 _ [none,some (.int (sI b)),some (.tuple (W.map au)),some (ae p.2)] ((own b W i).map nD)).bind _=_
   rw[hk,zA,hi,zA,yL (by rw[zD];omega),ET h e _ fun j hj=>?_]
   simp[hj]
  simp only[aG,bf,zI,yU,rO,sX,cf,es,zB]
 refine aH ?_
 show me [.val (ax G T W),.val (.int (sI b)),.val (nD i),.non,.non,.non]=_
 unfold me
 rw[ai t3,ai t4,ai t5,t6]
local macro_rules|`(tactic| dsimp! [$ts,*])=>`(tactic| simp only[ab,fC,f1,f2,aa,af,ah,ba,pH,aP,fN,cf,fB,gB,bc,cn,ka,bz,bf,bM,rO,sX,Al,yk,yz,Ap,zI,yU,xQ,yY,zA,zB,qG,zL,xK,Nat.reduceAdd,jD,reduceIte,yW,yV,$ts,*])
theorem e9(R:S->ao->Prop)(f:α->D)(st:S->α->S):∀ {l:List α}{s:S}{ρ:ao},
  (∀s ρ x,x∈l->R s ρ->∃ρ1 ρ2,tgt ρ (f x)=some ρ1/\gb ρ1=some (.nx ρ2)/\R (st s x) ρ2)->R s ρ->∃ρ',cg tgt gb (l.map f) ρ=some (.nx ρ')/\R (l.foldl st s) ρ'
 | [],s,ρ,_,h=>⟨ρ,rfl,h⟩
 | d::ds,s,ρ,hh,h=>by
  obtain⟨ρ1,ρ2,e1,e2,h2⟩:=hh s ρ d zE h
  obtain⟨ρ',e3,h3⟩:=e9 R f st (fun s ρ x hx=>hh s ρ x (zC _ hx)) h2
  refine⟨ρ',?_,h3⟩
  rw[zI,cg,e1,zA,e2]
  exact e3
theorem kf(R:ao->Prop)(f:α->D)(q:α->Bool)(out:α->D):∀ {l:List α}{ρ:ao},
  (∀ρ x,x∈l->R ρ->∃ρ1,tgt ρ (f x)=some ρ1/\(q x=true->gb ρ1=some (.rt (out x)))/\(q x=false->∃ρ2,gb ρ1=some (.nx ρ2)/\R ρ2))->R ρ ->
  (∀x,l.find? q=some x->cg tgt gb (l.map f) ρ=some (.rt (out x)))/\(l.find? q=none->∃ρ',cg tgt gb (l.map f) ρ=some (.nx ρ')/\R ρ')
 | [],ρ,_,h=>⟨fun x hx=>(by cases hx),fun _=>⟨ρ,rfl,h⟩⟩
 | x::l,ρ,hh,h=>by
  obtain⟨ρ1,e1,e2,e3⟩:=hh ρ x zE h
  rw[zI,cg,e1,zA]
  cases hq:q x with
  | true =>
   rw[List.find?_cons_of_pos (by simpa using hq),e2 hq]
   exact⟨fun y hy=>(by cases hy;rfl),fun hn=>(by cases hn)⟩
  | false =>
   obtain⟨ρ2,e4,h2⟩:=e3 hq
   rw[List.find?_cons_of_neg (by simp[hq]),e4]
   exact kf R f q out (fun ρ x hx=>hh ρ x (zC _ hx)) h2
theorem bR(h:cg tgt gb ds ρ1=o)(hi:fi (bM ρ1)=some ds)(hh:hand fz 0 ρ=ρ1):cy fz fi tgt gb ρ=o:=by
 simp only[cy,hh,hi,zA,h]
theorem sj(hh:hand fz 0 ρ=ρ')(hf:f (bM ρ')=some ds):aN i fz f ρ=some (.nx (ρ'.set i (.own ds))):=by
 simp only[aN,hh,hf,zB]
theorem gp(hf:f (bM ρ)=some ds)(hh:hand fz 0 ρ=ρ):aN i fz f ρ=some (.nx (ρ.set i (.own ds))):=sj hh hf
theorem kj(hh:hand fz 0 ρ=ρ')(hA:f (bf ρ)=some d)(hF:f (bM ρ')=some d)(hs:Dl.oT d=false)(hr:gh d=false\/ρ'=ρ:=by first|exact .inr rfl|exact .inl rfl):Dl.az i fz f ρ=some (.nx (ρ'.set i (.val d))):=by
 rcases hr with hr|hr
 ·simp only[Dl.az,hA,zA,hs,yO,qP,hh,hF,zB,hr]
 ·subst hr
  simp only[Dl.az,hA,zA,hs,yO,qP,hh,hF,zB,ite_self]
theorem call_of(h:m ds=some d)(hf:fs ρ=some ds)(hn:ds.length=n):ah n m fs ρ=some d:=by
 unfold ah
 rw[hf,zA,yL hn,h]
theorem cons_of(h:f ρ=some d)(hs:fs ρ=some ds):aa f fs ρ=some (d::ds):=by
 unfold aa
 rw[h,hs]
 rfl
theorem aO(hf:f (bf ρ)=some d):aG f ρ=some (.rt d):=by
 simp only[aG,hf,zB]
theorem ck(hf:f (bf ρ)=some d):fK f ρ=some (.nx ρ):=by
 simp only[fK,hf,zB]
theorem cP(h:t (bf ρ)=some false):fX t g fO ρ=some (.nx ρ):=by
 simp[fX,h,fO]
theorem ib(h:t (bf ρ)=some true):fX t g g2 ρ=g ρ:=by
 simp[fX,h]
theorem ku(h:g1 ρ=some (.rt d)):ar g1 g2 ρ=some (.rt d):=by
 simp only[ar,h,zA]
theorem Bl(hf:f (bf ρ)=some d)(hs:Dl.oT d=true)(hk:fk (bf ρ)=some (nD k))(ho:ρ[i]?=some (.own ds))(hl:k < ds.length):xi i fz fk f ρ=some (.nx (ρ.set i (.own (ds.set k d)))):=by
 have hx:EW ds.length ((k:Nat):Int)=some k:=by
  unfold EW
  rw[yL (Int.natCast_nonneg k),yL (by omega)]
  simp
 simp only[xi,jx,hf,zA,hs,xH,hk,mT,ho,hx,zB]
def lp(cont:S->Bool)(st:S->S):Nat->S->S
 | 0,s=>s
 | n+1,s=>if cont s=true then lp cont st n (st s) else s
theorem tR(R:S->ao->Prop)(cont:S->Bool)(st:S->S)(μ:S->Nat)
  (ht:∀s ρ,R s ρ->t (bf ρ)=some (cont s)) (hb:∀s ρ,R s ρ->cont s=true->∃ρ',gb ρ=some (.nx ρ')/\R (st s) ρ'/\μ (st s) < μ s) :
  ∀ (n:Nat) (s:S) (ρ:ao),μ s < n->R s ρ->∃ρ',F2 t gb n ρ=some (.nx ρ')/\R (lp cont st n s) ρ'/\cont (lp cont st n s)=false
 | 0,s,ρ,h,_=>absurd h (by omega)
 | n+1,s,ρ,h,r=>by
  rw[F2,ht s ρ r,zA,lp]
  cases hc:cont s with
  | false=>exact⟨ρ,by simp,by simpa [hc] using r,by simpa [hc] using hc⟩
  | true =>
   obtain⟨ρ',e,r',hm⟩:=hb s ρ r hc
   obtain⟨ρ2,e2,r2,c2⟩:=tR R cont st μ ht hb n (st s) ρ' (by omega) r'
   refine⟨ρ2,?_,by simpa [hc] using r2,by simpa [hc] using c2⟩
   simp only[xH,e,zA]
   exact e2
theorem mv{off:List Int}(h:i < off.length):av (ae off) (nD i)=some (.int (off.getD i 0)):=mG (f:=PyData.int) (l:=off) (by simp[h])
theorem Ji{off:List Int}(h:i < off.length):av (.list (off.map PyData.int)) (nD i)=some (.int (off.getD i 0)):=yi (f:=PyData.int) (l:=off) (by simp[h])
theorem wc(h:i < W.length):av (.tuple (W.map au)) (nD i)=some (au (aS W i)):=mG (lS h)
theorem L3(a b c:Int):uI [.int a,.int b,.int c]=some (.int (min (min a b) c)):=rfl
theorem F9(l:List Int)(k:Nat)(v:Int):(l.map PyData.int).set k (.int v)=(l.set k v).map PyData.int:=by rw[List.map_set]
theorem GW(l:List Int):bx [.list (l.map PyData.int)]=some (ae l):=rfl
theorem wk(l:List D):bx [.list l]=some (.tuple l):=rfl
theorem Az(l:List D):bw [.tuple l]=some (nD l.length):=rfl
theorem Gv(l:List Int):bw [ae l]=some (nD l.length):=by
 show some (PyData.int ((l.map PyData.int).length:Nat))=_
 rw[zD]
theorem Bi(h:n<=1000):iI [nD n]=some ((List.range n).map nD):=by
 rw[tq (Ah h),yG]
theorem kn(h:fs ρ=some [nD n])(hn:n<=1000):aL fs ρ=some ((List.range n).map nD):=by
 unfold aL
 rw[h,zA,Bi hn]
theorem sub_int(i j:Int):Dl.i4 (.int i) (.int j)=some (.int (i - j)):=nY i j
theorem zeros(hfi:fi ρ=some ds)(hl:ds.length<=1000):aj 1 [] fi (fG 0) (fun _=>some true) (fC (.int 0)) ρ=some ((List.replicate ds.length (0:Int)).map PyData.int):=by
 rw[bL (h:=fun _=>.int 0) hfi (by omega) fun d hd=>rfl]
 simp[List.map_const']
theorem qo:∀ (a b:List Int),cR (fJ 0 1) (fun _=>some true) (f2 aI (ab 0) (ab 1)) (none::none::r) (g9 (a.map PyData.int) (b.map PyData.int))=some ((List.zipWith (·+·) a b).map PyData.int)
 | [],b=>by cases b<;>rfl
 | x::a,[]=>rfl
 | x::a,y::b=>by
  have ih:=qo (r:=r) a b
  have hg:fJ 0 1 (none::none::r) (.tuple [.int x,.int y])=some (some (.int x)::some (.int y)::r):=by
   simp only[fJ,isFree,xQ,yY,qG,wG,jO,xH,yV,yW]
  rw[zI,zI,g9,cR,hg,zA]
  dsimp! [fA,ih,List.zipWith_cons_cons]
theorem Cm(hfi:fi ρ=some (g9 (a.map PyData.int) (b.map PyData.int)))(hl:a.length<=1000) :
  aj 2 [] fi (fJ 0 1) (fun _=>some true) (f2 aI (ab 0) (ab 1)) ρ=some ((List.zipWith (·+·) a b).map PyData.int):=by
 have:=qo (r:=[]) a b
 simp only[aj,hfi,zA,eE,List.replicate,yU,qF,this]
 refine bh ?_
 rw[zD,List.length_zipWith]
 omega
def cV(W:List Wy)(off:List Int)(left:Int)(i:Nat):Int:=min (min (off.getD i 0) (aS W i).2.2) left
def lg(W:List Wy)(off:List Int)(s:Int×List Int)(i:Nat):Int×List Int:=(s.1 - cV W off s.1 i,s.2.set i (cV W off s.1 i))
def l9(W:List Wy)(off:List Int)(amt:Int)(is:List Nat):List Int:=(is.foldl (lg W off) (amt,List.replicate W.length 0)).2
theorem Ab(W:List Wy)(off:List Int):∀ (is:List Nat) (s:Int×List Int),(is.foldl (lg W off) s).2.length=s.2.length
 | [],s=>rfl
 | i::is,s=>by rw[yI,Ab W off is];simp[lg]
theorem nN(W:List Wy)(off:List Int)(amt:Int)(is:List Nat):(l9 W off amt is).length=W.length:=by rw[l9,Ab];simp
theorem Kw{W:List Wy}(e:(aw b G T)[i]?=some p):av (.tuple ((aw b G T).map bB)) (nD i)=some (bB p):=mG e
theorem JL{off:List Int}(hi:i < W.length)(ho:off.length=W.length)(hs:s.2.length=W.length) :
  (ar (xi 4 [0,3,5,6] (ab 6) (ba uI (aa (f2 av (ab 3) (ab 6)) (aa (f2 av (f2 av (f2 av (ab 0) (fC (.int 2))) (ab 6)) (fC (.int 2))) (aa (ab 5) af))))) (Dl.az 5 [4,5,6] (f2 Dl.i4 (ab 5) (f2 av (ab 4) (ab 6))))) [.val (ax G T W),.val d1,.val d2,.val (ae off),.own (s.2.map PyData.int),.val (.int s.1),.val (nD i)]=some (.nx [.val (ax G T W),.val d1,.val d2,.val (ae off),.own ((lg W off s i).2.map PyData.int),.val (.int (lg W off s i).1),.val (nD i)]):=by
 have hv:(ba uI (aa (f2 av (ab 3) (ab 6)) (aa (f2 av (f2 av (f2 av (ab 0) (fC (.int 2))) (ab 6)) (fC (.int 2))) (aa (ab 5) af)))) (bf [.val (ax G T W),.val d1,.val d2,.val (ae off),.own (s.2.map PyData.int),.val (.int s.1),.val (nD i)])=some (.int (cV W off s.1 i)):=by
  dsimp! [mv (show i < off.length by omega),rh,wc hi,sT,L3,cV]
 have t1:=Bl (i:=4) (fz:=[0,3,5,6]) (fk:=ab 6) (k:=i) (ds:=s.2.map PyData.int) hv rfl rfl rfl (by rw[zD];omega)
 rw[F9] at t1
 rw[ai t1]
 have hl:i < (s.2.set i (cV W off s.1 i)).length:=by rw[yC];omega
 have hg:(s.2.set i (cV W off s.1 i)).getD i 0=cV W off s.1 i:=by
  have:i < s.2.length:=by omega
  simp[this]
 have hv2:(f2 Dl.i4 (ab 5) (f2 av (ab 4) (ab 6))) (bf ([.val (ax G T W),.val d1,.val d2,.val (ae off),.own (s.2.map PyData.int),.val (.int s.1),.val (nD i)].set 4 (.own ((s.2.set i (cV W off s.1 i)).map PyData.int))))=some (.int (lg W off s i).1):=by
  dsimp! [Ji hl,sub_int,hg,lg]
 rw[cL hv2 rfl]
 rfl
theorem iG{off:List Int}(h:Wd G T W)(ho:off.length=W.length)(e:(aw b G T)[i]?=some p) :
  bO [ax G T W,.int (sI b),nD i,ae off]=some (ae (l9 W off p.1 (d6 b W i p.2))):=by
 have hw:W.length<=16:=h.wl
 have t4:aN 4 [0] (aj 1 [] (aP (f2 av (ab 0) (fC (.int 2)))) (fG 0) (fun _=>some true) (fC (.int 0))) [.val (ax G T W),.val (.int (sI b)),.val (nD i),.val (ae off),.non,.non,.non]=some (.nx [.val (ax G T W),.val (.int (sI b)),.val (nD i),.val (ae off),.own ((List.replicate W.length (0:Int)).map PyData.int),.non,.non]):=by
  have z:=zeros (fi:=aP (f2 av (ab 0) (fC (.int 2)))) (ρ:=bM [.val (ax G T W),.val (.int (sI b)),.val (nD i),.val (ae off),.non,.non,.non]) (ds:=W.map au) rfl (by rw[zD];omega)
  rw[zD] at z
  exact sj rfl z
 have t5:Dl.az 5 [0,1,2] (f2 av (f2 av (f2 av (ab 0) (ab 1)) (ab 2)) (fC (.int 0))) [.val (ax G T W),.val (.int (sI b)),.val (nD i),.val (ae off),.own ((List.replicate W.length (0:Int)).map PyData.int),.non,.non]=some (.nx [.val (ax G T W),.val (.int (sI b)),.val (nD i),.val (ae off),.own ((List.replicate W.length (0:Int)).map PyData.int),.val (.int p.1),.non]) :=
  cL (d:=.int p.1) (by dsimp! [gT,Kw (W:=W) e,Fd]) rfl
 obtain⟨ρ',e3,hs',x,rfl⟩:=e9 (tgt:=ig 6) (gb:=(ar (xi 4 [0,3,5,6] (ab 6) (ba uI (aa (f2 av (ab 3) (ab 6)) (aa (f2 av (f2 av (f2 av (ab 0) (fC (.int 2))) (ab 6)) (fC (.int 2))) (aa (ab 5) af))))) (Dl.az 5 [4,5,6] (f2 Dl.i4 (ab 5) (f2 av (ab 4) (ab 6)))))) (R:=fun s ρ=>s.2.length=W.length/\∃x,ρ=[.val (ax G T W),.val (.int (sI b)),.val (nD i),.val (ae off),.own (s.2.map PyData.int),.val (.int s.1),x]) nD (lg W off)
  (l:=d6 b W i p.2) (s:=(p.1,List.replicate W.length (0:Int))) (ρ:=[.val (ax G T W),.val (.int (sI b)),.val (nD i),.val (ae off),.own ((List.replicate W.length (0:Int)).map PyData.int),.val (.int p.1),.non])
  (fun s ρ j hj ⟨hs,x,hρ⟩=>by
   subst hρ
   obtain⟨hjl,_⟩:=cM.mp ((dX h e).mem_iff.mp hj)
   refine⟨_,_,rfl,JL hjl ho hs,?_,.val (nD j),rfl⟩
   simp[lg,hs]) ⟨by simp,_,rfl⟩
 refine aH ?_
 show jf [.val (ax G T W),.val (.int (sI b)),.val (nD i),.val (ae off),.non,.non,.non]=_
 unfold jf
 rw[ai t4,ai t5,ai (bR e3 (by dsimp! [mD h e]) rfl)]
 exact aO rfl
def bZ(b:Bool)(G T:List Pl)(i:Nat):Pl:=(aw b G T).getD i (0,[])
def ui(b:Bool)(G T:List Pl)(W:List Wy)(off s:List Int)(i:Nat):List Int:=List.zipWith (·+·) s (l9 W off (bZ b G T i).1 (d6 b W i (bZ b G T i).2))
def aW(b:Bool)(G T:List Pl)(W:List Wy)(off:List Int):List Int:=(List.range (aw b G T).length).foldl (ui b G T W off) (List.replicate W.length 0)
theorem iH(h:i < (aw b G T).length):(aw b G T)[i]?=some (bZ b G T i):=by simp[bZ,h]
theorem nA{off:List Int}(h:s.length=W.length):(ui b G T W off s i).length=W.length:=by
 unfold ui
 rw[List.length_zipWith,nN,h,Nat.min_self]
theorem jt(R:S->Prop):∀ {l:List α}{s:S},(∀s x,x∈l->R s->R (f s x))->R s->R (l.foldl f s)
 | [],s,_,h=>h
 | x::l,s,hh,h=>by
  rw[yI]
  exact jt (l:=l) R (fun s y hy=>hh s y (zC _ hy)) (hh s x zE h)
theorem eR(b:Bool)(G T:List Pl)(W:List Wy)(off:List Int):(aW b G T W off).length=W.length :=
 jt (fun s:List Int=>s.length=W.length) (fun s i _ h=>nA h) (by simp)
theorem Wd.pl(h:Wd G T W)(b:Bool):(aw b G T).length<=4:=by
 cases b
 ·exact h.g4
 ·exact h.t4
def Nm:ao->Option Out:=(ar (Dl.az 5 [0,1,2,4] (ah 4 bO (aa (ab 0) (aa (ab 1) (aa (ab 4) (aa (ab 2) af)))))) (aN 3 [3,5] (aj 2 [] (fx (aa (ab 3) (aa (ab 5) af))) (fJ 0 1) (fun _=>some true) (f2 aI (ab 0) (ab 1)))))
theorem d7{off:List Int}(h:Wd G T W)(ho:off.length=W.length)(b:Bool) :
  bq [ax G T W,.int (sI b),ae off]=some (ae (aW b G T W off)):=by
 have hw:W.length<=16:=h.wl
 have hp:=h.pl b
 have t3:aN 3 [0] (aj 1 [] (aP (f2 av (ab 0) (fC (.int 2)))) (fG 0) (fun _=>some true) (fC (.int 0))) [.val (ax G T W),.val (.int (sI b)),.val (ae off),.non,.non,.non]=some (.nx [.val (ax G T W),.val (.int (sI b)),.val (ae off),.own ((List.replicate W.length (0:Int)).map PyData.int),.non,.non]):=by
  have z:=zeros (fi:=aP (f2 av (ab 0) (fC (.int 2)))) (ρ:=bM [.val (ax G T W),.val (.int (sI b)),.val (ae off),.non,.non,.non]) (ds:=W.map au) rfl (by rw[zD];omega)
  rw[zD] at z
  exact gp z rfl
 obtain⟨ρ',e3,hs',x,y,rfl⟩:=e9 (tgt:=ig 4) (gb:=Nm) (R:=fun s ρ=>s.length=W.length/\∃x y,ρ=[.val (ax G T W),.val (.int (sI b)),.val (ae off),.own (s.map PyData.int),x,y]) nD (ui b G T W off)
  (l:=List.range (aw b G T).length) (s:=List.replicate W.length (0:Int)) (ρ:=[.val (ax G T W),.val (.int (sI b)),.val (ae off),.own ((List.replicate W.length (0:Int)).map PyData.int),.non,.non])
  (fun s ρ i hi ⟨hs,x,y,hρ⟩=>by
   subst hρ
   have ei:=iH (List.mem_range.mp hi)
   have t1:Dl.az 5 [0,1,2,4] (ah 4 bO (aa (ab 0) (aa (ab 1) (aa (ab 4) (aa (ab 2) af))))) [.val (ax G T W),.val (.int (sI b)),.val (ae off),.own (s.map PyData.int),.val (nD i),y]=some (.nx [.val (ax G T W),.val (.int (sI b)),.val (ae off),.own (s.map PyData.int),.val (nD i),.val (ae (l9 W off (bZ b G T i).1 (d6 b W i (bZ b G T i).2)))]):=by
    refine kj (ρ':=[.val (ax G T W),.val (.int (sI b)),.val (ae off),.own (s.map PyData.int),.val (nD i),y]) rfl (d:=ae (l9 W off (bZ b G T i).1 (d6 b W i (bZ b G T i).2))) ?_ ?_ rfl
    ·dsimp! [iG h ho ei]
    ·dsimp! [iG h ho ei]
   have t2:aN 3 [3,5] (aj 2 [] (fx (aa (ab 3) (aa (ab 5) af))) (fJ 0 1) (fun _=>some true) (f2 aI (ab 0) (ab 1))) [.val (ax G T W),.val (.int (sI b)),.val (ae off),.own (s.map PyData.int),.val (nD i),.val (ae (l9 W off (bZ b G T i).1 (d6 b W i (bZ b G T i).2)))]=some (.nx [.val (ax G T W),.val (.int (sI b)),.val (ae off),.own ((ui b G T W off s i).map PyData.int),.val (nD i),.val (ae (l9 W off (bZ b G T i).1 (d6 b W i (bZ b G T i).2)))]):=by
    refine sj (ρ':=[.val (ax G T W),.val (.int (sI b)),.val (ae off),.val (.list (s.map PyData.int)),.val (nD i),.val (ae (l9 W off (bZ b G T i).1 (d6 b W i (bZ b G T i).2)))]) rfl (ds:=(ui b G T W off s i).map PyData.int) ?_
    exact Cm (a:=s) (b:=l9 W off (bZ b G T i).1 (d6 b W i (bZ b G T i).2)) rfl (by omega)
   exact⟨_,_,rfl,(ai t1).trans t2,nA hs,_,_,rfl⟩) ⟨by simp,_,_,rfl⟩
 refine aH ?_
 show eh [.val (ax G T W),.val (.int (sI b)),.val (ae off),.non,.non,.non]=_
 unfold eh
 rw[ai t3]
 refine (ai (bR e3 (kn (by dsimp! [gT,Az,zD]) (by omega)) rfl)).trans ?_
 exact aO rfl
theorem rL(h:(xs++ys).length<=4000):Dl.aI (.tuple xs) (.tuple ys)=some (.tuple (xs++ys)):=by
 simp only[Dl.aI,sZ,GK,bh h,zB,Option.none_or,Option.some_or]
theorem Lq(h:f ρ=some d):aV (aa f af) ρ=some (.tuple [d]):=by
 simp only[aV,aa,af,h,zA,zB]
 rw[bh (by simp),zB]
theorem Mm(h:f ρ=some d)(h2:g ρ=some e):aV (aa f (aa g af)) ρ=some (.tuple [d,e]):=by
 simp only[aV,aa,af,h,h2,zA,zB]
 rw[bh (by simp),zB]
theorem aE(h:g a b=some c)(ha:fa ρ=some a)(hb:fb ρ=some b):f2 g fa fb ρ=some c:=by rw[iz ha hb,h]
theorem IQ(h:f ρ=some (.tuple ds))(h2:g ρ=some (nD k)):mH gu f mz (A7 g) ρ=some (.tuple (ds.take k)):=by
 simp only[mH,h,mz,A7,h2,zA,gI,zB,gu,BS]
theorem JG(h:f ρ=some (.tuple ds))(h2:g ρ=some (nD k)):mH gu f (A7 g) mz ρ=some (.tuple (ds.drop k)):=by
 simp only[mH,h,mz,A7,h2,zA,gI,zB,gu,uP]
theorem MR(d:D)(ds:List D):av (.tuple (d::ds)) (.int 0)=some d:=oS (i:=0) rfl
theorem LV(c d:D)(ds:List D):av (.tuple (c::d::ds)) (.int 1)=some d:=oS (i:=1) rfl
theorem yh(c:List Int)(i:Nat)(v:Int)(h:i < c.length):((c.map PyData.int).take i++[PyData.int v])++(c.map PyData.int).drop (i+1)=(c.set i v).map PyData.int:=by
 rw[List.set_eq_take_append_cons_drop,yL h]
 simp
theorem Nb(i:Nat):Dl.aI (nD i) (.int 1)=some (nD (i+1)):=by
 rw[fA]
 rfl
theorem vm(h:i < c.length)(hl:c.length<=1000):lb [ae c,nD i,.int v]=some (ae (c.set i v)):=by
 refine aH ?_
 show oM [.val (ae c),.val (nD i),.val (.int v)]=_
 refine aO ?_
 refine aE (a:=.tuple ((c.map PyData.int).take i++[PyData.int v])) (b:=.tuple ((c.map PyData.int).drop (i+1))) ?_ (aE (a:=.tuple ((c.map PyData.int).take i)) (b:=.tuple [.int v]) (rL ?_) (IQ rfl rfl) (Lq rfl)) (JG rfl (aE (Nb i) rfl rfl))
 ·rw[rL,yh c i v h]
  ·rfl
  ·rw[yh c i v h];simp;omega
 ·simp;omega
theorem pQ(h:i < c.length)(hl:c.length<=1000):cO [ae c,nD i,.int v]=some (ae (c.set i v)):=by
 refine aH ?_
 show p9 [.val (ae c),.val (nD i),.val (.int v)]=_
 exact aO (call_of (vm h hl) rfl rfl)
def c4(W:List Wy):List Int:=W.map fun w=>w.2.2
theorem Ey(h:Wd G T W)(hf:f ρ=some (ax G T W)):(ba bx (aa (cf (aj 1 [] (aP (f2 av f (fC (.int 2)))) (fG 0) (fun _=>some true) (f2 av (ab 0) (fC (.int 2))))) af)) ρ=some (ae (c4 W)):=by
 have hw:=h.wl
 have hs:(aP (f2 av f (fC (.int 2)))) ρ=some (W.map au):=by
  unfold aP
  rw[aE (rh G T W) hf rfl]
  rfl
 have e:aj 1 [] (aP (f2 av f (fC (.int 2)))) (fG 0) (fun _=>some true) (f2 av (ab 0) (fC (.int 2))) ρ=some ((c4 W).map PyData.int):=by
  rw[bL (h:=fun d=>.int (iW ((cq d).getD 2 .none))) hs (by rw[zD];omega) fun d hd=>?_]
  ·rw[c4,zM,zM]
   rfl
  ·obtain⟨w,hw',rfl⟩:=List.mem_map.mp hd
   rfl
 simp only[ba,aa,af,cf,e,zB,zA,GW]
theorem lD(h:Wd G T W):gq [ax G T W]=some (ae (c4 W)):=by
 refine aH ?_
 show uk [.val (ax G T W)]=_
 exact aO (Ey h rfl)
theorem l4(W:List Wy):(c4 W).length=W.length:=by simp[c4]
def ix(G T:List Pl)(W:List Wy)(c:List Int):List Int:=aW true G T W (aW false G T W c)
def qR(G T:List Pl)(W:List Wy)(c:List Int)(k:Nat):Bool:=decide ((ix G T W c).getD k 0 < (aW false G T W c).getD k 0)
def pq(G T:List Pl)(W:List Wy)(c:List Int):Option (Nat×Int):=((List.range W.length).find? (qR G T W c)).map fun k=>(k,(ix G T W c).getD k 0)
def xx:Option (Nat×Int)->D
 | none=>.none
 | some p=>.tuple [nD p.1,.int p.2]
theorem enum_zip:∀ (ds:List D) (k:Nat),bu k ds=(ds.zipIdx k).map fun q=>.tuple [nD q.2,q.1]
 | [],k=>rfl
 | d::ds,k=>by rw[bu,enum_zip ds (k+1),List.zipIdx_cons];rfl
theorem A9(l:List Int):bu 0 (l.map PyData.int)=(List.range l.length).map fun k=>.tuple [nD k,.int (l.getD k 0)]:=by
 rw[enum_zip]
 apply jH
 ·simp
 ·intro i h1 h2
  have:i < l.length:=by simpa using h2
  simp[this]
theorem Ib(G T:List Pl)(W:List Wy)(c:List Int):(ix G T W c).length=W.length:=eR _ _ _ _ _
def LW:ao->Option Out:=(fX (fB (f2 tN (ab 5) (f2 av (ab 2) (ab 4)))) (aG (aV (aa (ab 4) (aa (ab 5) af)))) fO)
theorem jg(h:Wd G T W)(ho:c.length=W.length):dz [ax G T W,ae c]=some (xx (pq G T W c)):=by
 have hw:W.length<=16:=h.wl
 have t2:Dl.az 2 [0,1] (ah 3 bq (aa (ab 0) (aa (fC (.int 0)) (aa (ab 1) af)))) [.val (ax G T W),.val (ae c),.non,.non,.non,.non]=some (.nx [.val (ax G T W),.val (ae c),.val (ae (aW false G T W c)),.non,.non,.non]) :=
  bY (call_of (d7 h ho false) rfl rfl) rfl rfl rfl
 have t3:Dl.az 3 [0,2] (ah 3 bq (aa (ab 0) (aa (fC (.int 1)) (aa (ab 2) af)))) [.val (ax G T W),.val (ae c),.val (ae (aW false G T W c)),.non,.non,.non]=some (.nx [.val (ax G T W),.val (ae c),.val (ae (aW false G T W c)),.val (ae (ix G T W c)),.non,.non]) :=
  bY (call_of (d7 h (eR _ _ _ _ _) true) rfl rfl) rfl rfl rfl
 have hl:=kf (tgt:=g8 4 5) (gb:=LW) (R:=fun ρ=>∃x y,ρ=[.val (ax G T W),.val (ae c),.val (ae (aW false G T W c)),.val (ae (ix G T W c)),x,y]) (fun k=>.tuple [nD k,.int ((ix G T W c).getD k 0)]) (qR G T W c) (fun k=>.tuple [nD k,.int ((ix G T W c).getD k 0)])
  (l:=List.range W.length) (ρ:=[.val (ax G T W),.val (ae c),.val (ae (aW false G T W c)),.val (ae (ix G T W c)),.non,.non])
  (fun ρ k hk ⟨x,y,hρ⟩=>by
   subst hρ
   have hk':k < (aW false G T W c).length:=by rw[eR];exact List.mem_range.mp hk
   have hc:(fB (f2 tN (ab 5) (f2 av (ab 2) (ab 4)))) (bf [.val (ax G T W),.val (ae c),.val (ae (aW false G T W c)),.val (ae (ix G T W c)),.val (nD k),.val (.int ((ix G T W c).getD k 0))])=some (qR G T W c k):=by
    dsimp! [mv hk',jq,qR]
   refine⟨[.val (ax G T W),.val (ae c),.val (ae (aW false G T W c)),.val (ae (ix G T W c)),.val (nD k),.val (.int ((ix G T W c).getD k 0))],rfl,fun hq=>?_,fun hq=>?_⟩
   ·rw[hq] at hc
    unfold LW
    rw[ib hc]
    exact aO (Mm rfl rfl)
   ·rw[hq] at hc
    unfold LW
    rw[cP hc]
    exact⟨_,rfl,_,_,rfl⟩) ⟨_,_,rfl⟩
 have hi:(bz (aa (ab 3) af)) (bM [.val (ax G T W),.val (ae c),.val (ae (aW false G T W c)),.val (ae (ix G T W c)),.non,.non])=some ((List.range W.length).map fun k=>.tuple [nD k,.int ((ix G T W c).getD k 0)]):=by
  have:=A9 (ix G T W c)
  rw[Ib] at this
  rw[<- this]
  rfl
 refine aH ?_
 show mr [.val (ax G T W),.val (ae c),.non,.non,.non,.non]=_
 unfold mr
 rw[ai t2,ai t3]
 unfold pq
 cases hq:(List.range W.length).find? (qR G T W c) with
 | some k =>
  exact ku (bR (hl.1 k hq) hi rfl)
 | none =>
  obtain⟨ρ',e,x,y,rfl⟩:=hl.2 hq
  exact (ai (bR e hi rfl)).trans (aO rfl)
theorem bX(l:List Int)(k:Nat)(v:Int)(i:Nat):(l.set k v).getD i 0=if k=i/\i < l.length then v else l.getD i 0:=by
 simp only[zG,xI]
 by_cases h:k=i
 ·subst h
  by_cases h2:k < l.length
  ·simp[h2]
  ·simp[h2]
 ·simp[h]
theorem ue{a b:List Int}{i:Nat}(ha:i < a.length)(hb:i < b.length):(List.zipWith (·+·) a b).getD i 0=a.getD i 0+b.getD i 0:=by
 rw[zG,zG,zG,List.getElem?_zipWith,zK ha,zK hb]
 rfl
def Off(off:List Int):Prop:=∀i,0<=off.getD i 0
def Mb(W:List Wy):Prop:=∀i,0<=(aS W i).2.2
theorem Wd.lim{G T:List Pl}{W:List Wy}(h:Wd G T W):Mb W:=fun i=>by
 by_cases hi:i < W.length
 ·have:=h.wr (aS W i) (by rw[<- mC hi];exact qA hi)
  omega
 ·simp only[aS,zG]
  rw[jL (by omega)]
  simp
theorem Wd.amt{G T:List Pl}{W:List Wy}(h:Wd G T W)(b:Bool)(i:Nat):0<=(bZ b G T i).1:=by
 unfold bZ
 rw[zG]
 cases e:(aw b G T)[i]? with
 | none=>simp
 | some p =>
  have hm:=qB e
  cases b
  ·exact (h.ga p hm).1
  ·exact (h.ta p hm).1
theorem JS{W:List Wy}{off:List Int}(ho:Off off)(hl:Mb W){amt:Int}(ha:0<=amt)(is:List Nat)(i:Nat):0<=(l9 W off amt is).getD i 0/\(l9 W off amt is).getD i 0<=off.getD i 0:=by
 have:=jt (l:=is) (f:=lg W off) (s:=(amt,List.replicate W.length 0)) (fun s=>0<=s.1/\∀i,0<=s.2.getD i 0/\s.2.getD i 0<=off.getD i 0) (fun s k _ ⟨h1,h2⟩=>by
  have ok:=ho k
  have lk:=hl k
  have v0:0<=cV W off s.1 k:=by unfold cV;omega
  have v1:cV W off s.1 k<=off.getD k 0:=by unfold cV;omega
  have v2:cV W off s.1 k<=s.1:=by unfold cV;omega
  refine⟨by simp only[lg];omega,fun i=>?_⟩
  simp only[lg,bX]
  split
  ·rename_i z
   rw[<- z.1]
   exact⟨v0,v1⟩
  ·exact h2 i) ⟨ha,fun i=>by
   have:=ho i
   have z:(List.replicate W.length (0:Int)).getD i 0=0:=by
    simp only[zG,yX]
    split<;>rfl
   simp only[z]
   omega⟩
 exact this.2 i
theorem Ad{W:List Wy}{off:List Int}{amt:Int}{is:List Nat}{i:Nat}(hi:i∉is):(l9 W off amt is).getD i 0=0:=by
 refine jt (l:=is) (f:=lg W off) (s:=(amt,List.replicate W.length 0)) (fun s=>s.2.getD i 0=0) (fun s k hk h=>?_) ?_
 ·simp only[lg,bX]
  have hki:¬ (k=i/\i < s.2.length):=fun z=>hi (z.1 ▸ hk)
  rw[yN hki,h]
 ·simp only[zG,yX]
  split<;>rfl
theorem rF{G T:List Pl}{W:List Wy}(h:Wd G T W){off:List Int}(ho:Off off)(b:Bool):∀ (n:Nat),n<=(aw b G T).length ->
  ((List.range n).foldl (ui b G T W off) (List.replicate W.length 0)).length=W.length/\∀i,i < W.length->(0<=((List.range n).foldl (ui b G T W off) (List.replicate W.length 0)).getD i 0/\((List.range n).foldl (ui b G T W off) (List.replicate W.length 0)).getD i 0<=off.getD i 0)/\((n:Nat)<=bo b (aS W i)->((List.range n).foldl (ui b G T W off) (List.replicate W.length 0)).getD i 0=0)
 | 0,_=>by
  refine⟨by simp,fun i hi=>?_⟩
  have:=ho i
  have z:((List.range 0).foldl (ui b G T W off) (List.replicate W.length 0)).getD i 0=0:=by simp[zG,hi]
  rw[z]
  exact⟨by omega,fun _=>rfl⟩
 | n+1,hn=>by
  obtain⟨h1,h2⟩:=rF h ho b n (by omega)
  rw[vR,vB,yI,List.foldl_nil]
  generalize (List.range n).foldl (ui b G T W off) (List.replicate W.length 0)=s at h1 h2
  refine⟨nA h1,fun i hi=>?_⟩
  obtain⟨h3,h4⟩:=h2 i hi
  have e:=iH (b:=b) (G:=G) (T:=T) (i:=n) (by omega)
  have hc:=JS ho h.lim (h.amt b n) (d6 b W n (bZ b G T n).2) i
  have hz:(ui b G T W off s n).getD i 0=s.getD i 0+(l9 W off (bZ b G T n).1 (d6 b W n (bZ b G T n).2)).getD i 0:=ue (by omega) (by rw[nN];exact hi)
  rw[hz]
  by_cases he:bo b (aS W i)=n
  ·rw[h4 (by omega)]
   exact⟨by omega,fun z=>by omega⟩
  ·have hni:i∉d6 b W n (bZ b G T n).2:=fun z=>he (cM.mp ((dX h e).mem_iff.mp z)).2
   rw[Ad hni]
   exact⟨by omega,fun z=>by rw[h4 (by omega)];rfl⟩
theorem fy{l:List Int}{i:Nat}(h:l.length<=i):l.getD i 0=0:=by simp[zG,h]
theorem gO{G T:List Pl}{W:List Wy}(h:Wd G T W){off:List Int}(ho:Off off)(b:Bool):Off (aW b G T W off):=fun i=>by
 by_cases hi:i < W.length
 ·exact ((rF h ho b _ (yM _)).2 i hi).1.1
 ·rw[fy (by rw[eR];omega)]
  exact xZ 0
theorem vd{G T:List Pl}{W:List Wy}(h:Wd G T W){off:List Int}(ho:Off off)(b:Bool){i:Nat}(hi:i < W.length):(aW b G T W off).getD i 0<=off.getD i 0 :=
 ((rF h ho b _ (yM _)).2 i hi).1.2
theorem yg{G T:List Pl}{W:List Wy}(h:Wd G T W){c:List Int}(ho:Off c){p:Nat×Int}(e:pq G T W c=some p):p.1 < W.length/\0<=p.2/\p.2 < c.getD p.1 0:=by
 unfold pq at e
 obtain⟨k,hk,rfl⟩:=Dl.ag e
 have hm:=jX hk
 have hq:=vT hk
 have hi:=List.mem_range.mp hm
 rw[qR,zJ] at hq
 have a:=vd h ho false hi
 have b:=gO h (gO h ho false) true k
 exact⟨hi,b,by simp only;omega⟩
def mea(c:List Int):Nat:=(c.map Int.toNat).sum
theorem zj:∀ {c:List Int}{k:Nat}{v:Int},0<=v->v < c.getD k 0->mea (c.set k v) < mea c
 | [],k,v,h0,h1=>by simp at h1;omega
 | x::c,0,v,h0,h1=>by
  simp at h1
  simp only[mea,yV,zI,kC]
  omega
 | x::c,k+1,v,h0,h1=>by
  have:=zj (c:=c) (k:=k) h0 (by simpa using h1)
  simp only[mea,yW,zI,kC] at this ⊢
  omega
theorem yf:∀ {W:List Wy},(∀w∈W,w.2.2<=9)->mea (c4 W)<=9 * W.length
 | [],_=>by simp[mea,c4]
 | w::W,h=>by
  have:=yf (W:=W) fun x hx=>h x (zC _ hx)
  have:=h w zE
  simp only[mea,c4,zI,kC,zL] at *
  omega
theorem GL{G T:List Pl}{W:List Wy}(h:Wd G T W):Off (c4 W):=fun i=>by
 have:=h.lim i
 by_cases hi:i < W.length
 ·simpa [c4,aS,zG,hi] using this
 ·rw[fy (by rw[l4];omega)]
  exact xZ 0
theorem yw{c:List Int}(h:Off c){k:Nat}{v:Int}(hv:0<=v):Off (c.set k v):=fun i=>by
 rw[bX]
 split
 ·exact hv
 ·exact h i
theorem oI(a:List Int):SeqAt.shaped (ae a)=true :=
 (gJ.tup (b:=a.length) (k:=0) (by simp) fun x hx=>by obtain⟨i,_,rfl⟩:=List.mem_map.mp hx;exact gZ _).shaped (by decide)
theorem oU(a b:List Int):PyData.eqv (ae a) (ae b)=decide (a=b):=by
 rw[ae,ae,PyData.eqv,pe]
theorem bb(h:f ρ=some (.bool b)):fB f ρ=some b:=by
 simp only[fB,h,zA,gB]
theorem cG(h:t ρ=some b):bc t ρ=some (!b):=by
 simp only[bc,h,zB]
theorem xo(h:t ρ=some false)(h2:u ρ=some false):ka t u ρ=some false:=by
 simp only[ka,h,zA,h2]
theorem CG(a b:List Int):mw (ae a) (ae b)=some (.bool (!decide (a=b))):=by
 simp only[mw,Kv,oI,jO,xH,oU,zB]
theorem lV(a b:List Int):bJ (ae a) (ae b)=some (.bool (decide (a=b))):=by
 simp only[bJ,Jm,oI,jO,xH,oU,zB]
theorem GI(x:Option (Nat×Int)):mZ (xx x) .none=some (.bool x.isSome):=by cases x<;>rfl
theorem bg(hA:f (bf ρ)=some d)(hF:f (bM ρ)=some d)(hh:hand fz 0 ρ=ρ):Dl.az i fz f ρ=some (.nx (ρ.set i (.val d))):=by
 cases hs:Dl.oT d with
 | true=>exact cL hA hs
 | false=>exact kj hh hA hF hs (.inr rfl)
theorem IV(hA:f (bf ρ)=some d)(hF:f (bM ρ)=some d)(hh:hand fz 0 ρ=ρ)(ho:ρ[i]?=some (.own ds))(hl:ds.length < 4000):kb i fz f ρ=some (.nx (ρ.set i (.own (ds++[d])))):=by
 have hz:ds.length < sizeLine:=zP hl (by decide)
 have hi:jx fz f ρ=some (d,ρ):=by
  unfold jx
  rw[hA,zA,hh,hF]
  cases Dl.oT d<;>rfl
 simp only[kb,hi,zA,mT,ho,hz,xH,zB]
theorem dO(h:Wd G T W):b8 [ax G T W]=some .none:=by
 have hw:cB [ax G T W]=some (.bool true):=by rw[we h.fit (by decide),h.wok]
 have hc:(bc (fB (ah 1 cB (aa (ab 0) af)))) (bf [.val (ax G T W)])=some false:=cG (bb (call_of hw rfl rfl))
 have:dN [.val (ax G T W)]=some (.nx [.val (ax G T W)]):=by
  unfold dN
  rw[cP hc]
 show (dN [.val (ax G T W)]).map _=_
 rw[this]
 rfl
theorem pC(h1:a<=i)(h2:i<=b):f7 [.int i,.int a,.int b]=some .none:=by
 have hw:br [.int i,.int a,.int b]=some (.bool true):=by rw[fF rfl];simp[whole,h1,h2]
 have hc:(bc (fB (ah 3 br (aa (ab 0) (aa (ab 1) (aa (ab 2) af)))))) (bf [.val (.int i),.val (.int a),.val (.int b)])=some false:=cG (bb (call_of hw rfl rfl))
 have:dI [.val (.int i),.val (.int a),.val (.int b)]=some (.nx [.val (.int i),.val (.int a),.val (.int b)]):=by
  unfold dI
  rw[cP hc]
 show (dI [.val (.int i),.val (.int a),.val (.int b)]).map _=_
 rw[this]
 rfl
theorem iL(h1:0<=i)(h2:i<=n - 1):c7 [.int i,.int n]=some .none:=by
 have:dk [.val (.int i),.val (.int n)]=some (.nx [.val (.int i),.val (.int n)]):=by
  unfold dk
  exact ck (call_of (pC h1 h2) (cons_of rfl (cons_of rfl (cons_of (aE (sub_int n 1) rfl rfl) rfl))) rfl)
 show (dk [.val (.int i),.val (.int n)]).map _=_
 rw[this]
 rfl
theorem hC(b:Bool):c9 [.int (sI b)]=some .none:=by
 have:eH [.val (.int (sI b))]=some (.nx [.val (.int (sI b))]):=by
  unfold eH
  exact ck (call_of (iL (n:=2) (i:=sI b) (by cases b<;>decide) (by cases b<;>decide)) rfl rfl)
 show (eH [.val (.int (sI b))]).map _=_
 rw[this]
 rfl
abbrev Sp:=List (Nat×Int)×List Int
def HD(G T:List Pl)(W:List Wy)(s:Sp):Bool:=(pq G T W s.2).isSome
def spS(G T:List Pl)(W:List Wy)(s:Sp):Sp:=match pq G T W s.2 with|some p=>(s.1++[p],s.2.set p.1 p.2)|none=>s
def low(c:List Int)(p:Nat×Int):List Int:=c.set p.1 p.2
structure u6(W:List Wy)(s:Sp):Prop where
 len:s.2.length=W.length
 off:Off s.2
 eq:s.2=s.1.foldl low (c4 W)
 bd:s.1.length+mea s.2<=mea (c4 W)
 mem:∀p∈s.1,p.1 < W.length
theorem u6.start(h:Wd G T W):u6 W ([],c4 W):=⟨l4 W,GL h,rfl,by simp,fun p hp=>by cases hp⟩
theorem pb(e:pq G T W s.2=some p):spS G T W s=(s.1++[p],s.2.set p.1 p.2):=by
 unfold spS
 rw[e]
theorem u6.step(h:Wd G T W)(i:u6 W s)(e:pq G T W s.2=some p):u6 W (spS G T W s)/\mea (spS G T W s).2 < mea s.2:=by
 obtain⟨h1,h2,h3⟩:=yg h i.off e
 have hm:=zj h2 h3
 rw[pb e]
 refine⟨⟨by simp[i.len],yw i.off h2,?_,?_,fun q hq=>?_⟩,hm⟩
 ·rw[vB,<- i.eq]
  rfl
 ·have:=i.bd
  simp only[zN,xC]
  omega
 ·rcases List.mem_append.mp hq with z|z
  ·exact i.mem q z
  ·rw[yJ] at z
   rw[z]
   exact h1
theorem Wd.mea(h:Wd G T W):mea (c4 W)<=144:=by
 have:=yf (W:=W) fun w hw=>(h.wr w hw).2.2.2
 have:=h.wl
 omega
def pk(r:List (Nat×Int)):List D:=(r.map fun p=>[((p.1:Nat):Int),p.2]).map ae
theorem Gr(r:List (Nat×Int))(p:Nat×Int):pk (r++[p])=pk r++[xx (some p)]:=by simp[pk];rfl
theorem Ge(r:List (Nat×Int)):(pk r).length=r.length:=by simp[pk]
def fin(G T:List Pl)(W:List Wy):Sp:=lp (HD G T W) (spS G T W) Rf.turns ([],c4 W)
def LX:ao->Option Out:=(ar (kb 1 [3] (ab 3)) (ar (Dl.az 2 [2,3] (ah 3 cO (aa (ab 2) (aa (f2 av (ab 3) (fC (.int 0))) (aa (f2 av (ab 3) (fC (.int 1))) af))))) (Dl.az 3 [0,2] (ah 2 dz (aa (ab 0) (aa (ab 2) af))))))
def Hy(G T:List Pl)(W:List Wy)(s:Sp):ao:=[.val (ax G T W),.own (pk s.1),.val (ae s.2),.val (xx (pq G T W s.2))]
theorem FN(h:Wd G T W)(i:u6 W s)(e:pq G T W s.2=some p):LX (Hy G T W s)=some (.nx (Hy G T W (spS G T W s))):=by
 obtain⟨h1,h2,h3⟩:=yg h i.off e
 obtain⟨i2,hm⟩:=i.step h e
 have hb:=h.mea
 have hbd:=i.bd
 have hw:=h.wl
 have t1:kb 1 [3] (ab 3) (Hy G T W s)=some (.nx [.val (ax G T W),.own (pk s.1++[xx (some p)]),.val (ae s.2),.val (xx (some p))]):=by
  unfold Hy
  rw[e]
  exact IV rfl rfl rfl rfl (by rw[Ge];omega)
 have hlow:∀ρ:Dl.Env,ab 2 ρ=some (ae s.2)->ab 3 ρ=some (xx (some p))->(ah 3 cO (aa (ab 2) (aa (f2 av (ab 3) (fC (.int 0))) (aa (f2 av (ab 3) (fC (.int 1))) af)))) ρ=some (ae (s.2.set p.1 p.2)):=fun ρ a b =>
  call_of (pQ (c:=s.2) (i:=p.1) (v:=p.2) (by rw[i.len];exact h1) (by rw[i.len];omega)) (cons_of a (cons_of (aE (MR _ _) b rfl) (cons_of (aE (LV _ _ _) b rfl) rfl))) rfl
 have t2:Dl.az 2 [2,3] (ah 3 cO (aa (ab 2) (aa (f2 av (ab 3) (fC (.int 0))) (aa (f2 av (ab 3) (fC (.int 1))) af)))) [.val (ax G T W),.own (pk s.1++[xx (some p)]),.val (ae s.2),.val (xx (some p))]=some (.nx [.val (ax G T W),.own (pk s.1++[xx (some p)]),.val (ae (s.2.set p.1 p.2)),.val (xx (some p))]) :=
  bg (hlow _ rfl rfl) (hlow _ rfl rfl) rfl
 have hl2:(s.2.set p.1 p.2).length=W.length:=by rw[yC,i.len]
 have t3:Dl.az 3 [0,2] (ah 2 dz (aa (ab 0) (aa (ab 2) af))) [.val (ax G T W),.own (pk s.1++[xx (some p)]),.val (ae (s.2.set p.1 p.2)),.val (xx (some p))]=some (.nx [.val (ax G T W),.own (pk s.1++[xx (some p)]),.val (ae (s.2.set p.1 p.2)),.val (xx (pq G T W (s.2.set p.1 p.2)))]) :=
  bg (call_of (jg h hl2) rfl rfl) (call_of (jg h hl2) rfl rfl) rfl
 unfold LX
 rw[ai t1,ai t2,t3,pb e]
 unfold Hy
 rw[Gr]
theorem lX(h:HD G T W s=true):∃p,pq G T W s.2=some p:=Option.isSome_iff_exists.mp h
theorem Fn(h:Wd G T W):rD [ax G T W]=some (.list (pk (fin G T W).1))/\u6 W (fin G T W):=by
 have hb:=h.mea
 have t1:aN 1 [] (eA af) [.val (ax G T W),.non,.non,.non]=some (.nx [.val (ax G T W),.own [],.non,.non]):=gp (f:=eA af) (ds:=[]) (show small []=some [] from bh (by simp)) rfl
 have t2:Dl.az 2 [0] (ah 1 gq (aa (ab 0) af)) [.val (ax G T W),.own [],.non,.non]=some (.nx [.val (ax G T W),.own [],.val (ae (c4 W)),.non]) :=
  bg (call_of (lD h) rfl rfl) (call_of (lD h) rfl rfl) rfl
 have t3:Dl.az 3 [0,2] (ah 2 dz (aa (ab 0) (aa (ab 2) af))) [.val (ax G T W),.own [],.val (ae (c4 W)),.non]=some (.nx (Hy G T W ([],c4 W))) :=
  bg (call_of (jg h (l4 W)) rfl rfl) (call_of (jg h (l4 W)) rfl rfl) rfl
 obtain⟨ρ',ew,⟨rfl,iv⟩,_⟩:=tR (t:=(fB (f2 mZ (ab 3) (fC .none)))) (gb:=LX) (R:=fun s ρ=>ρ=Hy G T W s/\u6 W s) (HD G T W) (spS G T W) (fun s=>mea s.2)
  (fun s ρ ⟨hρ,i⟩=>by
   subst hρ
   exact bb (aE (GI _) rfl rfl))
  (fun s ρ ⟨hρ,i⟩ hc=>by
   subst hρ
   obtain⟨p,e⟩:=lX hc
   exact⟨_,FN h i e,⟨rfl,(i.step h e).1⟩,(i.step h e).2⟩)
  Rf.turns ([],c4 W) (Hy G T W ([],c4 W)) (qZ hb (by decide)) ⟨rfl,u6.start h⟩
 refine⟨?_,iv⟩
 refine aH ?_
 show si [.val (ax G T W),.non,.non,.non]=_
 unfold si
 rw[ai t1,ai t2,ai t3]
 refine (ai ew).trans ?_
 exact aO rfl
theorem Gf(c:List Int)(p:Nat×Int):(low c p).length=c.length:=by simp[low]
theorem Cw(h:Wd G T W)(hr:∀p∈r,p.1 < W.length):nZ [ax G T W,.list (pk r)]=some (ae (r.foldl low (c4 W))):=by
 have hw:=h.wl
 have t2:Dl.az 2 [0] (ah 1 gq (aa (ab 0) af)) [.val (ax G T W),.val (.list (pk r)),.non,.non,.non]=some (.nx [.val (ax G T W),.val (.list (pk r)),.val (ae (c4 W)),.non,.non]) :=
  bg (call_of (lD h) rfl rfl) (call_of (lD h) rfl rfl) rfl
 obtain⟨ρ',e3,hs',x,y,rfl⟩:=e9 (tgt:=g8 3 4) (gb:=Dl.az 2 [2,3,4] (ah 3 cO (aa (ab 2) (aa (ab 3) (aa (ab 4) af))))) (R:=fun (c:List Int) ρ=>c.length=W.length/\∃x y,ρ=[.val (ax G T W),.val (.list (pk r)),.val (ae c),x,y]) (fun p:Nat×Int=>ae [((p.1:Nat):Int),p.2]) low
  (l:=r) (s:=c4 W) (ρ:=[.val (ax G T W),.val (.list (pk r)),.val (ae (c4 W)),.non,.non])
  (fun c ρ p hp ⟨hc,x,y,hρ⟩=>by
   subst hρ
   have el:=pQ (c:=c) (i:=p.1) (v:=p.2) (by rw[hc];exact hr p hp) (by omega)
   have t:Dl.az 2 [2,3,4] (ah 3 cO (aa (ab 2) (aa (ab 3) (aa (ab 4) af)))) [.val (ax G T W),.val (.list (pk r)),.val (ae c),.val (nD p.1),.val (.int p.2)]=some (.nx [.val (ax G T W),.val (.list (pk r)),.val (ae (low c p)),.val (nD p.1),.val (.int p.2)]) :=
    bg (call_of el rfl rfl) (call_of el rfl rfl) rfl
   exact⟨_,_,rfl,t,by rw[Gf,hc],_,_,rfl⟩) ⟨l4 W,_,_,rfl⟩
 refine aH ?_
 show oX [.val (ax G T W),.val (.list (pk r)),.non,.non,.non]=_
 unfold oX
 rw[ai t2]
 refine (ai (bR e3 ?_ rfl)).trans (aO rfl)
 show some (pk r)=_
 rw[pk,zM]
 rfl
theorem pA(h:Wd G T W):dM [ax G T W]=some (ae (aW false G T W (fin G T W).2)):=by
 obtain⟨e1,i⟩:=Fn h
 have e2:=Cw h i.mem
 rw[<- i.eq] at e2
 refine aH ?_
 show fU [.val (ax G T W)]=_
 unfold fU
 refine (ai (ck (call_of (dO h) rfl rfl))).trans ?_
 exact aO (call_of (d7 h i.len false) (cons_of rfl (cons_of rfl (cons_of (call_of e2 (cons_of rfl (cons_of (call_of e1 rfl rfl) rfl)) rfl) rfl))) rfl)
structure Ord(W:List Wy)(π:List Nat):Prop where
 perm:π.Perm (List.range W.length)
 up:π.Pairwise fun i j=>(aS W i).2.1 < (aS W j).2.1\/((aS W i).2.1=(aS W j).2.1/\(aS W i).1 < (aS W j).1)
section
def l8(b:Bool)(W:List Wy)(P:List Int)(p:Int):Int:=((own b W p).map fun i=>P.getD i 0).sum
theorem Ee{l m:List Int}(p:l.Perm m):l.sum=m.sum:=by
 induction p with
 | nil=>rfl
 | cons x _ ih=>simp[ih]
 | swap x y l=>simp only[kC];omega
 | trans _ _ h1 h2=>exact h1.trans h2
end
def pL(L:List Int)(x:Int):Nat:=L.findIdx fun o=>decide (o=x)
def Ag(b:Bool)(G T:List Pl)(W:List Wy)(P:List Int)(k:Nat):Bool :=
 decide (l8 b W P (bo b (aS W k)) < (bZ b G T (bo b (aS W k)).toNat).1) ||
 ((bZ b G T (bo b (aS W k)).toNat).2.drop (pL (bZ b G T (bo b (aS W k)).toNat).2 (cm b (aS W k))+1)).any fun o=>decide (0 < P.getD (oY b W (bo b (aS W k)) o) 0)
def nv(G T:List Pl)(W:List Wy)(P:List Int)(k:Nat):Nat :=
 if P.getD k 0=(aS W k).2.2 then 0 else if Ag false G T W P k=false then 1 else if Ag true G T W P k=false then 2 else 3
def He(G T:List Pl)(W:List Wy)(P:List Int):List Nat:=(List.range W.length).filter fun k=>decide (nv G T W P k=3)
section
theorem Wd.end_pl(h:Wd G T W)(b:Bool)(hk:k < W.length):0<=bo b (aS W k)/\(bo b (aS W k)).toNat < (aw b G T).length/\((bo b (aS W k)).toNat:Int)=bo b (aS W k):=by
 have:=h.wr (aS W k) (by rw[<- mC hk];exact qA _)
 cases b
 ·simp only[bo,aw,yO,qP];omega
 ·simp only[bo,aw,xH];omega
structure Pn(G T:List Pl)(W:List Wy)(P:List Int):Prop where
 len:P.length=W.length
 bd:∀k,k < W.length->0<=P.getD k 0/\P.getD k 0<=(aS W k).2.2
 am:∀ (b:Bool) (i:Nat),i < (aw b G T).length->l8 b W P i<=(bZ b G T i).1
end
section
variable {off:List Int}
theorem zf(h:Wd G T W)(b:Bool):∀ (n:Nat),n<=(aw b G T).length ->
  ((List.range n).foldl (ui b G T W off) (List.replicate W.length 0)).length=W.length/\∀k,k < W.length ->
   ((List.range n).foldl (ui b G T W off) (List.replicate W.length 0)).getD k 0=if bo b (aS W k) < n then (l9 W off (bZ b G T (bo b (aS W k)).toNat).1 (d6 b W (bo b (aS W k)).toNat (bZ b G T (bo b (aS W k)).toNat).2)).getD k 0 else 0
 | 0,_=>by
  refine⟨by simp,fun k hk=>?_⟩
  obtain⟨h1,_,_⟩:=h.end_pl b hk
  rw[yN (by omega)]
  simp[zG,hk]
 | n+1,hn=>by
  obtain⟨h1,h2⟩:=zf h b n (by omega)
  rw[vR,vB,yI,List.foldl_nil]
  generalize (List.range n).foldl (ui b G T W off) (List.replicate W.length 0)=s at h1 h2
  refine⟨nA h1,fun k hk=>?_⟩
  have hz:(ui b G T W off s n).getD k 0=s.getD k 0+(l9 W off (bZ b G T n).1 (d6 b W n (bZ b G T n).2)).getD k 0:=ue (by omega) (by rw[nN];exact hk)
  rw[hz,h2 k hk]
  obtain⟨g1,_,_⟩:=h.end_pl b hk
  have e:=iH (b:=b) (G:=G) (T:=T) (i:=n) (by omega)
  by_cases he:bo b (aS W k)=n
  ·have hn':(bo b (aS W k)).toNat=n:=by omega
   rw[yN (by omega),yL (by omega),hn']
   omega
  ·have hni:k∉d6 b W n (bZ b G T n).2:=fun z=>he (cM.mp ((dX h e).mem_iff.mp z)).2
   rw[Ad hni]
   by_cases hlt:bo b (aS W k) < n
   ·rw[yL hlt,yL (by omega)];omega
   ·rw[yN hlt,yN (by omega)];rfl
theorem Cg(h:Wd G T W)(b:Bool)(hk:k < W.length):(aW b G T W off).getD k 0=(l9 W off (bZ b G T (bo b (aS W k)).toNat).1 (d6 b W (bo b (aS W k)).toNat (bZ b G T (bo b (aS W k)).toNat).2)).getD k 0:=by
 have:=(zf (off:=off) h b _ (yM _)).2 k hk
 obtain⟨_,h2,h3⟩:=h.end_pl b hk
 rw[yL (by omega)] at this
 exact this
theorem yy{amt:Int}:∀ (is:List Nat) (s:Int×List Int),is.Nodup->(∀i∈is,i < s.2.length/\s.2.getD i 0=0) ->
  ((is.foldl (lg W off) s).2.length=s.2.length)/\(is.map fun i=>(is.foldl (lg W off) s).2.getD i 0).sum=s.1 - (is.foldl (lg W off) s).1/\∀j,j∉is->(is.foldl (lg W off) s).2.getD j 0=s.2.getD j 0
 | [],s,_,_=>⟨rfl,by simp,fun _ _=>rfl⟩
 | i::is,s,hn,hz=>by
  rw[kR] at hn
  obtain⟨hi,h0⟩:=hz i zE
  have hs:∀j∈is,j < (lg W off s i).2.length/\(lg W off s i).2.getD j 0=0:=fun j hj=>by
   obtain⟨a,b⟩:=hz j (zC _ hj)
   refine⟨by simpa [lg] using a,?_⟩
   simp only[lg,bX]
   have hne:¬ (i=j/\j < s.2.length):=fun z=>hn.1 (z.1 ▸ hj)
   rw[yN hne,b]
  obtain⟨r1,r2,r3⟩:=yy (amt:=amt) is (lg W off s i) hn.2 hs
  rw[yI]
  refine⟨by rw[r1];simp[lg],?_,fun j hj=>?_⟩
  ·rw[zI,kC,r2,r3 i hn.1]
   simp only[lg,bX]
   rw[yL ⟨trivial,hi⟩]
   omega
  ·rw[r3 j fun z=>hj (zC _ z)]
   simp only[lg,bX]
   have hne:¬ (i=j/\j < s.2.length):=fun z=>hj (z.1 ▸ zE)
   rw[yN hne]
theorem uG(ho:Off off)(hl:Mb W):∀ (is:List Nat) (s:Int×List Int),0<=s.1->0<=(is.foldl (lg W off) s).1
 | [],s,h=>h
 | i::is,s,h=>by
  rw[yI]
  refine uG ho hl is _ ?_
  simp only[lg,cV]
  have:=ho i;have:=hl i
  omega
theorem GT(h:Wd G T W)(ho:Off off)(hi:i < (aw b G T).length) :
  ((own b W i).map fun k=>(l9 W off (bZ b G T i).1 (d6 b W i (bZ b G T i).2)).getD k 0).sum<=(bZ b G T i).1:=by
 have e:=iH hi
 have pm:=dX h e
 rw[<- Ee (pm.map fun k=>(l9 W off (bZ b G T i).1 (d6 b W i (bZ b G T i).2)).getD k 0)]
 have hn:(d6 b W i (bZ b G T i).2).Nodup:=pm.nodup_iff.mpr (List.nodup_range.filter _)
 obtain⟨_,r2,_⟩:=yy (W:=W) (off:=off) (amt:=0) (d6 b W i (bZ b G T i).2) ((bZ b G T i).1,List.replicate W.length 0) hn fun k hk=>by
  have hk':=(cM.mp (pm.mem_iff.mp hk)).1
  refine⟨by simpa using hk',by simp[zG,hk']⟩
 have:=uG ho h.lim (d6 b W i (bZ b G T i).2) ((bZ b G T i).1,List.replicate W.length 0) (h.amt b i)
 unfold l9
 rw[r2]
 show (bZ b G T i).1 - _<=(bZ b G T i).1
 omega
theorem Am(h:Wd G T W)(ho:Off off)(hi:i < (aw b G T).length):l8 b W (aW b G T W off) i<=(bZ b G T i).1:=by
 refine jT (Int.le_of_eq ?_) (GT h ho hi)
 unfold l8
 congr 1
 refine yH fun k hk=>?_
 obtain⟨hk',he⟩:=cM.mp hk
 have:=Cg (off:=off) h b hk'
 rw[he,yG] at this
 exact this
theorem AR(h:∀k,k < W.length->P.getD k 0=Q.getD k 0):l8 b W P p=l8 b W Q p:=by
 unfold l8
 congr 1
 exact yH fun k hk=>h k (cM.mp hk).1
theorem F1(h:Wd G T W)(ho:Off c)(hc:∀k,k < W.length->c.getD k 0<=(aS W k).2.2)(e:pq G T W c=none):Pn G T W (aW false G T W c) where
 len:=eR _ _ _ _ _
 bd:=fun k hk=>⟨gO h ho false k,jT (vd h ho false hk) (hc k hk)⟩
 am:=fun b i hi=>by
  cases b
  ·exact Am h ho hi
  ·have hke:∀k,k < W.length->(ix G T W c).getD k 0=(aW false G T W c).getD k 0:=fun k hk=>by
    have h1:=vd h (gO h ho false) true hk
    have h2:qR G T W c k=false:=by
     unfold pq at e
     rw[Option.map_eq_none_iff] at e
     have:=List.find?_eq_none.mp e k (by simpa using hk)
     simpa using this
    unfold qR at h2
    have h3:=wF h2
    unfold ix at h3 ⊢
    omega
   rw[<- AR hke]
   exact Am h (gO h ho false) hi
end
def zs(n:Nat):List Int:=List.replicate n 0
section
variable {W:List Wy}{G T:List Pl}{d:Nat->Int}
end
section
variable {P off:List Int}
theorem ED:∀ (xs:List Nat),(∀i∈xs,0<=off.getD i 0)->0<=(xs.map fun i=>off.getD i 0).sum
 | [],_=>by simp
 | i::xs,h=>by
  have:=ED xs fun j hj=>h j (zC _ hj)
  have:=h i zE
  rw[zI,kC];omega
theorem ze:∀ (xs:List Nat),(∀i∈xs,0<=P.getD i 0)->(0 < (xs.map fun i=>P.getD i 0).sum↔(xs.any fun i=>decide (0 < P.getD i 0))=true)
 | [],_=>by simp
 | i::xs,h=>by
  have ih:=ze xs fun j hj=>h j (zC _ hj)
  have h0:=ED (off:=P) xs fun j hj=>h j (zC _ hj)
  have hi:=h i zE
  rw[zI,kC,vE,jB,zJ,<- ih]
  omega
theorem FQ(h:Wd G T W){b:Bool}(hk:k < W.length) :
  let i:=(bo b (aS W k)).toNat
  let L:=(bZ b G T i).2
  d6 b W i L=(L.take (pL L (cm b (aS W k)))).map (oY b W i)++k::(L.drop (pL L (cm b (aS W k))+1)).map (oY b W i):=by
 intro i L
 obtain⟨h1,h2,h3⟩:=h.end_pl b hk
 have e:=iH h2
 have hm:cm b (aS W k)∈L:=by
  rw[(h.lik e).mem_iff,<- nE]
  exact List.mem_map.mpr ⟨k,cM.mpr ⟨hk,h3.symm⟩,rfl⟩
 have hlt:pL L (cm b (aS W k)) < L.length:=by
  unfold pL
  exact kK ⟨_,hm,by simp⟩
 have hg:L[pL L (cm b (aS W k))]=cm b (aS W k):=by
  have:=List.findIdx_getElem (w:=hlt)
  exact yQ this
 have hx:oY b W i (cm b (aS W k))=k:=rf h.wp (cM.mpr ⟨hk,h3.symm⟩)
 unfold d6
 conv=>lhs;rw[<- List.take_append_drop (pL L (cm b (aS W k))) L,vA hlt,hg,jA,zI,hx]
end
theorem pV{tt:Dl.Env->Option Bool}{te:Dl.Env->Option D}{r:List (Option D)}{x y h:Nat->D}{p:Nat->Bool}:∀ (is:List Nat),
  (∀i∈is,tt (some (x i)::some (y i)::r)=some (p i)/\(p i=true->te (some (x i)::some (y i)::r)=some (h i))) ->
  cR (fJ 0 1) tt te (none::none::r) (is.map fun i=>.tuple [x i,y i])=some ((is.filter p).map h)
 | [],_=>rfl
 | i::is,hh=>by
  obtain⟨h1,h2⟩:=hh i zE
  have ih:=pV is fun j hj=>hh j (zC _ hj)
  have hg:fJ 0 1 (none::none::r) (.tuple [x i,y i])=some (some (x i)::some (y i)::r):=by
   simp only[fJ,isFree,xQ,yY,qG,wG,jO,xH,yV,yW]
  rw[zI,cR,hg]
  simp only[zA,h1]
  cases hp:p i with
  | true=>simp[h2 hp,ih,hp]
  | false=>simp[ih,hp]
theorem iS{cs:List Nat}{fi:Dl.Env->Option (List D)}{tt:Dl.Env->Option Bool}{te:Dl.Env->Option D}{ρ:Dl.Env}{n:Nat}{x y h:Nat->D}{p:Nat->Bool}(hfi:fi ρ=some ((List.range n).map fun i=>.tuple [x i,y i]))(hl:n<=1000)
  (hh:∀i,i < n->tt (some (x i)::some (y i)::cs.map fun j=>(ρ[j]?).getD none)=some (p i)/\(p i=true->te (some (x i)::some (y i)::cs.map fun j=>(ρ[j]?).getD none)=some (h i))) :
  aj 2 cs fi (fJ 0 1) tt te ρ=some (((List.range n).filter p).map h):=by
 have:=pV (tt:=tt) (te:=te) (r:=cs.map fun j=>(ρ[j]?).getD none) (p:=p) (h:=h) (List.range n) fun i hi=>hh i (by simpa using hi)
 simp only[aj,hfi,zA,eE,List.replicate,xF,xO,this]
 refine bh ?_
 rw[zD]
 refine yD (xP _ _) ?_
 rw[zR]
 omega
theorem qf{W:List Wy}{P:List Int}(h:P.length=W.length):g9 (W.map au) (P.map PyData.int)=(List.range W.length).map fun i=>.tuple [au (aS W i),.int (P.getD i 0)]:=by
 apply List.ext_getElem?
 intro i
 by_cases hi:i < W.length
 ·have hz:i < (g9 (W.map au) (P.map PyData.int)).length:=by rw[lY];simp[h];exact hi
  rw[zK hz]
  obtain⟨x,y,e1,e2,e3⟩:=ow (zK hz)
  rw[zO,lS hi] at e1
  rw[zO,zK (by omega)] at e2
  cases e1
  have e2:PyData.int P[i]=y:=by simpa using e2
  rw[e3,<- e2]
  have:i < P.length:=by omega
  simp[hi,this,zG]
 ·rw[jL (by rw[lY];simp;omega),jL (by simp;omega)]
def Sm(P:List Int):Prop:=∀k,-1000000<=P.getD k 0/\P.getD k 0<=1000000
theorem FX(hs:Sm P)(hw:W.length<=16)(b:Bool)(p:Int):Jj ((own b W p).map fun i=>P.getD i 0)=true:=by
 unfold Jj
 rw[zF,zJ,xG]
 refine⟨?_,fun x hx=>?_⟩
 ·have:=nF b W p
  rw[zD]
  omega
 ·obtain⟨i,_,rfl⟩:=List.mem_map.mp hx
  rw[zF,zJ,zJ]
  exact hs i
theorem mQ(h:Wd G T W)(hp:P.length=W.length)(hs:Sm P)(b:Bool)(p:Int):b9 [ax G T W,ae P,.int (sI b),.int p]=some (.int (l8 b W P p)):=by
 have hw:=h.wl
 refine aH ?_
 show qm [.val (ax G T W),.val (ae P),.val (.int (sI b)),.val (.int p)]=_
 have hz:fx (aa (f2 av (ab 0) (fC (.int 2))) (aa (ab 1) af)) [some (ax G T W),some (ae P),some (.int (sI b)),some (.int p)]=some ((List.range W.length).map fun i=>.tuple [au (aS W i),.int (P.getD i 0)]):=by
  rw[<- qf hp]
  rfl
 have c:aj 2 [2,3] (fx (aa (f2 av (ab 0) (fC (.int 2))) (aa (ab 1) af))) (fJ 0 1) (fB (f2 bJ (f2 av (ab 0) (ab 2)) (ab 3))) (ab 1) [some (ax G T W),some (ae P),some (.int (sI b)),some (.int p)]=some ((own b W p).map fun i=>.int (P.getD i 0)):=by
  rw[iS (p:=fun i=>decide (bo b (aS W i)=p)) (h:=fun i=>.int (P.getD i 0)) hz (by omega) fun i hi=>⟨?_,fun _=>rfl⟩]
  ·rfl
  ·show fB (f2 bJ (f2 av (ab 0) (ab 2)) (ab 3)) [some (au (aS W i)),some (.int (P.getD i 0)),some (.int (sI b)),some (.int p)]=_
   exact bb (by rw[iz (a:=.int (bo b (aS W i))) (b:=.int p) (aE (sf b _) rfl rfl) rfl,dZ])
 refine aO ?_
 have e:((own b W p).map fun i=>PyData.int (P.getD i 0))=((own b W p).map fun i=>P.getD i 0).map PyData.int:=by rw[zM];rfl
 show ba AV (aa (cf (aj 2 [2,3] (fx (aa (f2 av (ab 0) (fC (.int 2))) (aa (ab 1) af))) (fJ 0 1) (fB (f2 bJ (f2 av (ab 0) (ab 2)) (ab 3))) (ab 1))) af) [some (ax G T W),some (ae P),some (.int (sI b)),some (.int p)]=_
 rw[e] at c
 simp only[ba,aa,af,cf,c,zB,zA]
 show AV [.list (((own b W p).map fun i=>P.getD i 0).map PyData.int)]=_
 simp only[AV,d9,oneOf,fN,zA,bT,FX hs hw b p,xH]
 rfl
theorem oR(L:List Pl):bu 0 (L.map bB)=(List.range L.length).map fun i=>.tuple [nD i,bB (L.getD i (0,[]))]:=by
 rw[enum_zip]
 apply jH
 ·simp
 ·intro i h1 h2
  have:i < L.length:=by simpa using h2
  simp[this,zG]
theorem mF(is:List Nat):ju [.list (is.map fun i=>.bool (p i))]=some (.bool (is.all p)):=by
 have:∀is:List Nat,boolsOf (is.map fun i=>PyData.bool (p i))=some (is.map p):=fun is=>by
  induction is with
  | nil=>rfl
  | cons i is ih=>simp[boolsOf,ih]
 simp only[ju,oneOf,zA,this,zB,List.all_map]
 rfl
theorem zz(h:Wd G T W)(hp:P.length=W.length)(hs:Sm P)(b:Bool):cT [ax G T W,ae P,.int (sI b)]=some (.bool ((List.range (aw b G T).length).all fun i=>decide (l8 b W P i<=(bZ b G T i).1))):=by
 have hl:=h.pl b
 refine aH ?_
 show iB [.val (ax G T W),.val (ae P),.val (.int (sI b))]=_
 have he:bz (aa (f2 av (ab 0) (ab 2)) af) [some (ax G T W),some (ae P),some (.int (sI b))]=some ((List.range (aw b G T).length).map fun i=>.tuple [nD i,bB (bZ b G T i)]):=by
  have:=oR (aw b G T)
  unfold bZ
  rw[<- this]
  cases b<;>rfl
 have c:=iS (cs:=[0,1,2]) (tt:=fun _=>some true) (te:=f2 AA (ah 4 b9 (aa (ab 2) (aa (ab 3) (aa (ab 4) (aa (ab 0) af))))) (f2 av (ab 1) (fC (.int 0)))) (p:=fun _=>true) (h:=fun i=>.bool (decide (l8 b W P i<=(bZ b G T i).1))) he (by omega) fun i hi=>⟨rfl,fun _=>aE (a:=.int (l8 b W P i)) (b:=.int (bZ b G T i).1) rfl (call_of (mQ h hp hs b i) rfl rfl) rfl⟩
 refine aO ?_
 show ba ju (aa (cf (aj 2 [0,1,2] (bz (aa (f2 av (ab 0) (ab 2)) af)) (fJ 0 1) (fun _=>some true) (f2 AA (ah 4 b9 (aa (ab 2) (aa (ab 3) (aa (ab 4) (aa (ab 0) af))))) (f2 av (ab 1) (fC (.int 0)))))) af) [some (ax G T W),some (ae P),some (.int (sI b))]=_
 simp only[ba,aa,af,cf,c,zB,zA]
 rw[show (List.range (aw b G T).length).filter (fun _=>true)=List.range (aw b G T).length by simp,mF]
theorem EC(ha:fa ρ=some (.bool true))(hb:fb ρ=some d):iC fa fb ρ=some d:=by
 simp only[iC,ha,zA,hb]
theorem Gh(ha:fa ρ=some (.bool false)):iC fa fb ρ=some (.bool false):=by
 simp only[iC,ha,zA]
theorem y0(ha:fa ρ=some (.bool a))(hb:fb ρ=some (.bool b)):iC fa fb ρ=some (.bool (a&&b)):=by
 cases a
 ·exact Gh ha
 ·exact EC ha hb
theorem mP(h:f ρ=some d):ba g (aa f af) ρ=g [d]:=by
 simp only[ba,aa,af,h,zB,zA]
theorem rH{l:List α}(h:f ρ=some (.tuple (l.map k))):ba bw (aa f af) ρ=some (nD l.length):=by
 rw[mP h,Az,zD]
def LH(W:List Wy)(P:List Int):Bool:=(List.range W.length).all fun k=>decide (0<=P.getD k 0)&&decide (P.getD k 0<=(aS W k).2.2)
def L4(b:Bool)(G T:List Pl)(W:List Wy)(P:List Int):Bool:=(List.range (aw b G T).length).all fun i=>decide (l8 b W P i<=(bZ b G T i).1)
def Ju(G T:List Pl)(W:List Wy)(P:List Int):Bool:=LH W P&&(L4 false G T W P&&L4 true G T W P)
theorem rK(hp:P.length=W.length):Ju G T W P=true↔Pn G T W P:=by
 simp only[Ju,LH,L4,zF,xG,zS,zJ]
 constructor
 ·rintro⟨h1,h2,h3⟩
  exact⟨hp,h1,fun b=>by cases b<;>assumption⟩
 ·intro p
  exact⟨p.bd,p.am false,p.am true⟩
theorem Jk(P:List Int):nh (ae P)=true:=rfl
theorem qx(h:Wd G T W)(hp:P.length=W.length)(hs:Sm P):gg [ax G T W,ae P]=some (.bool (Ju G T W P)):=by
 have hw:=h.wl
 have hlen:(P.map PyData.int).length=W.length:=by rw[zD,hp]
 refine aH ?_
 show mX [.val (ax G T W),.val (ae P),.non]=_
 unfold mX
 have t1:Dl.az 2 [0] (f2 av (ab 0) (fC (.int 2))) [.val (ax G T W),.val (ae P),.non]=some (.nx [.val (ax G T W),.val (ae P),.val (.tuple (W.map au))]):=bY (d:=.tuple (W.map au)) rfl rfl rfl rfl
 rw[ai t1]
 have el:bD [ae P,nD W.length,nD W.length]=some (.bool true):=by
  rw[show nD W.length=.int ((W.length:Nat):Int) from rfl,dy (Jk P)]
  simp[long,ae,hp]
 have hl:∀ρ:Dl.Env,ab 2 ρ=some (.tuple (W.map au))->ba bw (aa (ab 2) af) ρ=some (nD W.length):=fun ρ hr=>rH hr
 have c1:(bc (fB (ah 3 bD (aa (ab 1) (aa (ba bw (aa (ab 2) af)) (aa (ba bw (aa (ab 2) af)) af)))))) (bf [.val (ax G T W),.val (ae P),.val (.tuple (W.map au))])=some false :=
  cG (bb (call_of el (cons_of rfl (cons_of (hl _ rfl) (cons_of (hl _ rfl) rfl))) rfl))
 rw[ai (cP c1)]
 have hz:fx (aa (ab 2) (aa (ab 1) af)) [some (ax G T W),some (ae P),some (.tuple (W.map au))]=some ((List.range W.length).map fun i=>.tuple [au (aS W i),.int (P.getD i 0)]):=by
  rw[<- qf hp]
  rfl
 have c2:=iS (cs:=[]) (tt:=fun _=>some true) (te:=ah 3 br (aa (ab 1) (aa (fC (.int 0)) (aa (f2 av (ab 0) (fC (.int 2))) af)))) (p:=fun _=>true) (h:=fun k=>.bool (decide (0<=P.getD k 0)&&decide (P.getD k 0<=(aS W k).2.2))) hz (by omega)
  fun i hi=>⟨rfl,fun _=>call_of (fF (d:=.int (P.getD i 0)) rfl 0 (aS W i).2.2) rfl rfl⟩
 have hall:(fB (ba ju (aa (cf (aj 2 [] (fx (aa (ab 2) (aa (ab 1) af))) (fJ 0 1) (fun _=>some true) (ah 3 br (aa (ab 1) (aa (fC (.int 0)) (aa (f2 av (ab 0) (fC (.int 2))) af)))))) af))) [some (ax G T W),some (ae P),some (.tuple (W.map au))]=some (LH W P):=by
  refine bb ?_
  simp only[ba,aa,af,cf,c2,zB,zA]
  rw[show (List.range W.length).filter (fun _=>true)=List.range W.length by simp,mF]
  rfl
 have k0:=zz h hp hs false
 have k1:=zz h hp hs true
 cases hb:LH W P with
 | false =>
  rw[hb] at hall
  refine ku ((ib (cG hall)).trans ?_)
  rw[Ju,hb]
  exact aO rfl
 | true =>
  rw[hb] at hall
  rw[ai (cP (cG hall)),Ju,hb,jK]
  exact aO (y0 (call_of k0 rfl rfl) (call_of k1 rfl rfl))
theorem EI(hk:k < W.length):aS W k∈W:=mC hk ▸ qA hk
theorem Pn.smP(h:Wd G T W)(p:Pn G T W P):Sm P:=fun k=>by
 by_cases hk:k < W.length
 ·have:=p.bd k hk
  have:=(h.wr _ (EI hk)).2.2.2
  omega
 ·rw[zG,jL (by rw[p.len];omega)]
  simp
section
theorem pF(h:Wd G T W)(p:Pn G T W P):gg [ax G T W,ae P]=some (.bool true):=by
 rw[qx h p.len (p.smP h),(rK p.len).mpr p]
theorem gL(h:Wd G T W)(p:Pn G T W P):c6 [ax G T W,ae P]=some .none:=by
 have:eL [.val (ax G T W),.val (ae P)]=some (.nx [.val (ax G T W),.val (ae P)]):=by
  unfold eL
  refine (ai (ck (call_of (dO h) rfl rfl))).trans ?_
  exact cP (cG (bb (call_of (pF h p) rfl rfl)))
 show (eL [.val (ax G T W),.val (ae P)]).map _=_
 rw[this]
 rfl
end
theorem tup_is(h:fs ρ=some ds)(hl:ds.length<=1000):aV fs ρ=some (.tuple ds):=by
 simp only[aV,h,zA,bh (show ds.length<=4000 by omega),zB]
section
theorem eV{cs:List Nat}{fi:Dl.Env->Option (List D)}{te:Dl.Env->Option D}{ρ:Dl.Env}{is:List Nat}{f:Nat->D}(hfi:fi ρ=some (is.map nD))(hl:is.length<=1000)(hh:∀i∈is,te (some (nD i)::cs.map fun j=>(ρ[j]?).getD none)=some (f i)):aj 1 cs fi (fG 0) (fun _=>some true) te ρ=some (is.map f):=by
 rw[bL (h:=fun d=>f (iW d).toNat) hfi (by rw[zD];omega) fun d hd=>?_]
 ·rw[zM]
  refine jC some (yH fun i _=>?_)
  simp[iW]
 ·obtain⟨i,hi,rfl⟩:=List.mem_map.mp hd
  rw[hh i hi]
  simp[iW]
theorem oO(h:m ds=some (.list es))(hf:fs ρ=some ds)(hn:ds.length=n):aP (ah n m fs) ρ=some es:=by
 simp only[aP,call_of h hf hn,zA,fN]
end
theorem Fw(h:f ρ=some (.list ds))(h2:g ρ=some (nD k)):mH gu f (A7 g) mz ρ=some (.list (ds.drop k)):=by
 have:=uP ds k
 simp only[mH,h,A7,h2,mz,gI,gu,zA,zB,this]
theorem Br(is:List Nat):Rf.EK [.list (is.map fun i=>.bool (p i))]=some (.bool (is.any p)):=by
 have:∀is:List Nat,boolsOf (is.map fun i=>PyData.bool (p i))=some (is.map p):=fun is=>by
  induction is with
  | nil=>rfl
  | cons i is ih=>simp[boolsOf,ih]
 simp only[Rf.EK,oneOf,zA,this,zB,wN]
 rfl
theorem lq(f:α->β)(p:β->Bool)(q:α->Bool):∀ (l:List α),(∀x∈l,p (f x)=q x)->(l.map f).findIdx p=l.findIdx q
 | [],_=>rfl
 | x::l,h=>by
  rw[zI,vC,vC,h x zE,lq f p q l fun y hy=>h y (zC _ hy)]
section
theorem JF(h:Wd G T W){b:Bool}{i:Nat}(e:(aw b G T)[i]?=some p){k:Nat}(hk:k < W.length)(he:bo b (aS W k)=i):ny (.list ((d6 b W i p.2).map nD)) (nD k)=some (nD (pL p.2 (cm b (aS W k)))):=by
 have ko:k∈own b W i:=cM.mpr ⟨hk,he⟩
 have km:k∈d6 b W i p.2:=(dX h e).mem_iff.mpr ko
 have e1:(d6 b W i p.2).map nD=((d6 b W i p.2).map fun j=>((j:Nat):Int)).map PyData.int:=by rw[zM];rfl
 have m1:((k:Nat):Int)∈(d6 b W i p.2).map fun j=>((j:Nat):Int):=List.mem_map.mpr ⟨k,km,rfl⟩
 rw[e1]
 show (intsOf _).bind _=_
 rw[bT,zA,mU m1,zB]
 have e2:((d6 b W i p.2).map fun j=>((j:Nat):Int)).findIdx (fun o=>decide (o=((k:Nat):Int)))=pL p.2 (cm b (aS W k)):=by
  unfold d6 pL
  rw[zM]
  refine lq _ _ _ _ fun x hx=>?_
  obtain⟨hl,h1,h2⟩:=rV h e hx
  show decide (((oY b W i x:Nat):Int)=(k:Int))=decide (x=cm b (aS W k))
  rw[decide_eq_decide]
  constructor
  ·intro z
   have z:oY b W i x=k:=by omega
   rw[<- z,h2]
  ·intro z
   rw[z,rf h.wp ko]
 rw[e2]
theorem l6(h:Wd G T W)(hp:P.length=W.length)(hs:Sm P)(b:Bool){k:Nat}(hk:k < W.length):cK [ax G T W,ae P,.int (sI b),nD k]=some (.bool (Ag b G T W P k)):=by
 have hw:=h.wl
 obtain⟨z1,z2,z3⟩:=h.end_pl b hk
 have hx:(aw b G T)[(bo b (aS W k)).toNat]?=some (bZ b G T (bo b (aS W k)).toNat):=by
  rw[zK z2]
  simp[bZ,z2]
 have hL:∀x∈(bZ b G T (bo b (aS W k)).toNat).2,_:=fun x hx'=>rV h hx hx'
 have hb:(bZ b G T (bo b (aS W k)).toNat).2.length<=16:=by
  have:=(dX h hx).length_eq
  have h2:=nF b W ((bo b (aS W k)).toNat:Int)
  unfold d6 at this
  rw[zD] at this
  omega
 have ei:=JF h hx hk z3.symm
 have ew:=mD h hx
 generalize hpl:bZ b G T (bo b (aS W k)).toNat=pl at *
 generalize hj:(bo b (aS W k)).toNat=j at *
 have ez:PyData.int (bo b (aS W k))=nD j:=by rw[<- z3]
 refine aH ?_
 show gP [.val (ax G T W),.val (ae P),.val (.int (sI b)),.val (nD k),.non,.non,.non]=_
 unfold gP
 have t4:Dl.az 4 [0,2,3] (f2 av (f2 av (f2 av (ab 0) (fC (.int 2))) (ab 3)) (ab 2)) [.val (ax G T W),.val (ae P),.val (.int (sI b)),.val (nD k),.non,.non,.non]=some (.nx [.val (ax G T W),.val (ae P),.val (.int (sI b)),.val (nD k),.val (nD j),.non,.non]):=by
  rw[<- ez]
  exact cL (d:=.int (bo b (aS W k))) (aE (sf b _) (aE (wc hk) rfl rfl) rfl) rfl
 rw[ai t4]
 have ep:av (.tuple ((aw b G T).map bB)) (nD j)=some (bB pl):=mG hx
 have ct:(fB (f2 tN (ah 4 b9 (aa (ab 0) (aa (ab 1) (aa (ab 2) (aa (ab 4) af))))) (f2 av (f2 av (f2 av (ab 0) (ab 2)) (ab 4)) (fC (.int 0))))) (bf [.val (ax G T W),.val (ae P),.val (.int (sI b)),.val (nD k),.val (nD j),.non,.non])=some (decide (l8 b W P j < pl.1)):=by
  refine bb (aE (jq _ _) (call_of (mQ h hp hs b j) rfl rfl) ?_)
  refine aE (a:=bB pl) (b:=.int 0) rfl (aE ep (aE (gT b G T W) rfl rfl) rfl) rfl
 have hm:Ag b G T W P k=(decide (l8 b W P j < pl.1)||(pl.2.drop (pL pl.2 (cm b (aS W k))+1)).any fun o=>decide (0 < P.getD (oY b W j o) 0)):=by
  unfold Ag
  rw[hj,hpl,z3]
 rw[hm]
 cases hc:decide (l8 b W P j < pl.1) with
 | true =>
  rw[hc] at ct
  exact ku ((ib ct).trans (aO rfl))
 | false =>
  rw[hc] at ct
  rw[ai (cP ct),Bool.false_or]
  have t5:Dl.az 5 [0,2,4] (ah 3 cN (aa (ab 0) (aa (ab 2) (aa (ab 4) af)))) [.val (ax G T W),.val (ae P),.val (.int (sI b)),.val (nD k),.val (nD j),.non,.non]=some (.nx [.val (ax G T W),.val (ae P),.val (.int (sI b)),.val (nD k),.val (nD j),.val (.list ((d6 b W j pl.2).map nD)),.non]) :=
   bg (call_of ew rfl rfl) (call_of ew rfl rfl) rfl
  rw[ai t5]
  have cu:∀ρ:Dl.Env,ab 5 ρ=some (.list ((d6 b W j pl.2).map nD))->ab 3 ρ=some (nD k)->(mH gu (ab 5) (A7 (f2 aI (f2 ny (ab 5) (ab 3)) (fC (.int 1)))) mz) ρ=some (.list (((d6 b W j pl.2).map nD).drop (pL pl.2 (cm b (aS W k))+1))):=fun ρ a c =>
   Fw a (aE (fA _ _) (aE ei a c) rfl)
  have t6:Dl.az 6 [3,5] (mH gu (ab 5) (A7 (f2 aI (f2 ny (ab 5) (ab 3)) (fC (.int 1)))) mz) [.val (ax G T W),.val (ae P),.val (.int (sI b)),.val (nD k),.val (nD j),.val (.list ((d6 b W j pl.2).map nD)),.non]=some (.nx [.val (ax G T W),.val (ae P),.val (.int (sI b)),.val (nD k),.val (nD j),.val (.list ((d6 b W j pl.2).map nD)),.val (.list (((d6 b W j pl.2).drop (pL pl.2 (cm b (aS W k))+1)).map nD))]):=by
   rw[List.map_drop]
   exact bg (cu _ rfl rfl) (cu _ rfl rfl) rfl
  rw[ai t6]
  have c:aj 1 [1] (aP (ab 6)) (fG 0) (fun _=>some true) (f2 BQ (f2 av (ab 1) (ab 0)) (fC (.int 0))) [some (ax G T W),some (ae P),some (.int (sI b)),some (nD k),some (nD j),some (.list ((d6 b W j pl.2).map nD)),some (.list (((d6 b W j pl.2).drop (pL pl.2 (cm b (aS W k))+1)).map nD))]=some (((d6 b W j pl.2).drop (pL pl.2 (cm b (aS W k))+1)).map fun i=>.bool (decide (0 < P.getD i 0))):=by
   refine eV rfl ?_ fun i hi=>?_
   ·rw[qH,d6,zD]
    omega
   ·have hi':=List.mem_of_mem_drop hi
    unfold d6 at hi'
    obtain⟨x,hx',rfl⟩:=List.mem_map.mp hi'
    exact aE (fS _ _) (aE (mv (by rw[hp];exact (hL x hx').1)) rfl rfl) rfl
  refine aO ?_
  show ba Rf.EK (aa (cf (aj 1 [1] (aP (ab 6)) (fG 0) (fun _=>some true) (f2 BQ (f2 av (ab 1) (ab 0)) (fC (.int 0))))) af) [some (ax G T W),some (ae P),some (.int (sI b)),some (nD k),some (nD j),some (.list ((d6 b W j pl.2).map nD)),some (.list (((d6 b W j pl.2).drop (pL pl.2 (cm b (aS W k))+1)).map nD))]=_
  simp only[ba,aa,af,cf,c,zB,zA,Br]
  unfold d6
  rw[<- List.map_drop,wN]
  rfl
def Kn:Nat->D|0=>.str "full" | 1=>.str "giver" | 2=>.str "taker" | _=>.none
theorem vb(h:Wd G T W)(hp:P.length=W.length)(hs:Sm P)(hk:k < W.length):eZ [ax G T W,ae P,nD k]=some (Kn (nv G T W P k)):=by
 refine aH ?_
 show k8 [.val (ax G T W),.val (ae P),.val (nD k)]=_
 unfold k8 nv
 have c1:(fB (f2 bJ (f2 av (ab 1) (ab 2)) (f2 av (f2 av (f2 av (ab 0) (fC (.int 2))) (ab 2)) (fC (.int 2))))) (bf [.val (ax G T W),.val (ae P),.val (nD k)])=some (decide (P.getD k 0=(aS W k).2.2)) :=
  bb (aE (dZ _ _) (aE (mv (by rw[hp];exact hk)) rfl rfl) (aE (a:=au (aS W k)) (b:=.int 2) rfl (aE (wc hk) rfl rfl) rfl))
 have w0:=l6 h hp hs false hk
 have w1:=l6 h hp hs true hk
 have c2:(bc (fB (ah 4 cK (aa (ab 0) (aa (ab 1) (aa (fC (.int 0)) (aa (ab 2) af))))))) (bf [.val (ax G T W),.val (ae P),.val (nD k)])=some (!(Ag false G T W P k)):=cG (bb (call_of w0 rfl rfl))
 have c3:(bc (fB (ah 4 cK (aa (ab 0) (aa (ab 1) (aa (fC (.int 1)) (aa (ab 2) af))))))) (bf [.val (ax G T W),.val (ae P),.val (nD k)])=some (!(Ag true G T W P k)):=cG (bb (call_of w1 rfl rfl))
 by_cases e1:P.getD k 0=(aS W k).2.2
 ·rw[yA e1] at c1
  rw[yL e1]
  exact ku ((ib c1).trans (aO rfl))
 ·rw[zZ e1] at c1
  rw[yN e1,ai (cP c1)]
  cases e2:Ag false G T W P k with
  | false =>
   rw[e2] at c2
   rw[yL rfl]
   exact ku ((ib c2).trans (aO rfl))
  | true =>
   rw[e2] at c2
   rw[yN (by simp),ai (cP c2)]
   cases e3:Ag true G T W P k with
   | false =>
    rw[e3] at c3
    rw[yL rfl]
    exact ku ((ib c3).trans (aO rfl))
   | true =>
    rw[e3] at c3
    rw[yN (by simp),ai (cP c3)]
    exact aO rfl
theorem JH(G T:List Pl)(W:List Wy)(P:List Int)(k:Nat):nv G T W P k<=3:=by
 unfold nv
 split
 ·omega
 ·split
  ·omega
  ·split<;>omega
theorem EZ(n:Nat)(h:n<=3):pI (Kn n) .none=some (.bool (decide (n=3))):=by
 match n,h with
 | 0,_=>rfl
 | 1,_=>rfl
 | 2,_=>rfl
 | 3,_=>rfl
theorem Dp{W:List Wy}{P:List Int}(hp:P.length=W.length)(hf:f ρ=some (ae P)):(aa (ba bw (aa f af)) af) ρ=some [nD W.length]:=by
 have:=Gv P
 rw[hp] at this
 refine cons_of ?_ rfl
 rw[mP hf,this]
theorem nu(h:Wd G T W)(hp:P.length=W.length)(hs:Sm P):ee [ax G T W,ae P]=some (match (List.range W.length).find? fun k=>decide (nv G T W P k=3) with|some k=>nD k|none=>.none):=by
 have hw:=h.wl
 refine aH ?_
 show eC [.val (ax G T W),.val (ae P),.non]=_
 unfold eC
 obtain⟨f1,f2'⟩:=kf (tgt:=ig 2) (gb:=fX (fB (f2 pI (ah 3 eZ (aa (ab 0) (aa (ab 1) (aa (ab 2) af)))) (fC .none))) (aG (ab 2)) fO) (fun ρ=>∃x,ρ=[.val (ax G T W),.val (ae P),x]) nD (fun k=>decide (nv G T W P k=3)) nD
  (l:=List.range W.length) (ρ:=[.val (ax G T W),.val (ae P),.non])
  (fun ρ k hk hρ=>by
   obtain⟨x,rfl⟩:=hρ
   have hk':k < W.length:=by simpa using hk
   have c:(fB (f2 pI (ah 3 eZ (aa (ab 0) (aa (ab 1) (aa (ab 2) af)))) (fC .none))) (bf [.val (ax G T W),.val (ae P),.val (nD k)])=some (decide (nv G T W P k=3)) :=
    bb (aE (EZ _ (JH G T W P k)) (call_of (vb h hp hs hk') rfl rfl) rfl)
   refine⟨_,rfl,fun hq=>?_,fun hq=>?_⟩
   ·show fX _ _ _ [.val (ax G T W),.val (ae P),.val (nD k)]=_
    rw[hq] at c
    exact (ib c).trans (aO rfl)
   ·rw[hq] at c
    exact⟨_,cP c,_,rfl⟩) ⟨_,rfl⟩
 have hr:aL (aa (ba bw (aa (ab 1) af)) af) [some (ax G T W),some (ae P),none]=some ((List.range W.length).map nD):=kn (Dp hp rfl) (by omega)
 cases e:(List.range W.length).find? fun k=>decide (nv G T W P k=3) with
 | some k=>exact ku (bR (f1 k e) hr rfl)
 | none =>
  obtain⟨ρ',e',x,rfl⟩:=f2' e
  exact (ai (bR e' hr rfl)).trans (aO rfl)
theorem vh(h:Wd G T W)(hp:P.length=W.length)(hs:Sm P):k3 [ax G T W,ae P]=some (.bool (decide (He G T W P=[]))):=by
 refine aH ?_
 show k9 [.val (ax G T W),.val (ae P)]=_
 unfold k9
 refine aO (aE ?_ (call_of (nu h hp hs) rfl rfl) rfl)
 cases e:(List.range W.length).find? fun k=>decide (nv G T W P k=3) with
 | some k =>
  have:He G T W P≠[]:=fun z=>by
   have hm:=jX e
   have hq:=vT e
   have:k∈He G T W P:=List.mem_filter.mpr ⟨hm,hq⟩
   rw[z] at this
   cases this
  rw[zZ this]
  rfl
 | none =>
  have:He G T W P=[]:=by
   rw[List.find?_eq_none] at e
   exact List.filter_eq_nil_iff.mpr e
  rw[yA this]
  rfl
end
theorem yo(f:Nat->D)(R:Nat->ao->Prop):∀ (n k:Nat) (ρ:ao),
  (∀j ρ,k<=j->j < k+n->R j ρ->∃ρ1 ρ2,tgt ρ (f j)=some ρ1/\gb ρ1=some (.nx ρ2)/\R (j+1) ρ2)->R k ρ->∃ρ',cg tgt gb ((List.range' k n).map f) ρ=some (.nx ρ')/\R (k+n) ρ'
 | 0,k,ρ,_,h=>⟨ρ,rfl,h⟩
 | n+1,k,ρ,hh,h=>by
  obtain⟨ρ1,ρ2,e1,e2,h2⟩:=hh k ρ (yM _) (by omega) h
  obtain⟨ρ',e3,h3⟩:=yo f R n (k+1) ρ2 (fun j ρ a b=>hh j ρ (by omega) (by omega)) h2
  refine⟨ρ',?_,by rw[show k+(n+1)=k+1+n by omega];exact h3⟩
  rw[vG,zI,cg,e1,zA,e2]
  exact e3
section
end
section
theorem FP(h:a.length+b.length<=1000):Dl.aI (ae a) (ae b)=some (ae (a++b)):=by
 unfold ae
 rw[rL (by simp;omega),jA]
end
theorem nQ(cont:S->Bool)(st:S->S)(μ:S->Nat)(I:S->Prop)(hb:∀s,I s->cont s=true->I (st s)/\μ (st s) < μ s):∀ (n:Nat) (s:S),μ s < n->I s->cont (lp cont st n s)=false/\I (lp cont st n s)
 | 0,s,h,_=>absurd h (by omega)
 | n+1,s,h,i=>by
  rw[lp]
  cases hc:cont s with
  | false=>exact⟨by simpa [hc] using hc,by simpa using i⟩
  | true =>
   obtain⟨i2,hm⟩:=hb s i hc
   have:=nQ cont st μ I hb n (st s) (by omega) i2
   simpa using this
section
theorem v5(hk:k < W.length):(c4 W).getD k 0=(aS W k).2.2:=by
 unfold c4
 rw[zG,zO,lS hk]
 rfl
theorem lA(h:Wd G T W):pq G T W (fin G T W).2=none/\u6 W (fin G T W)/\∀k,k < W.length->(fin G T W).2.getD k 0<=(aS W k).2.2:=by
 have hb:=h.mea
 obtain⟨h1,i,h2⟩:=nQ (HD G T W) (spS G T W) (fun s=>mea s.2) (fun s=>u6 W s/\∀k,k < W.length->s.2.getD k 0<=(aS W k).2.2)
  (fun s ⟨i,l⟩ hc=>by
   obtain⟨p,e⟩:=lX hc
   obtain⟨a,b,c⟩:=yg h i.off e
   obtain⟨i2,hm⟩:=i.step h e
   refine⟨⟨i2,fun k hk=>?_⟩,hm⟩
   rw[pb e]
   show (s.2.set p.1 p.2).getD k 0<=_
   by_cases z:k=p.1
   ·subst z
    have:=l p.1 a
    have hl:p.1 < s.2.length:=by rw[i.len];exact a
    rw[show (s.2.set p.1 p.2).getD p.1 0=p.2 by simp[hl]]
    omega
   ·rw[show (s.2.set p.1 p.2).getD k 0=s.2.getD k 0 by simp[kP (jM z)]]
    exact l k hk) Rf.turns ([],c4 W) (qZ hb (by decide)) ⟨u6.start h,fun k hk=>by rw[v5 hk];omega⟩
 refine⟨?_,i,h2⟩
 have:HD G T W (fin G T W)=false:=h1
 unfold HD at this
 exact Option.isNone_iff_eq_none.mp (by simpa using this)
def fg(G T:List Pl)(W:List Wy):List Int:=aW false G T W (fin G T W).2
theorem hU(h:Wd G T W):Pn G T W (fg G T W):=by
 obtain⟨h1,i,h2⟩:=lA h
 exact F1 h i.off h2 h1
theorem Cf(h:Wd G T W):dM [ax G T W]=some (ae (fg G T W)):=pA h
theorem pS(a:Bool):mw (.bool a) (.bool a)=some (.bool false):=by cases a<;>simp[mw,Kv,SeqAt.shaped,PyData.canLay0,PyData.depth,PyData.eqv]
end
def sm(l:List Nat)(f:Nat->Int):Int:=(l.map f).sum
theorem aC(q:Nat)(l:List Nat)(f:Nat->Int):sm (q::l) f=f q+sm l f:=by simp[sm]
theorem mR(l r:List Nat)(f:Nat->Int):sm (l++r) f=sm l f+sm r f:=by simp[sm]
theorem nI(q:Nat)(f:Nat->Int):sm [q] f=f q:=by simp[sm]
theorem bV:∀ {l:List Nat}{f g:Nat->Int},(∀q∈l,f q=g q)->sm l f=sm l g
 | [],_,_,_=>rfl
 | q::l,f,g,h=>by rw[aC,aC,h q zE,bV fun x hx=>h x (zC _ hx)]
theorem lG:∀ {l:List Nat}{f g:Nat->Int},(∀q∈l,f q<=g q)->sm l f<=sm l g
 | [],_,_,_=>xZ _
 | q::l,f,g,h=>by
  have h1:=h q zE
  have h2:=lG (l:=l) fun x hx=>h x (zC _ hx)
  rw[aC,aC]
  omega
theorem lu(h:∀q∈l,0<=f q):0<=sm l f:=by
 have:sm l (fun _=>0)=0:=by induction l with
  | nil=>rfl
  | cons q l ih=>rw[aC,ih fun x hx=>h x (zC _ hx)];rfl
 rw[<- this]
 exact lG h
theorem tL:∀ {l:List Nat}{f g:Nat->Int}{p:Nat},(∀q∈l,f q<=g q)->p∈l->f p < g p->sm l f < sm l g
 | q::l,f,g,p,h,hp,e=>by
  have h1:=h q zE
  have h2:=lG (l:=l) fun x hx=>h x (zC _ hx)
  rw[aC,aC]
  rcases List.mem_cons.mp hp with z|z
  ·subst z;omega
  ·have:=tL (l:=l) (fun x hx=>h x (zC _ hx)) z e
   omega
theorem Hx(h:sm l f<=sm l g)(hp:p∈l)(e:g p < f p):∃q∈l,f q < g q:=by
 refine Classical.byContradiction fun hn=>?_
 have:∀q∈l,g q<=f q:=fun q hq=>by
  refine Classical.byContradiction fun z=>hn ⟨q,hq,by omega⟩
 have:=tL this hp e
 omega
theorem xg(h:∀q∈l,0<=f q)(hp:p∈l):f p<=sm l f:=by
 obtain⟨xs,ys,rfl⟩:=List.append_of_mem hp
 rw[mR,aC]
 have h1:=lu (l:=xs) fun q hq=>h q (qJ _ hq)
 have h2:=lu (l:=ys) fun q hq=>h q (yE _ (zC _ hq))
 omega
theorem AF(p:l.Perm r)(f:Nat->Int):sm l f=sm r f:=by
 induction p with
 | nil=>rfl
 | cons x _ ih=>rw[aC,aC,ih]
 | swap x y l=>rw[aC,aC,aC,aC];omega
 | trans _ _ h1 h2=>rw[h1,h2]
def ch(m:Nat->Int):Int->List Nat->Nat->Int
 | _,[],_=>0
 | a,q::r,k=>if k=q then min (m q) a else ch m (a - min (m q) a) r k
theorem aZ(m:Nat->Int)(a:Int)(q:Nat)(r:List Nat):ch m a (q::r) q=min (m q) a:=by simp[ch]
theorem aY(h:k≠q):ch m a (q::r) k=ch m (a - min (m q) a) r k:=by simp[ch,h]
theorem Ep:∀ {a:Int}{l:List Nat},(∀q∈l,0<=m q)->0<=a->∀k,0<=ch m a l k/\ch m a l k<=a/\(k∈l->ch m a l k<=m k)
 | a,[],_,ha,k=>⟨xZ _,ha,fun h=>by cases h⟩
 | a,q::r,hm,ha,k=>by
  have h0:=hm q zE
  by_cases e:k=q
  ·subst e
   rw[aZ]
   exact⟨by omega,by omega,fun _=>by omega⟩
  ·rw[aY e]
   obtain⟨h1,h2,h3⟩:=Ep (m:=m) (a:=a - min (m q) a) (l:=r) (fun x hx=>hm x (zC _ hx)) (by omega) k
   refine⟨h1,by omega,fun hk=>?_⟩
   rcases List.mem_cons.mp hk with z|z
   ·exact absurd z e
   ·exact h3 z
theorem DV:∀ {a:Int}{l:List Nat},l.Nodup->(∀q∈l,0<=m q)->0<=a->sm l (ch m a l)=min a (sm l m)
 | a,[],_,_,ha=>by simp[sm];omega
 | a,q::r,hn,hm,ha=>by
  rw[kR] at hn
  have h0:=hm q zE
  have hr:∀x∈r,0<=m x:=fun x hx=>hm x (zC _ hx)
  have hs:=lu hr
  have ih:=DV (m:=m) (a:=a - min (m q) a) hn.2 hr (by omega)
  rw[aC,aC,aZ,bV (g:=ch m (a - min (m q) a) r) fun x hx=>aY fun e=>hn.1 (e ▸ hx),ih]
  omega
theorem Ay:∀ {a a':Int}{l:List Nat}{k:Nat},a<=a'->ch m a l k<=ch m a' l k
 | _,_,[],_,_=>xZ _
 | a,a',q::r,k,h=>by
  by_cases e:k=q
  ·subst e
   rw[aZ,aZ]
   omega
  ·rw[aY e,aY e]
   exact Ay (by omega)
theorem yv:∀ {a:Int}{l:List Nat},l.Nodup->(∀q∈l,ch m a l q<=m' q/\m' q<=m q)->∀k,ch m' a l k=ch m a l k
 | _,[],_,_,_=>rfl
 | a,q::r,hn,h,k=>by
  rw[kR] at hn
  have h0:=h q zE
  rw[aZ] at h0
  have e0:min (m' q) a=min (m q) a:=by omega
  by_cases e:k=q
  ·subst e
   rw[aZ,aZ,e0]
  ·rw[aY e,aY e,e0]
   exact yv hn.2 (fun x hx=>by
    have:=h x (zC _ hx)
    rwa [aY (show x≠q from fun z=>hn.1 (z ▸ hx))] at this) k
theorem oK:∀ {a:Int}{l:List Nat},(∀q∈l,m q=m' q)->∀k,ch m a l k=ch m' a l k
 | _,[],_,_=>rfl
 | a,q::r,h,k=>by
  have h0:=h q zE
  by_cases e:k=q
  ·subst e
   rw[aZ,aZ,h0]
  ·rw[aY e,aY e,h0]
   exact oK (fun x hx=>h x (zC _ hx)) k
def up:List Nat->Nat->List Nat
 | [],_=>[]
 | q::r,k=>if k=q then [q] else q::up r k
theorem bS(q:Nat)(r:List Nat):up (q::r) q=[q]:=by simp[up]
theorem cI(h:k≠q):up (q::r) k=q::up r k:=by simp[up,h]
theorem bP:∀ {l:List Nat}{k q:Nat},q∈up l k->q∈l
 | [],_,_,h=>by cases h
 | x::l,k,q,h=>by
  by_cases e:k=x
  ·subst e
   rw[bS,yJ] at h
   exact h ▸ zE
  ·rw[cI e] at h
   rcases List.mem_cons.mp h with z|z
   ·exact z ▸ zE
   ·exact zC _ (bP z)
theorem nU:∀ {l:List Nat}{k:Nat},k∈l->k∈up l k
 | x::l,k,h=>by
  by_cases e:k=x
  ·subst e
   rw[bS]
   exact zE
  ·rw[cI e]
   rcases List.mem_cons.mp h with z|z
   ·exact absurd z e
   ·exact zC _ (nU z)
theorem r6:∀ {xs ys:List Nat}{k:Nat},k∉xs->up (xs++k::ys) k=xs++[k]
 | [],ys,k,_=>bS _ _
 | x::xs,ys,k,h=>by
  rw[zQ,not_or] at h
  rw[xF,cI h.1,r6 h.2]
  rfl
theorem nM(hn:l.Nodup)(hk:k∈l):∃ys,l=up l k++ys/\(∀q∈ys,q∉up l k):=by
 obtain⟨xs,ys,rfl⟩:=List.append_of_mem hk
 have hx:k∉xs:=fun z=>by
  rw[wR] at hn
  exact hn.2.2 k z k zE rfl
 refine⟨ys,by rw[r6 hx];simp,fun q hq hq2=>?_⟩
 rw[r6 hx] at hq2
 rw[show xs++k::ys=(xs++[k])++ys by simp,wR] at hn
 exact hn.2.2 q hq2 q hq rfl
theorem nB:∀ {l:List Nat}{k q:Nat},l.Nodup->q∈up l k->k∈up l q->k=q
 | [],_,_,_,h,_=>by cases h
 | x::l,k,q,hn,h1,h2=>by
  rw[kR] at hn
  by_cases e:k=x
  ·subst e
   rw[bS,yJ] at h1
   exact h1.symm
  ·by_cases e2:q=x
   ·subst e2
    rw[bS,yJ] at h2
    exact h2
   ·rw[cI e] at h1
    rw[cI e2] at h2
    rcases List.mem_cons.mp h1 with z|z
    ·exact absurd z e2
    ·rcases List.mem_cons.mp h2 with z2|z2
     ·exact absurd z2 e
     ·exact nB hn.2 z z2
theorem tO:∀ {l:List Nat}{k:Nat},l.Nodup->(up l k).Nodup
 | [],_,_=>List.nodup_nil
 | x::l,k,h=>by
  have h':=h
  rw[kR] at h
  by_cases e:k=x
  ·subst e
   rw[bS]
   exact List.nodup_cons.mpr ⟨by simp,List.nodup_nil⟩
  ·rw[cI e,kR]
   exact⟨fun z=>h.1 (bP z),tO h.2⟩
theorem rg:∀ {a:Int}{l:List Nat}{k:Nat},l.Nodup->k∈l->ch m a l k < m k->sm (up l k) (ch m a l)=a
 | a,q::r,k,hn,hk,h=>by
  rw[kR] at hn
  by_cases e:k=q
  ·subst e
   rw[aZ] at h
   rw[bS,nI,aZ]
   omega
  ·rw[aY e] at h
   have hk':k∈r:=by
    rcases List.mem_cons.mp hk with z|z
    ·exact absurd z e
    ·exact z
   have ih:=rg hn.2 hk' h
   rw[cI e,aC,aZ,bV (g:=ch m (a - min (m q) a) r) fun x hx=>aY fun z=>hn.1 (z ▸ bP hx),ih]
   omega
theorem DN:∀ {a:Int}{l:List Nat}{k q:Nat},l.Nodup->(∀x∈l,0<=m x)->0<=a->0 < ch m a l k->q∈up l k->q≠k->ch m a l q=m q
 | a,[],_,_,_,_,_,_,h,_=>by cases h
 | a,x::r,k,q,hn,hm,ha,h,hq,hne=>by
  rw[kR] at hn
  have h0:=hm x zE
  have hr:∀y∈r,0<=m y:=fun y hy=>hm y (zC _ hy)
  by_cases e:k=x
  ·subst e
   rw[bS,yJ] at hq
   exact absurd hq hne
  ·rw[aY e] at h
   rw[cI e] at hq
   rcases List.mem_cons.mp hq with z|z
   ·subst z
    rw[aZ]
    have:=(Ep (m:=m) (a:=a - min (m q) a) hr (by omega) k).2.1
    omega
   ·have hqx:q≠x:=fun w=>hn.1 (w ▸ bP z)
    rw[aY hqx]
    exact DN hn.2 hr (by omega) h z hne
theorem Hs:∀ {a:Int}{l:List Nat}{k:Nat},l.Nodup->(∀x∈l,0<=m x)->0<=a->k∈l->sm (up l k) (ch m a l)=min a (sm (up l k) m)
 | a,q::r,k,hn,hm,ha,hk=>by
  rw[kR] at hn
  have h0:=hm q zE
  have hr:∀y∈r,0<=m y:=fun y hy=>hm y (zC _ hy)
  by_cases e:k=q
  ·subst e
   rw[bS,nI,nI,aZ]
   omega
  ·have hk':k∈r:=by
    rcases List.mem_cons.mp hk with z|z
    ·exact absurd z e
    ·exact z
   have ih:=Hs (m:=m) (a:=a - min (m q) a) hn.2 hr (by omega) hk'
   have hs:=lu (l:=up r k) fun y hy=>hr y (bP hy)
   rw[cI e,aC,aC,aZ,bV (g:=ch m (a - min (m q) a) r) fun x hx=>aY fun z=>hn.1 (z ▸ bP hx),ih]
   omega
theorem DM:∀ {a:Int}{l:List Nat},l.Nodup->(∀x∈l,x≠p->m' x=m x)->m' p<=ch m a l p->(∀k∈l,k≠p->ch m a l k<=ch m' a l k)/\(p∈l->ch m' a l p=m' p)
 | _,[],_,_,_=>⟨fun _ h=>absurd h yF,fun h=>absurd h yF⟩
 | a,q::r,hn,h,hp=>by
  rw[kR] at hn
  by_cases e:q=p
  ·subst e
   rw[aZ] at hp
   have hs:∀x∈r,m' x=m x:=fun x hx=>h x (zC _ hx) fun z=>hn.1 (z ▸ hx)
   refine⟨fun k hk hne=>?_,fun _=>?_⟩
   ·rw[aY hne,aY hne,oK (m:=m') (m':=m) hs]
    exact Ay (by omega)
   ·rw[aZ];omega
  ·have hq:=h q zE e
   rw[aY (jM e)] at hp
   obtain⟨i1,i2⟩:=DM (m:=m) (m':=m') (p:=p) (a:=a - min (m q) a) hn.2 (fun x hx=>h x (zC _ hx)) hp
   refine⟨fun k hk hne=>?_,fun hk=>?_⟩
   ·by_cases e2:k=q
    ·subst e2
     rw[aZ,aZ,hq]
     exact xZ _
    ·rw[aY e2,aY e2,hq]
     rcases List.mem_cons.mp hk with z|z
     ·exact absurd z e2
     ·exact i1 k z hne
   ·rw[aY (jM e),hq]
    rcases List.mem_cons.mp hk with z|z
    ·exact absurd z.symm e
    ·exact i2 z
theorem Df:∀ {a:Int}{l:List Nat},l.Nodup->(∀q∈l,0<=X q/\X q<=m q)->sm l X<=a->(∀k∈l,X k=m k\/sm (up l k) X=a)->∀k∈l,ch m a l k=X k
 | _,[],_,_,_,_,_,h=>by cases h
 | a,q::r,hn,hX,hs,h,k,hk=>by
  rw[kR] at hn
  have h0:=hX q zE
  have hr:∀y∈r,0<=X y/\X y<=m y:=fun y hy=>hX y (zC _ hy)
  have hnn:=lu (l:=r) fun y hy=>(hr y hy).1
  rw[aC] at hs
  have e0:min (m q) a=X q:=by
   rcases h q zE with z|z
   ·omega
   ·rw[bS,nI] at z
    omega
  by_cases e:k=q
  ·subst e
   rw[aZ,e0]
  ·rw[aY e,e0]
   rcases List.mem_cons.mp hk with z|z
   ·exact absurd z e
   ·refine Df hn.2 hr (by omega) (fun j hj=>?_) k z
    have hjq:j≠q:=fun w=>hn.1 (w ▸ hj)
    rcases h j (zC _ hj) with w|w
    ·exact .inl w
    ·rw[cI hjq,aC] at w
     exact .inr (by omega)
def bE(b:Bool)(W:List Wy)(k:Nat):Nat:=(bo b (aS W k)).toNat
def lst(b:Bool)(G T:List Pl)(W:List Wy)(i:Nat):List Nat:=d6 b W i (bZ b G T i).2
def amt(b:Bool)(G T:List Pl)(i:Nat):Int:=(bZ b G T i).1
def mm(W:List Wy)(off:List Int)(q:Nat):Int:=min (off.getD q 0) (aS W q).2.2
def vl(P:List Int)(q:Nat):Int:=P.getD q 0
section
variable {G T:List Pl}{W:List Wy}{P X c off:List Int}{b:Bool}{i k q:Nat}
theorem bU(h:Wd G T W)(b:Bool)(hk:k < W.length):bE b W k < (aw b G T).length:=(h.end_pl b hk).2.1
theorem lP(h:Wd G T W)(hi:i < (aw b G T).length):(lst b G T W i).Perm (own b W i):=dX h (iH hi)
theorem aK(h:Wd G T W)(hi:i < (aw b G T).length):(lst b G T W i).Nodup:=(lP h hi).nodup_iff.mpr (List.nodup_range.filter _)
theorem bj(h:Wd G T W)(hi:i < (aw b G T).length):q∈lst b G T W i↔q < W.length/\bE b W q=i:=by
 rw[(lP h hi).mem_iff,cM]
 constructor
 ·rintro⟨h1,h2⟩
  exact⟨h1,by unfold bE;rw[h2];simp⟩
 ·rintro⟨h1,h2⟩
  have:=(h.end_pl b h1).2.2
  unfold bE at h2
  rw[h2] at this
  exact⟨h1,this.symm⟩
theorem bF(h:Wd G T W)(b:Bool)(hk:k < W.length):k∈lst b G T W (bE b W k):=(bj h (bU h b hk)).mpr ⟨hk,rfl⟩
theorem zi(h:Wd G T W)(ho:Off off)(q:Nat):0<=mm W off q:=by
 have h1:=ho q
 have h2:=h.lim q
 unfold mm
 omega
theorem wg:∀ (is:List Nat) (a:Int) (l:List Int),is.Nodup->(∀i∈is,i < l.length)->∀k,(is.foldl (lg W off) (a,l)).2.getD k 0=if k∈is then ch (mm W off) a is k else l.getD k 0
 | [],a,l,_,_,k=>by simp
 | q::is,a,l,hn,hl,k=>by
  rw[kR] at hn
  have ih:=wg is (a - cV W off a q) (l.set q (cV W off a q)) hn.2 (fun i hi=>by rw[yC];exact hl i (zC _ hi)) k
  rw[yI]
  show (is.foldl (lg W off) (a - cV W off a q,l.set q (cV W off a q))).2.getD k 0=_
  rw[ih]
  have hq:=hl q zE
  by_cases e:k=q
  ·subst e
   rw[yN hn.1,yL zE,aZ,bX,yL ⟨rfl,hq⟩]
   rfl
  ·rw[aY e]
   by_cases hk:k∈is
   ·rw[yL hk,yL (zC _ hk)]
    rfl
   ·rw[yN hk,yN (by rw[zQ,not_or];exact⟨e,hk⟩),bX,yN (fun z=>e z.1.symm)]
theorem fT(h:Wd G T W)(b:Bool)(off:List Int)(hk:k < W.length):(aW b G T W off).getD k 0=ch (mm W off) (amt b G T (bE b W k)) (lst b G T W (bE b W k)) k:=by
 have hi:=bU h b hk
 rw[Cg h b hk]
 show (l9 W off (amt b G T (bE b W k)) (lst b G T W (bE b W k))).getD k 0=_
 unfold l9
 rw[wg _ _ _ (aK h hi) (fun j hj=>by rw[xM];exact ((bj h hi).mp hj).1),yL (bF h b hk)]
theorem rR(h:Wd G T W)(b:Bool)(i:Nat):0<=amt b G T i:=h.amt b i
theorem gY(h:Wd G T W)(hi:i < (aw b G T).length):l8 b W P i=sm (lst b G T W i) (vl P):=by
 unfold l8
 rw[AF (lP h hi)]
 rfl
def Fl(b:Bool)(G T:List Pl)(W:List Wy)(P:List Int)(k:Nat):Prop:=sm (up (lst b G T W (bE b W k)) k) (vl P)=amt b G T (bE b W k)
def Rs(G T:List Pl)(W:List Wy)(P:List Int):Prop:=∀k,k < W.length->P.getD k 0=(aS W k).2.2\/Fl false G T W P k\/Fl true G T W P k
theorem Pn.nn(p:Pn G T W P)(q:Nat):0<=vl P q:=by
 by_cases hq:q < W.length
 ·exact (p.bd q hq).1
 ·unfold vl
  rw[fy (by rw[p.len];omega)]
  omega
theorem Pn.le_sm(h:Wd G T W)(p:Pn G T W P)(hi:i < (aw b G T).length):sm (lst b G T W i) (vl P)<=amt b G T i:=by
 rw[<- gY h hi]
 exact p.am b i hi
theorem yr(h:Wd G T W)(p:Pn G T W P)(b:Bool)(hk:k < W.length):Ag b G T W P k=false↔Fl b G T W P k:=by
 obtain⟨z1,z2,z3⟩:=h.end_pl b hk
 have hc:lst b G T W (bE b W k)=((bZ b G T (bE b W k)).2.take (pL (bZ b G T (bE b W k)).2 (cm b (aS W k)))).map (oY b W (bE b W k))++k::((bZ b G T (bE b W k)).2.drop (pL (bZ b G T (bE b W k)).2 (cm b (aS W k))+1)).map (oY b W (bE b W k)):=FQ h hk
 have hn:=aK (b:=b) h z2
 change (lst b G T W (bE b W k)).Nodup at hn
 have hle:=p.le_sm h z2
 change sm (lst b G T W (bE b W k)) (vl P)<=amt b G T (bE b W k) at hle
 have hth:=gY (P:=P) h z2
 have hy:Ag b G T W P k=(decide (l8 b W P ((bE b W k:Nat):Int) < amt b G T (bE b W k))||(((bZ b G T (bE b W k)).2.drop (pL (bZ b G T (bE b W k)).2 (cm b (aS W k))+1)).map (oY b W (bE b W k))).any fun q=>decide (0 < vl P q)):=by
  unfold Ag
  rw[wN]
  unfold bE amt
  rw[z3]
  rfl
 change l8 b W P ((bE b W k:Nat):Int)=sm (lst b G T W (bE b W k)) (vl P) at hth
 unfold Fl
 rw[hy,hth]
 revert hc
 generalize ((bZ b G T (bE b W k)).2.take (pL (bZ b G T (bE b W k)).2 (cm b (aS W k)))).map (oY b W (bE b W k))=xs
 generalize ((bZ b G T (bE b W k)).2.drop (pL (bZ b G T (bE b W k)).2 (cm b (aS W k))+1)).map (oY b W (bE b W k))=ys
 intro hc
 have hx:k∉xs:=fun z=>by
  rw[hc,wR] at hn
  exact hn.2.2 k z k zE rfl
 rw[hc,r6 hx]
 rw[hc] at hle
 have e:sm (xs++k::ys) (vl P)=sm (xs++[k]) (vl P)+sm ys (vl P):=by
  rw[<- mR]
  simp
 have hnn:=lu (l:=ys) fun q _=>p.nn q
 have hpos:=ze (P:=P) ys fun q _=>p.nn q
 change (0 < sm ys (vl P)↔(ys.any fun q=>decide (0 < vl P q))=true) at hpos
 rw[e] at hle ⊢
 rw[Bool.or_eq_false_iff,xB]
 constructor
 ·rintro⟨h1,h2⟩
  have:¬ 0 < sm ys (vl P):=fun z=>by rw[hpos.mp z] at h2;cases h2
  omega
 ·intro h1
  refine⟨by omega,?_⟩
  cases hh:(ys.any fun q=>decide (0 < vl P q)) with
  | false=>rfl
  | true=>have:=hpos.mpr hh;omega
theorem uj(h:Wd G T W)(p:Pn G T W P):He G T W P=[]↔Rs G T W P:=by
 unfold He
 rw[List.filter_eq_nil_iff]
 constructor
 ·intro hh k hk
  have:=hh k (by simpa using hk)
  rw[zJ] at this
  unfold nv at this
  by_cases e1:P.getD k 0=(aS W k).2.2
  ·exact .inl e1
  ·rw[yN e1] at this
   by_cases e2:Ag false G T W P k=false
   ·exact .inr (.inl ((yr h p false hk).mp e2))
   ·rw[yN e2] at this
    by_cases e3:Ag true G T W P k=false
    ·exact .inr (.inr ((yr h p true hk).mp e3))
    ·rw[yN e3] at this
     exact absurd rfl this
 ·intro hh k hk
  rw[zJ]
  unfold nv
  rcases hh k (by simpa using hk) with e|e|e
  ·rw[yL e];omega
  ·rw[yL ((yr h p false (by simpa using hk)).mpr e)]
   split<;>omega
  ·rw[yL ((yr h p true (by simpa using hk)).mpr e)]
   split
   ·omega
   ·split<;>omega
theorem sM(e:pq G T W c=some (k,q')):k < W.length/\q'=(ix G T W c).getD k 0/\(ix G T W c).getD k 0 < (aW false G T W c).getD k 0:=by
 unfold pq at e
 obtain⟨j,hj,e2⟩:=Dl.ag e
 cases e2
 have hm:=jX hj
 have hq:=vT hj
 rw[qR,zJ] at hq
 exact⟨List.mem_range.mp hm,rfl,hq⟩
theorem G1(e:pq G T W c=none)(hk:k < W.length):(aW false G T W c).getD k 0<=(ix G T W c).getD k 0:=by
 unfold pq at e
 rw[Option.map_eq_none_iff] at e
 have:=List.find?_eq_none.mp e k (by simpa using hk)
 rw[qR,zJ] at this
 omega
end
section
variable {P X c off:List Int}
theorem kq(h:Wd G T W)(hk:k < W.length)(hq:q∈lst b G T W (bE b W k)):q < W.length/\bE b W q=bE b W k:=(bj h (bU h b hk)).mp hq
theorem hJ(h:Wd G T W)(hi:i < (aw b G T).length)(hq:q∈lst b G T W i):vl (aW b G T W off) q=ch (mm W off) (amt b G T i) (lst b G T W i) q:=by
 obtain⟨h1,h2⟩:=(bj h hi).mp hq
 have:=fT h b off h1
 rw[h2] at this
 exact this
theorem DL(h:Wd G T W)(ho:Off off)(b:Bool)(hk:k < W.length):sm (up (lst b G T W (bE b W k)) k) (vl (aW b G T W off))=min (amt b G T (bE b W k)) (sm (up (lst b G T W (bE b W k)) k) (mm W off)):=by
 have hi:=bU h b hk
 rw[bV fun q hq=>hJ h hi (bP hq)]
 exact Hs (aK h hi) (fun q _=>zi h ho q) (rR h b _) (bF h b hk)
theorem oC(h:Wd G T W)(b:Bool)(hk:k < W.length)(e:(aW b G T W off).getD k 0 < mm W off k):Fl b G T W (aW b G T W off) k:=by
 have hi:=bU h b hk
 rw[fT h b off hk] at e
 unfold Fl
 rw[bV fun q hq=>hJ h hi (bP hq)]
 exact rg (aK h hi) (bF h b hk) e
theorem Gj(h:Wd G T W)(ho:Off off)(hk:k < W.length)(e:0 < (aW b G T W off).getD k 0)(hq:q∈up (lst b G T W (bE b W k)) k)(hne:q≠k):(aW b G T W off).getD q 0=mm W off q:=by
 have hi:=bU h b hk
 rw[fT h b off hk] at e
 have:=hJ (off:=off) h hi (bP hq)
 unfold vl at this
 rw[this]
 exact DN (aK h hi) (fun q _=>zi h ho q) (rR h b _) e hq hne
theorem vg(h:Wd G T W)(ho:Off off)(b:Bool)(hk:k < W.length):0<=(aW b G T W off).getD k 0/\(aW b G T W off).getD k 0<=mm W off k:=by
 have hi:=bU h b hk
 rw[fT h b off hk]
 have:=Ep (m:=mm W off) (a:=amt b G T (bE b W k)) (l:=lst b G T W (bE b W k)) (fun q _=>zi h ho q) (rR h b _) k
 exact⟨this.1,this.2.2 (bF h b hk)⟩
theorem so(h:Wd G T W)(ho:Off off)(hi:i < (aw b G T).length):sm (lst b G T W i) (vl (aW b G T W off))=min (amt b G T i) (sm (lst b G T W i) (mm W off)):=by
 rw[bV fun q hq=>hJ h hi hq]
 exact DV (aK h hi) (fun q _=>zi h ho q) (rR h b _)
theorem Hj(h:Wd G T W)(p:Pn G T W X)(b:Bool)(hk:k < W.length):sm (up (lst b G T W (bE b W k)) k) (vl X)<=amt b G T (bE b W k):=by
 have hi:=bU h b hk
 have:=p.le_sm h hi
 obtain⟨ys,e,_⟩:=nM (aK h hi) (bF h b hk)
 rw[e,mR] at this
 have hn:=lu (l:=ys) fun q _=>p.nn q
 omega
theorem vf(h:Wd G T W)(p:Pn G T W X)(hq:q < W.length)(f:Fl b G T W X q)(hk:k∈lst b G T W (bE b W q))(hn:k∉up (lst b G T W (bE b W q)) q):X.getD k 0=0:=by
 have hi:=bU h b hq
 have hle:=p.le_sm h hi
 obtain⟨ys,e,_⟩:=nM (aK h hi) (bF h b hq)
 have hy:k∈ys:=by
  rw[e] at hk
  rcases List.mem_append.mp hk with z|z
  ·exact absurd z hn
  ·exact z
 rw[e,mR] at hle
 unfold Fl at f
 have:=xg (l:=ys) (fun q _=>p.nn q) hy
 have h0:=p.nn k
 unfold vl at this h0
 have:sm ys (vl X)=sm ys fun q=>X.getD q 0:=rfl
 omega
theorem uB(h:Wd G T W)(p:Pn G T W X)(ho:Off c)(hc:∀k,k < W.length->X.getD k 0<=c.getD k 0)(hq:q < W.length)(e:X.getD q 0 < (aW false G T W c).getD q 0):¬ Fl false G T W X q:=fun f=>by
 have hi:=bU h false hq
 have hpos:0 < (aW false G T W c).getD q 0:=by have:=p.nn q;unfold vl at this;omega
 have hlt:sm (up (lst false G T W (bE false W q)) q) (vl X) < sm (up (lst false G T W (bE false W q)) q) (vl (aW false G T W c)):=by
  refine tL (p:=q) (fun r hr=>?_) (nU (bF h false hq)) e
  by_cases z:r=q
  ·subst z;exact Int.le_of_lt e
  ·have hr':=(kq h hq (bP hr)).1
   unfold vl
   rw[Gj h ho hq hpos hr z]
   have h1:=hc r hr'
   have h2:=(p.bd r hr').2
   unfold mm
   omega
 have h2:=DL h ho false hq
 unfold Fl at f
 omega
end
section
variable {P X c off:List Int}
theorem lx(h:Wd G T W)(ho:Off c)(hk:k < W.length):0<=(ix G T W c).getD k 0/\(ix G T W c).getD k 0<=(aW false G T W c).getD k 0/\(aW false G T W c).getD k 0<=c.getD k 0/\(aW false G T W c).getD k 0<=(aS W k).2.2/\mm W (aW false G T W c) k=(aW false G T W c).getD k 0:=by
 have h1:=vg h ho false hk
 have h2:=vg h (gO h ho false) true hk
 change 0<=(ix G T W c).getD k 0/\(ix G T W c).getD k 0<=_ at h2
 unfold mm at h1 h2 ⊢
 omega
theorem CT(h:Wd G T W)(p:Pn G T W X)(r:Rs G T W X)(ho:Off c)(hc:∀k,k < W.length->X.getD k 0<=c.getD k 0)(e:pq G T W c=some (k,v)):X.getD k 0<=v:=by
 obtain⟨hk,rfl,hlt⟩:=sM e
 refine Classical.byContradiction fun hn=>?_
 have hn:(ix G T W c).getD k 0 < X.getD k 0:=by omega
 obtain⟨b0,b1,b2,b3,b4⟩:=lx h ho hk
 have ff:Fl true G T W (ix G T W c) k:=oC h true hk (by rw[b4];exact hlt)
 have hle:=Hj h p true hk
 unfold Fl at ff
 obtain⟨q,hq,hqx⟩:=Hx (f:=vl X) (g:=vl (ix G T W c)) (l:=up (lst true G T W (bE true W k)) k) (p:=k) (by omega) (nU (bF h true hk)) hn
 obtain⟨hq1,hq2⟩:=kq h hk (bP hq)
 unfold vl at hqx
 have hne:q≠k:=fun z=>by subst z;omega
 obtain⟨d0,d1,d2,d3,d4⟩:=lx h ho hq1
 have hxq:=(p.bd q hq1).1
 rcases r q hq1 with z|z|z
 ·omega
 ·exact uB h p ho hc hq1 (by omega) z
 ·have hn2:k∉up (lst true G T W (bE true W q)) q:=fun w=>by
   rw[hq2] at w
   exact hne (nB (aK h (bU h true hk)) hq w).symm
  have:=vf h p hq1 z (by rw[hq2];exact bF h true hk) hn2
  omega
theorem Aj(h:Wd G T W)(p:Pn G T W X)(r:Rs G T W X)(hk:k < W.length):X.getD k 0<=(fin G T W).2.getD k 0:=by
 have hb:=h.mea
 obtain⟨_,_,h2⟩:=nQ (HD G T W) (spS G T W) (fun s=>mea s.2) (fun s=>u6 W s/\∀k,k < W.length->X.getD k 0<=s.2.getD k 0)
  (fun s ⟨i,l⟩ hc=>by
   obtain⟨⟨k,v⟩,e⟩:=lX hc
   obtain⟨i2,hm⟩:=i.step h e
   have hx:=CT h p r i.off l e
   refine⟨⟨i2,fun j hj=>?_⟩,hm⟩
   rw[pb e]
   show _<=(s.2.set k v).getD j 0
   rw[bX]
   split
   ·rename_i z
    rw[<- z.1]
    exact hx
   ·exact l j hj) Rf.turns ([],c4 W) (qZ hb (by decide)) ⟨u6.start h,fun k hk=>by rw[v5 hk];exact (p.bd k hk).2⟩
 exact h2 k hk
def Jn(G T:List Pl)(W:List Wy)(c:List Int):Prop:=∀k,k < W.length->c.getD k 0 < (aS W k).2.2->Fl true G T W (ix G T W c) k
theorem IM(h:Wd G T W)(ho:Off c)(hl:c.length=W.length)(e:pq G T W c=some (k,v))(hq:q < W.length):(ix G T W c).getD q 0<=(aW false G T W (c.set k v)).getD q 0:=by
 obtain⟨hk,rfl,hlt⟩:=sM e
 obtain⟨b0,b1,b2,b3,b4⟩:=lx h ho hk
 obtain⟨d0,d1,d2,d3,d4⟩:=lx h ho hq
 have hi:=bU h false hq
 have hm:∀x,x≠k->mm W (c.set k ((ix G T W c).getD k 0)) x=mm W c x:=fun x hx=>by
  unfold mm
  rw[bX,yN (fun z=>hx z.1.symm)]
 have hmk:mm W (c.set k ((ix G T W c).getD k 0)) k=(ix G T W c).getD k 0:=by
  unfold mm
  rw[bX,yL ⟨rfl,by rw[hl];exact hk⟩]
  omega
 rw[fT h false _ hq]
 by_cases z:bE false W q=bE false W k
 ·have hkL:k∈lst false G T W (bE false W q):=by rw[z];exact bF h false hk
  have hA:vl (aW false G T W c) k=ch (mm W c) (amt false G T (bE false W q)) (lst false G T W (bE false W q)) k:=hJ h hi hkL
  unfold vl at hA
  obtain⟨l1,l2⟩:=DM (m:=mm W c) (m':=mm W (c.set k ((ix G T W c).getD k 0))) (p:=k) (a:=amt false G T (bE false W q)) (l:=lst false G T W (bE false W q)) (aK h hi) (fun x _ hx=>hm x hx) (by rw[hmk,<- hA];exact b1)
  by_cases y:q=k
  ·subst y
   rw[l2 hkL,hmk]
   exact xZ _
  ·have:=l1 q (bF h false hq) y
   rw[<- fT h false c hq] at this
   omega
 ·rw[oK (m:=mm W (c.set k ((ix G T W c).getD k 0))) (m':=mm W c) fun x hx=>hm x fun w=>by
   subst w
   exact z ((bj h hi).mp hx).2.symm]
  rw[<- fT h false c hq]
  exact d1
theorem Jn.step(h:Wd G T W)(ho:Off c)(hl:c.length=W.length)(j:Jn G T W c)(e:pq G T W c=some (k,v)):Jn G T W (c.set k v):=fun q hq hlim=>by
 have ho':Off (c.set k v):=yw ho (yg h ho e).2.1
 have fq:Fl true G T W (ix G T W c) q:=by
  obtain⟨hk,rfl,hlt⟩:=sM e
  by_cases z:q=k
  ·subst z
   exact oC h true hq (by rw[(lx h ho hq).2.2.2.2];exact hlt)
  ·rw[bX,yN (fun w=>z w.1.symm)] at hlim
   exact j q hq hlim
 have hu:=DL h (gO h ho' false) true hq
 change sm _ (vl (ix G T W (c.set k v)))=_ at hu
 unfold Fl at fq ⊢
 have hs:sm (up (lst true G T W (bE true W q)) q) (vl (ix G T W c))<=sm (up (lst true G T W (bE true W q)) q) (mm W (aW false G T W (c.set k v))):=lG fun x hx=>by
  have hx':=(kq h hq (bP hx)).1
  have h1:=IM h ho hl e hx'
  have h2:=lx h ho hx'
  unfold vl mm
  omega
 rw[hu]
 omega
theorem Lg(h:Wd G T W):Jn G T W (fin G T W).2:=by
 have hb:=h.mea
 obtain⟨_,_,h2⟩:=nQ (HD G T W) (spS G T W) (fun s=>mea s.2) (fun s=>u6 W s/\Jn G T W s.2)
  (fun s ⟨i,j⟩ hc=>by
   obtain⟨⟨k,v⟩,e⟩:=lX hc
   obtain⟨i2,hm⟩:=i.step h e
   refine⟨⟨i2,?_⟩,hm⟩
   rw[pb e]
   exact j.step h i.off i.len e) Rf.turns ([],c4 W) (qZ hb (by decide)) ⟨u6.start h,fun k hk hl=>by rw[v5 hk] at hl;omega⟩
 exact h2
theorem Io(h:Wd G T W):Rs G T W (fg G T W):=fun k hk=>by
 obtain⟨hnone,i,hlim⟩:=lA h
 have j:=Lg h
 have heq:∀q,q < W.length->(fg G T W).getD q 0=(ix G T W (fin G T W).2).getD q 0:=fun q hq=>by
  have h1:=G1 hnone hq
  have h2:=(lx h i.off hq).2.1
  unfold fg
  omega
 obtain⟨d0,d1,d2,d3,d4⟩:=lx h i.off hk
 by_cases e:(fg G T W).getD k 0=(aS W k).2.2
 ·exact .inl e
 ·by_cases e2:(fg G T W).getD k 0 < mm W (fin G T W).2 k
  ·exact .inr (.inl (oC h false hk e2))
  ·have h3:=(vg h i.off false hk).2
   have:(fin G T W).2.getD k 0 < (aS W k).2.2:=by
    unfold fg at e e2
    unfold mm at e2 h3
    omega
   have f:=j k hk this
   refine .inr (.inr ?_)
   unfold Fl at f ⊢
   rw[<- f]
   exact bV fun q hq=>heq q (kq h hk (bP hq)).1
theorem Fu(h:Wd G T W)(hk:k < W.length):(fg G T W).getD k 0<=(fin G T W).2.getD k 0:=(lx h (lA h).2.1.off hk).2.2.1
def mx(P X:List Int):List Int:=List.zipWith max P X
theorem BU(hp:P.length=X.length)(q:Nat)(hn:0<=P.getD q 0\/q < P.length):(mx P X).getD q 0=max (P.getD q 0) (X.getD q 0):=by
 unfold mx
 by_cases hq:q < P.length
 ·rw[zG,List.getElem?_zipWith,zK hq,zK (by omega)]
  simp[hq,show q < X.length by omega]
 ·rw[fy (by simp;omega),fy (by omega),fy (by omega)]
  rfl
theorem vi(hp:P.length=X.length):(mx P X).length=P.length:=by unfold mx;simp;omega
theorem wo(p:Pn G T W P)(x:Pn G T W X):Off (mx P X):=fun q=>by
 rw[BU (by rw[p.len,x.len]) q (.inl (p.nn q))]
 have:=p.nn q
 unfold vl at this
 omega
theorem nq(p:Pn G T W P)(x:Pn G T W X)(hq:q < W.length):mm W (mx P X) q=max (P.getD q 0) (X.getD q 0):=by
 unfold mm
 rw[BU (by rw[p.len,x.len]) q (.inl (p.nn q))]
 have h1:=(p.bd q hq).2
 have h2:=(x.bd q hq).2
 omega
theorem p8(h:Wd G T W)(x:Pn G T W X)(r:Rs G T W X)(hk:k < W.length):(aW false G T W (mx (fg G T W) X)).getD k 0=(fg G T W).getD k 0:=by
 have p:=hU h
 obtain⟨_,i,_⟩:=lA h
 have hi:=bU h false hk
 rw[fT h false _ hk,show (fg G T W).getD k 0=ch (mm W (fin G T W).2) (amt false G T (bE false W k)) (lst false G T W (bE false W k)) k from fT h false _ hk]
 refine yv (aK h hi) (fun q hq=>?_) k
 have hq':=(kq h hk hq).1
 have hA:vl (aW false G T W (fin G T W).2) q=ch (mm W (fin G T W).2) (amt false G T (bE false W k)) (lst false G T W (bE false W k)) q:=hJ h hi hq
 rw[<- hA,nq p x hq']
 have h1:=Fu h hq'
 have h2:=Aj h x r hq'
 have h3:=(p.bd q hq').2
 have h4:=(x.bd q hq').2
 change (fg G T W).getD q 0<=_/\_
 unfold mm
 omega
theorem qp(h:Wd G T W)(x:Pn G T W X)(r:Rs G T W X)(hk:k < W.length):(aW true G T W (mx (fg G T W) X)).getD k 0=X.getD k 0:=by
 have p:=hU h
 obtain⟨_,i,_⟩:=lA h
 have hi:=bU h true hk
 rw[fT h true _ hk]
 refine Df (X:=vl X) (aK h hi) (fun q hq=>?_) (x.le_sm h hi) (fun q hq=>?_) k (bF h true hk)
 ·have hq':=(kq h hk hq).1
  rw[nq p x hq']
  have:=(x.bd q hq').1
  unfold vl
  omega
 ·obtain⟨hq',hpl⟩:=kq h hk hq
  rw[nq p x hq']
  by_cases e:X.getD q 0 < (fg G T W).getD q 0
  ·refine .inr ?_
   rcases r q hq' with z|z|z
   ·have:=(p.bd q hq').2
    omega
   ·exact absurd z (uB h x i.off (fun k hk=>Aj h x r hk) hq' e)
   ·unfold Fl at z
    rwa [hpl] at z
  ·refine .inl ?_
   unfold vl
   omega
theorem Dq(h:Wd G T W)(x:Pn G T W X)(r:Rs G T W X)(hi:i < (aw false G T).length):sm (lst false G T W i) (vl X)<=sm (lst false G T W i) (vl (fg G T W)):=by
 have p:=hU h
 rw[bV (f:=vl (fg G T W)) (g:=vl (aW false G T W (mx (fg G T W) X))) fun q hq=>(p8 h x r ((bj h hi).mp hq).1).symm,so h (wo p x) hi]
 have h1:=x.le_sm h hi
 have h2:sm (lst false G T W i) (vl X)<=sm (lst false G T W i) (mm W (mx (fg G T W) X)):=lG fun q hq=>by
  rw[nq p x ((bj h hi).mp hq).1]
  unfold vl
  omega
 omega
theorem CD(h:Wd G T W)(x:Pn G T W X)(r:Rs G T W X)(hi:i < (aw true G T).length):sm (lst true G T W i) (vl (fg G T W))<=sm (lst true G T W i) (vl X):=by
 have p:=hU h
 rw[bV (f:=vl X) (g:=vl (aW true G T W (mx (fg G T W) X))) fun q hq=>(qp h x r ((bj h hi).mp hq).1).symm,so h (wo p x) hi]
 have h1:=p.le_sm h hi
 have h2:sm (lst true G T W i) (vl (fg G T W))<=sm (lst true G T W i) (mm W (mx (fg G T W) X)):=lG fun q hq=>by
  rw[nq p x ((bj h hi).mp hq).1]
  unfold vl
  omega
 omega
theorem lH(h:Wd G T W)(b:Bool)(f:Nat->Int):((List.range (aw b G T).length).map fun i=>sm (lst b G T W i) f).sum=sm (List.range W.length) f:=by
 have key:∀n,n<=(aw b G T).length->((List.range n).map fun i=>sm (lst b G T W i) f).sum=sm ((List.range W.length).filter fun k=>decide (bE b W k < n)) f:=by
  intro n
  induction n with
  | zero =>
   intro _
   rw[show (List.range W.length).filter (fun k=>decide (bE b W k < 0))=[] from List.filter_eq_nil_iff.mpr fun k _=>by simp]
   rfl
  | succ n ih =>
   intro hn
   have hi:n < (aw b G T).length:=hn
   rw[vR,jA,List.sum_append,ih (by omega)]
   have e:∀l:List Nat,sm (l.filter fun k=>decide (bE b W k < n+1)) f=sm (l.filter fun k=>decide (bE b W k < n)) f+sm (l.filter fun k=>decide (bE b W k=n)) f:=by
    intro l
    induction l with
    | nil=>rfl
    | cons x l ih =>
     simp only[jW,zJ]
     by_cases c1:bE b W x < n
     ·rw[yL (by omega),yL c1,yN (by omega),aC,aC,ih]
      omega
     ·by_cases c2:bE b W x=n
      ·rw[yL (by omega),yN c1,yL c2,aC,aC,ih]
       omega
      ·rw[yN (by omega),yN c1,yN c2,ih]
   rw[e]
   have pm:(lst b G T W n).Perm ((List.range W.length).filter fun k=>decide (bE b W k=n)):=by
    refine (List.perm_ext_iff_of_nodup (aK h hi) (List.nodup_range.filter _)).mpr fun k=>?_
    rw[bj h hi,List.mem_filter,zS,zJ]
   rw[<- AF pm]
   simp
 rw[key _ (yM _),List.filter_eq_self.mpr fun k hk=>by simpa using bU h b (by simpa using hk)]
theorem tZ:∀ {l:List Nat}{f g:Nat->Int},(∀i∈l,f i<=g i)->(l.map g).sum<=(l.map f).sum->∀i∈l,f i=g i:=fun {l f g} h e i hi=>by
 refine Classical.byContradiction fun hn=>?_
 have:=tL (l:=l) (f:=f) (g:=g) h hi (by have:=h i hi;omega)
 unfold sm at this
 omega
theorem Cz{n m:Nat}{f g f' g':Nat->Int}(h1:∀i,i < n->f i<=g i)(h2:∀i,i < m->g' i<=f' i)(e1:((List.range n).map f).sum=S)(e2:((List.range m).map f').sum=S)(e3:((List.range n).map g).sum=S')(e4:((List.range m).map g').sum=S'):(∀i,i < n->f i=g i)/\∀i,i < m->f' i=g' i:=by
 have u0:sm (List.range n) f<=sm (List.range n) g:=lG fun i hi=>h1 i (List.mem_range.mp hi)
 have u1:sm (List.range m) g'<=sm (List.range m) f':=lG fun i hi=>h2 i (List.mem_range.mp hi)
 unfold sm at u0 u1
 exact⟨fun i hi=>tZ (fun i hi=>h1 i (List.mem_range.mp hi)) (by omega) i (List.mem_range.mpr hi),fun i hi=>(tZ (fun i hi=>h2 i (List.mem_range.mp hi)) (by omega) i (List.mem_range.mpr hi)).symm⟩
theorem oq(h:Wd G T W)(x:Pn G T W X)(r:Rs G T W X)(b:Bool)(hi:i < (aw b G T).length):l8 b W X i=l8 b W (fg G T W) i:=by
 obtain⟨t0,t1⟩:=Cz (fun i hi=>Dq (i:=i) h x r hi) (fun i hi=>CD (i:=i) h x r hi) (lH h false (vl X)) (lH h true (vl X)) (lH h false (vl (fg G T W))) (lH h true (vl (fg G T W)))
 rw[gY h hi,gY h hi]
 cases b with
 | false=>exact t0 i hi
 | true=>exact t1 i hi
end
section
variable {P X c off:List Int}
theorem nH(h:P.length=X.length)(e:∀k,k < P.length->P.getD k 0=X.getD k 0):P=X:=by
 apply jH h
 intro k h1 h2
 have:=e k h1
 simpa [h1,h2] using this
theorem Fs(h:Wd G T W)(x:Pn G T W X)(r:Rs G T W X):aW false G T W (mx (fg G T W) X)=fg G T W :=
 nH (by rw[eR,(hU h).len]) fun k hk=>p8 h x r (by rw[eR] at hk;exact hk)
theorem E8(h:Wd G T W)(x:Pn G T W X)(r:Rs G T W X):aW true G T W (mx (fg G T W) X)=X :=
 nH (by rw[eR,x.len]) fun k hk=>qp h x r (by rw[eR] at hk;exact hk)
end
section
theorem zip_rows:∀ {P X:List Int},P.length=X.length->g9 (P.map PyData.int) (X.map PyData.int)=(List.range P.length).map fun i=>.tuple [.int (P.getD i 0),.int (X.getD i 0)]
 | [],[],_=>rfl
 | [],_::_,h=>by simp at h
 | _::_,[],h=>by simp at h
 | x::P,y::X,h=>by
  rw[zI,zI,g9,zip_rows (P:=P) (X:=X) (by simpa using h),zL,vN,zI,zM]
  rfl
theorem Bb(hp:P.length=X.length)(hl:P.length<=1000):jn [ae P,ae X]=some (ae (mx P X)):=by
 refine aH ?_
 show p7 [.val (ae P),.val (ae X)]=_
 have hz:fx (aa (ab 0) (aa (ab 1) af)) [some (ae P),some (ae X)]=some ((List.range P.length).map fun i=>.tuple [.int (P.getD i 0),.int (X.getD i 0)]):=by
  rw[<- zip_rows hp]
  rfl
 have c:=iS (cs:=[]) (tt:=fun _=>some true) (te:=ba Bw (aa (ab 0) (aa (ab 1) af))) (p:=fun _=>true) (h:=fun i=>.int (max (P.getD i 0) (X.getD i 0))) hz hl fun i hi=>⟨rfl,fun _=>rfl⟩
 refine aO ?_
 show ba bx (aa (cf (aj 2 [] (fx (aa (ab 0) (aa (ab 1) af))) (fJ 0 1) (fun _=>some true) (ba Bw (aa (ab 0) (aa (ab 1) af))))) af) [some (ae P),some (ae X)]=_
 simp only[ba,aa,af,cf,zB,zA] at c ⊢
 rw[c]
 simp only[zB,zA,wk]
 rw[show (List.range P.length).filter (fun _=>true)=List.range P.length by simp]
 have e:mx P X=(List.range P.length).map fun i=>max (P.getD i 0) (X.getD i 0):=by
  refine nH (by rw[vi hp];simp) fun k hk=>?_
  rw[vi hp] at hk
  rw[BU hp k (.inr hk)]
  simp[hk]
 rw[e,ae,zM]
 rfl
theorem mi(h:Wd G T W)(hi:i < (aw b G T).length)(hp:P.length=W.length):dc [ax G T W,.int (sI b),nD i,ae P]=some (ae ((lst b G T W i).map (vl P))):=by
 have hw:=h.wl
 have hl:(lst b G T W i).length<=16:=by
  rw[(lP h hi).length_eq]
  exact yD (nF b W i) hw
 have ew:cN [ax G T W,.int (sI b),nD i]=some (.list ((lst b G T W i).map nD)):=mD h (iH hi)
 refine aH ?_
 show lU [.val (ax G T W),.val (.int (sI b)),.val (nD i),.val (ae P)]=_
 have c:aj 1 [3] (aP (ah 3 cN (aa (ab 0) (aa (ab 1) (aa (ab 2) af))))) (fG 0) (fun _=>some true) (f2 av (ab 1) (ab 0)) [some (ax G T W),some (.int (sI b)),some (nD i),some (ae P)]=some ((lst b G T W i).map fun q=>.int (P.getD q 0)) :=
  eV (oO ew rfl rfl) (by omega) fun q hq=>aE (mv (by rw[hp];exact ((bj h hi).mp hq).1)) rfl rfl
 refine aO ?_
 show ba bx (aa (cf (aj 1 [3] (aP (ah 3 cN (aa (ab 0) (aa (ab 1) (aa (ab 2) af))))) (fG 0) (fun _=>some true) (f2 av (ab 1) (ab 0)))) af) [some (ax G T W),some (.int (sI b)),some (nD i),some (ae P)]=_
 rw[mP (d:=.list ((lst b G T W i).map fun q=>.int (P.getD q 0))) (by simp only[cf,c,zB]),wk,ae,zM]
 rfl
theorem GM(h:Wd G T W)(hi:i < (aw b G T).length)(off:List Int):(lst b G T W i).map (vl (l9 W off (amt b G T i) (lst b G T W i)))=(lst b G T W i).map (vl (aW b G T W off)) :=
 yH fun q hq=>by
  rw[hJ h hi hq]
  unfold vl l9
  rw[wg _ _ _ (aK h hi) (fun j hj=>by rw[xM];exact ((bj h hi).mp hj).1),yL hq]
theorem lz(h:Wd G T W)(hi:i < (aw b G T).length)(p:P.length=W.length)(x:X.length=W.length):cH [ax G T W,.int (sI b),nD i,ae P,ae X]=some (.bool (decide ((lst b G T W i).map (vl (aW b G T W (mx P X)))=(lst b G T W i).map (vl P)))):=by
 have hw:=h.wl
 have hm:(mx P X).length=W.length:=by rw[vi (by rw[p,x]),p]
 have ec:bO [ax G T W,.int (sI b),nD i,ae (mx P X)]=some (ae (l9 W (mx P X) (amt b G T i) (lst b G T W i))):=iG h hm (iH hi)
 have eg:=Bb (P:=P) (X:=X) (by rw[p,x]) (by rw[p];omega)
 have hc:(l9 W (mx P X) (amt b G T i) (lst b G T W i)).length=W.length:=nN _ _ _ _
 have e1:=mi (P:=l9 W (mx P X) (amt b G T i) (lst b G T W i)) h hi hc
 rw[GM h hi] at e1
 have e2:=mi (P:=P) h hi p
 have hcall:∀ρ:Dl.Env,ab 0 ρ=some (ax G T W)->ab 1 ρ=some (.int (sI b))->ab 2 ρ=some (nD i)->ab 3 ρ=some (ae P)->ab 4 ρ=some (ae X)->(ah 4 bO (aa (ab 0) (aa (ab 1) (aa (ab 2) (aa (ah 2 jn (aa (ab 3) (aa (ab 4) af))) af))))) ρ=some (ae (l9 W (mx P X) (amt b G T i) (lst b G T W i))):=fun ρ a b c d e =>
  call_of ec (cons_of a (cons_of b (cons_of c (cons_of (call_of eg (cons_of d (cons_of e rfl)) rfl) rfl)))) rfl
 refine aH ?_
 show ie [.val (ax G T W),.val (.int (sI b)),.val (nD i),.val (ae P),.val (ae X),.non]=_
 unfold ie
 refine (ai (bg (hcall _ rfl rfl rfl rfl rfl) (hcall _ rfl rfl rfl rfl rfl) rfl)).trans ?_
 exact aO (aE (lV _ _) (call_of e1 rfl rfl) (call_of e2 rfl rfl))
theorem lK(h:Wd G T W)(p:Pn G T W P)(x:Pn G T W X):eO [ax G T W,ae P,ae X]=some .none:=by
 have:eQ [.val (ax G T W),.val (ae P),.val (ae X)]=some (.nx [.val (ax G T W),.val (ae P),.val (ae X)]):=by
  unfold eQ
  refine (ai (ck (call_of (gL h p) rfl rfl))).trans ?_
  exact ck (call_of (gL h x) rfl rfl)
 show (eQ [.val (ax G T W),.val (ae P),.val (ae X)]).map _=_
 rw[this]
 rfl
def cD(b:Bool)(G T:List Pl)(W:List Wy)(P X:List Int):Bool:=(List.range (aw b G T).length).all fun i=>decide ((lst b G T W i).map (vl (aW b G T W (mx P X)))=(lst b G T W i).map (vl P))
theorem cY(h:Wd G T W)(p:Pn G T W P)(x:Pn G T W X)(b:Bool):bp [ax G T W,.int (sI b),ae P,ae X]=some (.bool (cD b G T W P X)):=by
 have hl:=h.pl b
 refine aH ?_
 show kc [.val (ax G T W),.val (.int (sI b)),.val (ae P),.val (ae X)]=_
 unfold kc
 refine (ai (ck (call_of (lK h p x) rfl rfl))).trans ?_
 refine (ai (ck (call_of (hC b) rfl rfl))).trans ?_
 have c:aj 1 [0,1,2,3] (aL (aa (ba bw (aa (f2 av (ab 0) (ab 1)) af)) af)) (fG 0) (fun _=>some true) (ah 5 cH (aa (ab 1) (aa (ab 2) (aa (ab 0) (aa (ab 3) (aa (ab 4) af)))))) [some (ax G T W),some (.int (sI b)),some (ae P),some (ae X)]=some ((List.range (aw b G T).length).map fun i=>.bool (decide ((lst b G T W i).map (vl (aW b G T W (mx P X)))=(lst b G T W i).map (vl P)))) :=
  eV (kn (cons_of (rH (l:=aw b G T) (k:=bB) (aE (gT b G T W) rfl rfl)) rfl) (by omega)) (by rw[zR];omega) fun i hi=>call_of (lz h (by simpa using hi) p.len x.len) rfl rfl
 refine aO ?_
 show ba ju (aa (cf (aj 1 [0,1,2,3] (aL (aa (ba bw (aa (f2 av (ab 0) (ab 1)) af)) af)) (fG 0) (fun _=>some true) (ah 5 cH (aa (ab 1) (aa (ab 2) (aa (ab 0) (aa (ab 3) (aa (ab 4) af)))))))) af) [some (ax G T W),some (.int (sI b)),some (ae P),some (ae X)]=_
 rw[mP (d:=.list ((List.range (aw b G T).length).map fun i=>.bool (decide ((lst b G T W i).map (vl (aW b G T W (mx P X)))=(lst b G T W i).map (vl P))))) (by simp only[cf,c,zB]),mF]
 rfl
end
theorem mS(h:f ρ=some ds):cf f ρ=some (.list ds):=by
 simp only[cf,h,zB]
theorem nC(h:f ρ=some (.list ds)):aP f ρ=some ds:=by
 simp only[aP,h,zA,fN]
theorem Dt(h:fs ρ=some ds)(hl:ds.length<=1000):eA fs ρ=some ds:=by
 simp only[eA,h,zA,bh (show ds.length<=4000 by omega)]
theorem jl(h:t ρ=some false):cn t u ρ=some false:=by
 simp only[cn,h,zA]
theorem fu(h:t ρ=some true)(h2:u ρ=some b):cn t u ρ=some b:=by
 simp only[cn,h,zA,h2]
theorem uE{l:List Nat}:SeqAt.shaped (.list (l.map nD))=true :=
 (gJ.lst (b:=l.length) (k:=0) (by simp) fun x hx=>by obtain⟨i,_,rfl⟩:=List.mem_map.mp hx;exact gZ _).shaped (by decide)
theorem uL(hf:f ρ=some (ax G T W))(hg:g ρ=some (.int (sI b))):(aa (ba bw (aa (f2 av f g) af)) af) ρ=some [nD (aw b G T).length] :=
 cons_of (rH (l:=aw b G T) (k:=bB) (aE (gT b G T W) hf hg)) rfl
section
end
section
end
structure Wk(G T G' T':List Pl):Prop where
 len:∀b,(aw b G' T').length=(aw b G T).length
 lik:∀b i,(bZ b G' T' i).2=(bZ b G T i).2
 gv:∀i,amt false G' T' i<=amt false G T i
 tk:∀i,amt true G T i<=amt true G' T' i
section
end
section
variable {P X off:List Int}
theorem iK(h:Wd G T W)(b:Bool)(hi:i < (aw b G T).length):dQ [ax G T W,.int (sI b),nD i]=some .none:=by
 have:dJ [.val (ax G T W),.val (.int (sI b)),.val (nD i)]=some (.nx [.val (ax G T W),.val (.int (sI b)),.val (nD i)]):=by
  unfold dJ
  refine (ai (ck (call_of (hC b) rfl rfl))).trans ?_
  exact ck (call_of (iL (n:=((aw b G T).length:Nat)) (i:=(i:Nat)) (by omega) (by omega)) (cons_of rfl (cons_of (rH (l:=aw b G T) (k:=bB) (aE (gT b G T W) rfl rfl)) rfl)) rfl)
 show (dJ [.val (ax G T W),.val (.int (sI b)),.val (nD i)]).map _=_
 rw[this]
 rfl
end
def sY(l:Int)(fs:List (List Int)):List (List Int):=(fs.map fun r=>(List.range (l+1).toNat).map fun m=>r++[((m:Nat):Int)]).flatten
def Av:List Wy->List (List Int)->List (List Int)
 | [],fs=>fs
 | w::W,fs=>Av W (sY w.2.2 fs)
theorem sx:r∈sY l fs↔∃r'∈fs,∃v:Int,0<=v/\v<=l/\r=r'++[v]:=by
 unfold sY
 rw[List.mem_flatten]
 constructor
 ·rintro⟨L,hL,hr⟩
  obtain⟨r',h',rfl⟩:=List.mem_map.mp hL
  obtain⟨m,hm,rfl⟩:=List.mem_map.mp hr
  rw[zS] at hm
  exact⟨r',h',_,by omega,by omega,rfl⟩
 ·rintro⟨r',h',v,h0,h1,rfl⟩
  exact⟨_,List.mem_map.mpr ⟨r',h',rfl⟩,List.mem_map.mpr ⟨v.toNat,by rw[zS];omega,by rw[show ((v.toNat:Nat):Int)=v by omega]⟩⟩
theorem AD:∀ {W:List Wy}{fs:List (List Int)}{r:List Int},r∈Av W fs↔∃r'∈fs,∃q:List Int,q.length=W.length/\(∀k,k < W.length->0<=q.getD k 0/\q.getD k 0<=(aS W k).2.2)/\r=r'++q
 | [],fs,r=>by
  unfold Av
  constructor
  ·intro h
   exact⟨r,h,[],rfl,fun k hk=>by simp at hk,by simp⟩
  ·rintro⟨r',h',q,hq,_,rfl⟩
   have:q=[]:=List.length_eq_zero_iff.mp hq
   subst this
   simpa using h'
 | w::W,fs,r=>by
  rw[Av,AD]
  constructor
  ·rintro⟨r',h',q,hq,hb,rfl⟩
   obtain⟨r2,h2,v,h0,h1,rfl⟩:=sx.mp h'
   refine⟨r2,h2,v::q,by simp[hq],fun k hk=>?_,by simp⟩
   cases k with
   | zero=>exact⟨h0,h1⟩
   | succ k=>exact hb k (by simpa using hk)
  ·rintro⟨r',h',q,hq,hb,rfl⟩
   cases q with
   | nil=>simp at hq
   | cons v q =>
    refine⟨r'++[v],sx.mpr ⟨r',h',v,(hb 0 (by simp)).1,(hb 0 (by simp)).2,rfl⟩,q,by simpa using hq,fun k hk=>hb (k+1) (by simpa using hk),by simp⟩
theorem Aa(l:Int)(fs:List (List Int)):(sY l fs).length=fs.length * (l+1).toNat:=by
 unfold sY
 induction fs with
 | nil=>simp
 | cons r fs ih=>rw[zI,qM,zN,ih,zL,Nat.add_mul];simp;omega
section
def wB:ao->Option Out:=(rG 3 [2,4] (aj 1 [4] (aL (aa (f2 Dl.aI (f2 av (ab 2) (fC (.int 2))) (fC (.int 1))) af)) (fG 0) (fun _=>some true) (f2 Dl.aI (ab 1) (aV (aa (ab 0) af)))))
def ext(l:Int)(r:List Int):List (List Int):=(List.range (l+1).toNat).map fun m=>r++[((m:Nat):Int)]
theorem Ik{acc:List (List Int)}(hl:0<=w.2.2/\w.2.2<=9)(hr:r.length<=100)(ha:acc.length<=7000):wB [.val d,x1,.val (au w),.own (acc.map ae),.val (ae r)]=some (.nx [.val d,x1,.val (au w),.own ((acc++ext w.2.2 r).map ae),.val (ae r)]):=by
 have c:aj 1 [4] (aL (aa (f2 Dl.aI (f2 av (ab 2) (fC (.int 2))) (fC (.int 1))) af)) (fG 0) (fun _=>some true) (f2 Dl.aI (ab 1) (aV (aa (ab 0) af))) (bM [.val d,x1,.val (au w),.own (acc.map ae),.val (ae r)])=some ((List.range (w.2.2+1).toNat).map fun m=>ae (r++[((m:Nat):Int)])):=by
  refine eV (kn (n:=(w.2.2+1).toNat) (cons_of ?_ rfl) (by omega)) (by rw[zR];omega) fun m _=>aE (FP (a:=r) (b:=[((m:Nat):Int)]) (by simp;omega)) rfl (Lq rfl)
  rw[show nD (w.2.2+1).toNat=.int (w.2.2+1) by show PyData.int _=_;congr 1;omega]
  exact aE (fA w.2.2 1) (aE (sT w) rfl rfl) rfl
 have hh:hand [2,4] 0 [Slot.val d,x1,.val (au w),.own (acc.map ae),.val (ae r)]=[Slot.val d,x1,.val (au w),.own (acc.map ae),.val (ae r)]:=rfl
 have hz:(acc.map ae).length+((List.range (w.2.2+1).toNat).map fun m=>ae (r++[((m:Nat):Int)])).length<=sizeLine:=by
  rw[zD,zD,zR]
  exact yD (show acc.length+(w.2.2+1).toNat<=8000 by omega) (by decide)
 have e:(acc++ext w.2.2 r).map ae=acc.map ae++(List.range (w.2.2+1).toNat).map fun m=>ae (r++[((m:Nat):Int)]):=by
  rw[jA,ext,zM]
  rfl
 unfold wB rG
 rw[hh,c,zA,e]
 simp only[mT,yY,xQ,hz,xH,zB,zA]
 rfl
def wO:ao->Option Out:=(ar (aN 3 [] (eA af)) (ar (cy [1] (aP (ab 1)) (ig 4) wB) (Dl.az 1 [3] (ab 3))))
theorem Er(l:Int)(r:List Int)(fs:List (List Int)):sY l (r::fs)=ext l r++sY l fs:=by simp[sY,ext]
theorem CL(hl:0<=w.2.2/\w.2.2<=2):∀ (fs acc:List (List Int)) (x4:Slot),(∀r∈fs,r.length<=16)->acc.length+3 * fs.length<=7000->∃y4,cg (ig 4) wB (fs.map ae) [.val d,x1,.val (au w),.own (acc.map ae),x4]=some (.nx [.val d,x1,.val (au w),.own ((acc++sY w.2.2 fs).map ae),y4])
 | [],acc,x4,_,_=>⟨x4,by simp[sY,cg]⟩
 | r::fs,acc,x4,hr,hb=>by
  have he:(ext w.2.2 r).length<=3:=by unfold ext;rw[zD,zR];omega
  rw[zL] at hb
  obtain⟨y4,e⟩:=CL (d:=d) (x1:=x1) hl fs (acc++ext w.2.2 r) (.val (ae r)) (fun q hq=>hr q (zC _ hq)) (by rw[zN];omega)
  have h1:=Ik (d:=d) (x1:=x1) (w:=w) (acc:=acc) (r:=r) ⟨hl.1,by omega⟩ (by have:=hr r zE;omega) (by omega)
  have ht:ig 4 [.val d,x1,.val (au w),.own (acc.map ae),x4] (ae r)=some [.val d,x1,.val (au w),.own (acc.map ae),.val (ae r)]:=rfl
  refine⟨y4,?_⟩
  rw[zI,cg,ht,zA,h1]
  show cg (ig 4) wB (fs.map ae) _=_
  rw[e,Er,List.append_assoc]
theorem HQ(hl:0<=w.2.2/\w.2.2<=2)(hr:∀r∈fs,r.length<=16)(hf:fs.length<=2187)(h1:s1=.own (fs.map ae)\/s1=.val (.list (fs.map ae))):∃y3 y4,wO [.val d,s1,.val (au w),x3,x4]=some (.nx [.val d,.val (.list ((sY w.2.2 fs).map ae)),.val (au w),y3,y4]):=by
 obtain⟨y4,e⟩:=CL (d:=d) (x1:=.val (.list (fs.map ae))) hl fs [] x4 hr (by simp;omega)
 rw[xO] at e
 have t1:aN 3 [] (eA af) [.val d,s1,.val (au w),x3,x4]=some (.nx [.val d,s1,.val (au w),.own [],x4]):=gp (Dt (ds:=[]) rfl (by simp)) rfl
 have hh:hand [1] 0 [.val d,s1,.val (au w),.own [],x4]=[Slot.val d,.val (.list (fs.map ae)),.val (au w),.own [],x4]:=by
  rcases h1 with rfl|rfl<;>rfl
 unfold wO
 rw[ai t1]
 refine⟨.val (.list ((sY w.2.2 fs).map ae)),y4,?_⟩
 refine (ai (bR e rfl hh)).trans ?_
 exact kj (ρ':=[.val d,.val (.list (fs.map ae)),.val (au w),.val (.list ((sY w.2.2 fs).map ae)),y4]) rfl (d:=.list ((sY w.2.2 fs).map ae)) rfl rfl rfl (.inl rfl)
theorem Gw(h:∀r∈fs,r.length<=n):∀r∈sY l fs,r.length<=n+1:=fun r hr=>by
 obtain⟨r',h',v,_,_,rfl⟩:=sx.mp hr
 have:=h r' h'
 simp
 omega
theorem CZ:∀ (W:List Wy) (fs:List (List Int)) (s1 x2 x3 x4:Slot),(∀w∈W,0<=w.2.2/\w.2.2<=2)->fs.length * 3 ^ W.length<=2187->(∀r∈fs,r.length<=16 - W.length)->W.length<=16->(s1=.own (fs.map ae)\/s1=.val (.list (fs.map ae))) ->
  ∃s1' y2 y3 y4,cg (ig 2) wO (W.map au) [.val d,s1,x2,x3,x4]=some (.nx [.val d,s1',y2,y3,y4])/\(s1'=.own ((Av W fs).map ae)\/s1'=.val (.list ((Av W fs).map ae)))
 | [],fs,s1,x2,x3,x4,_,_,_,_,h1=>⟨s1,x2,x3,x4,rfl,h1⟩
 | w::W,fs,s1,x2,x3,x4,hl,hf,hr,hw,h1=>by
  rw[zL] at hf hr hw
  have hp:1<=3 ^ W.length:=Nat.one_le_pow _ _ (by omega)
  have hf1:fs.length<=2187:=by
   refine yD ?_ hf
   exact Nat.le_mul_of_pos_right _ (Nat.pow_pos (by omega))
  have hlw:=hl w zE
  obtain⟨y3,y4,e⟩:=HQ (d:=d) (x3:=x3) (x4:=x4) hlw (fun r hr'=>by have:=hr r hr';omega) hf1 h1
  have hll:(sY w.2.2 fs).length<=fs.length * 3:=by rw[Aa];exact Nat.mul_le_mul_left _ (by omega)
  obtain⟨s1',z2,z3,z4,e2,h2⟩:=CZ (d:=d) W (sY w.2.2 fs) (.val (.list ((sY w.2.2 fs).map ae))) (.val (au w)) y3 y4 (fun q hq=>hl q (zC _ hq)) (by
   refine yD (Nat.mul_le_mul_right _ hll) ?_
   rw[Nat.mul_assoc,<- Nat.pow_succ']
   exact hf) (fun r hr'=>by
   have:=Gw (n:=16 - (W.length+1)) hr r hr'
   omega) (by omega) (.inr rfl)
  have ht:ig 2 [.val d,s1,x2,x3,x4] (au w)=some [.val d,s1,.val (au w),x3,x4]:=rfl
  refine⟨s1',z2,z3,z4,?_,h2⟩
  rw[zI,cg,ht,zA,e]
  exact e2
theorem ES(hl:∀w∈W,0<=w.2.2/\w.2.2<=2)(hw:W.length<=7):eB [.tuple (W.map au)]=some (.list ((Av W [[]]).map ae)):=by
 obtain⟨s1',z2,z3,z4,e2,h2⟩:=CZ (d:=.tuple (W.map au)) W [[]] (.own ([[]].map ae)) .non .non .non hl (by
  rw[xC,Nat.one_mul]
  exact yD (Nat.pow_le_pow_right (by omega) hw) (by decide)) (fun r hr=>by simp at hr;subst hr;simp) (by omega) (.inl rfl)
 refine aH ?_
 show et [.val (.tuple (W.map au)),.non,.non,.non,.non]=_
 unfold et
 refine (ai (gp (ds:=[[]].map ae) (Dt (cons_of (tup_is (ds:=[]) rfl (by simp)) rfl) (by simp)) rfl)).trans ?_
 refine (ai (bR e2 rfl rfl)).trans ?_
 refine aO ?_
 rcases h2 with rfl|rfl<;>rfl
theorem oN:∀ (l:List α),(∀x∈l,tt (some (g x)::r)=some (q x)/\(q x=true->te (some (g x)::r)=some (f x)))->cR (fG 0) tt te (none::r) (l.map g)=some ((l.filter q).map f)
 | [],_=>rfl
 | x::l,h=>by
  have ih:=oN (tt:=tt) (te:=te) (r:=r) (g:=g) (f:=f) (q:=q) l fun y hy=>h y (zC _ hy)
  obtain⟨h1,h2⟩:=h x zE
  have hg:fG 0 (none::r) (g x)=some (some (g x)::r):=rfl
  rw[zI,cR,hg,zA,h1,zA,jW]
  cases e:q x with
  | true =>
   rw[yL rfl,yL rfl,h2 e,zA,ih]
   rfl
  | false =>
   rw[yN (by simp),yN (by simp),ih]
theorem mf{α:Type}{cs:List Nat}{fi:Dl.Env->Option (List D)}{tt:Dl.Env->Option Bool}{te:Dl.Env->Option D}{ρ:Dl.Env}{l:List α}{g f:α->D}{q:α->Bool}(hfi:fi ρ=some (l.map g))(hl:l.length<=3000)(hh:∀x∈l,tt (some (g x)::cs.map fun j=>(ρ[j]?).getD none)=some (q x)/\(q x=true->te (some (g x)::cs.map fun j=>(ρ[j]?).getD none)=some (f x))):aj 1 cs fi (fG 0) tt te ρ=some ((l.filter q).map f):=by
 have:=oN l hh
 simp only[aj,hfi,zA,eE,List.replicate,xF,xO,this]
 refine bh ?_
 rw[zD]
 refine yD (xP _ _) ?_
 omega
theorem Bg{α:Type}{cs:List Nat}{fi:Dl.Env->Option (List D)}{tt:Dl.Env->Option Bool}{te:Dl.Env->Option D}{ρ:Dl.Env}{l:List α}{g f:α->D}{q:α->Bool}(hfi:fi ρ=some (l.map g))(hl:l.length<=1000)(hh:∀x∈l,tt (some (g x)::cs.map fun j=>(ρ[j]?).getD none)=some (q x)/\(q x=true->te (some (g x)::cs.map fun j=>(ρ[j]?).getD none)=some (f x))):aj 1 cs fi (fG 0) tt te ρ=some ((l.filter q).map f):=mf hfi (by omega) hh
def mB:ao->Option Out:=(Dl.az 1 [1,2] (f2 Dl.eK (ab 1) (f2 Dl.aI (f2 av (ab 2) (fC (.int 2))) (fC (.int 1)))))
theorem Eg:∀ (W:List Wy) (p:Nat) (x2:Slot),(∀w∈W,0<=w.2.2/\w.2.2<=2)->p * 3 ^ W.length<=2187->∃p' y2,cg (ig 2) mB (W.map au) [.val d,.val (nD p),x2]=some (.nx [.val d,.val (nD p'),y2])/\p'<=2187
 | [],p,x2,_,hp=>⟨p,x2,rfl,by simpa using hp⟩
 | w::W,p,x2,hl,hp=>by
  have hlw:=hl w zE
  rw[zL] at hp
  have hp1:p<=2187:=yD (Nat.le_mul_of_pos_right _ (Nat.pow_pos (by omega))) hp
  obtain⟨p',y2,e,h2⟩:=Eg (d:=d) W (p * (w.2.2+1).toNat) (.val (au w)) (fun q hq=>hl q (zC _ hq)) (by
   refine yD (Nat.mul_le_mul_right _ (Nat.mul_le_mul_left p (show (w.2.2+1).toNat<=3 by omega))) ?_
   rw[Nat.mul_assoc,<- Nat.pow_succ']
   exact hp)
  have ht:ig 2 [.val d,.val (nD p),x2] (au w)=some [.val d,.val (nD p),.val (au w)]:=rfl
  have hm:mB [.val d,.val (nD p),.val (au w)]=some (.nx [.val d,.val (nD (p * (w.2.2+1).toNat)),.val (au w)]):=by
   have hv:nD (p * (w.2.2+1).toNat)=.int (((p:Nat):Int) * (w.2.2+1)):=by
    show PyData.int _=_
    rw[Int.natCast_mul,show (((w.2.2+1).toNat:Nat):Int)=w.2.2+1 by omega]
   rw[hv]
   unfold mB
   exact cL (aE (dh (.inl ⟨by omega,by omega⟩)) rfl (aE (fA _ _) (aE (sT w) rfl rfl) rfl)) rfl
  refine⟨p',y2,?_,h2⟩
  rw[zI,cg,ht,zA,hm]
  exact e
theorem sE(hl:∀w∈W,0<=w.2.2/\w.2.2<=2)(hw:W.length<=7):gQ [ax G T W]=some .none:=by
 obtain⟨p',y2,e,h2⟩:=Eg (d:=ax G T W) W 1 .non hl (by rw[Nat.one_mul];exact yD (Nat.pow_le_pow_right (by omega) hw) (by decide))
 have:eI [.val (ax G T W),.non,.non]=some (.nx [.val (ax G T W),.val (nD p'),y2]):=by
  unfold eI
  refine (ai (cL (d:=.int 1) rfl rfl)).trans ?_
  refine (ai (bR e rfl rfl)).trans ?_
  exact cP (bb (aE ((fS _ _).trans (by rw[zZ (by omega)])) rfl rfl))
 show (eI [.val (ax G T W),.non,.non]).map _=_
 rw[this]
 rfl
def DJ(G T:List Pl)(W:List Wy):List (List Int):=(Av W [[]]).filter (Ju G T W)
def allR(G T:List Pl)(W:List Wy):List (List Int):=(DJ G T W).filter fun P=>decide (He G T W P=[])
theorem zp:r∈Av W [[]]↔r.length=W.length/\∀k,k < W.length->0<=r.getD k 0/\r.getD k 0<=(aS W k).2.2:=by
 rw[AD]
 constructor
 ·rintro⟨r',h',q,hq,hb,rfl⟩
  simp at h'
  subst h'
  exact⟨hq,hb⟩
 ·rintro⟨h1,h2⟩
  exact⟨[],by simp,r,h1,h2,rfl⟩
theorem uD:X∈DJ G T W↔Pn G T W X:=by
 unfold DJ
 rw[List.mem_filter,zp]
 constructor
 ·rintro⟨⟨h1,h2⟩,h3⟩
  exact (rK h1).mp h3
 ·intro p
  exact⟨⟨p.len,p.bd⟩,(rK p.len).mpr p⟩
theorem tI(h:Wd G T W):X∈allR G T W↔Pn G T W X/\Rs G T W X:=by
 unfold allR
 rw[List.mem_filter,uD,zJ]
 constructor
 ·rintro⟨p,r⟩
  exact⟨p,(uj h p).mp r⟩
 ·rintro⟨p,r⟩
  exact⟨p,(uj h p).mpr r⟩
theorem rT:∀ (W:List Wy) (fs:List (List Int)),(∀w∈W,0<=w.2.2/\w.2.2<=2)->(Av W fs).length<=fs.length * 3 ^ W.length
 | [],fs,_=>by simp[Av]
 | w::W,fs,hl=>by
  rw[Av]
  refine yD (rT W _ fun q hq=>hl q (zC _ hq)) ?_
  have:=hl w zE
  rw[Aa,zL,Nat.pow_succ',<- Nat.mul_assoc]
  exact Nat.mul_le_mul_right _ (Nat.mul_le_mul_left _ (by omega))
theorem uM(h:Wd G T W)(hl:∀w∈W,0<=w.2.2/\w.2.2<=2)(hw:W.length<=7):iT [ax G T W]=some (.list ((DJ G T W).map ae))/\(Av W [[]]).length<=2187:=by
 have hlen:(Av W [[]]).length<=2187:=by
  have:=rT W [[]] hl
  rw[xC,Nat.one_mul] at this
  exact yD this (yD (Nat.pow_le_pow_right (by omega) hw) (by decide))
 refine⟨?_,hlen⟩
 refine aH ?_
 show iU [.val (ax G T W)]=_
 unfold iU
 refine (ai (ck (call_of (dO h) rfl rfl))).trans ?_
 refine (ai (ck (call_of (sE hl hw) rfl rfl))).trans ?_
 refine aO (mS (mf (g:=ae) (f:=ae) (q:=Ju G T W) (oO (ES hl hw) (cons_of (aE (rh G T W) rfl rfl) rfl) rfl) (by omega) fun x hx=>⟨?_,fun _=>rfl⟩))
 obtain⟨h1,h2⟩:=zp.mp hx
 exact bb (call_of (qx h h1 fun k=>by
  by_cases hk:k < W.length
  ·have a:=h2 k hk
   have b:=(h.wr _ (EI hk)).2.2.2
   omega
  ·rw[fy (by omega)]
   omega) rfl rfl)
theorem rJ(h:Wd G T W)(hl:∀w∈W,0<=w.2.2/\w.2.2<=2)(hw:W.length<=7):dS [ax G T W]=some (.list ((allR G T W).map ae))/\(allR G T W).length<=2187:=by
 obtain⟨e,hlen⟩:=uM h hl hw
 have hp:(DJ G T W).length<=2187:=yD (xP _ _) hlen
 refine⟨?_,yD (xP _ _) hp⟩
 refine aH ?_
 show iQ [.val (ax G T W)]=_
 unfold iQ
 refine aO (mS (mf (g:=ae) (f:=ae) (q:=fun P=>decide (He G T W P=[])) (oO e rfl rfl) (by omega) fun x hx=>⟨?_,fun _=>rfl⟩))
 have p:=uD.mp hx
 exact bb (call_of (vh h p.len (p.smP h)) rfl rfl)
theorem tx(h:Wd G T W)(hl:∀w∈W,0<=w.2.2/\w.2.2<=2)(hw:W.length<=4):dS [ax G T W]=some (.list ((allR G T W).map ae))/\(allR G T W).length<=81:=by
 refine⟨(rJ h hl (by omega)).1,?_⟩
 refine yD (xP _ _) (yD (xP _ _) ?_)
 have:=rT W [[]] hl
 rw[xC,Nat.one_mul] at this
 exact yD this (yD (Nat.pow_le_pow_right (by omega) hw) (by decide))
end
section
theorem As(h:∀q∈l,f q<=g q)(e:sm l g<=sm l f):∀q∈l,f q=g q:=fun q hq=>by
 refine Classical.byContradiction fun hn=>?_
 have:=tL (l:=l) (f:=f) (g:=g) h hq (by have:=h q hq;omega)
 omega
theorem o8(h:Wd G T W)(x:Pn G T W X)(r:Rs G T W X)(b:Bool)(hi:i < (aw b G T).length)(hs:l8 b W (fg G T W) i < amt b G T i)(hq:q∈lst b G T W i):X.getD q 0=(fg G T W).getD q 0:=by
 have p:=hU h
 have ts:=oq h x r b hi
 rw[gY h hi,gY h hi] at ts
 rw[gY h hi] at hs
 have hm:∀q∈lst b G T W i,mm W (mx (fg G T W) X) q=max ((fg G T W).getD q 0) (X.getD q 0):=fun q hq=>nq p x ((bj h hi).mp hq).1
 have tot:=so h (wo p x) hi
 cases b with
 | false =>
  rw[Fs h x r] at tot
  have e1:=As (l:=lst false G T W i) (f:=vl (fg G T W)) (g:=mm W (mx (fg G T W) X)) (fun q hq=>by rw[hm q hq];unfold vl;omega) (by omega)
  have e2:=As (l:=lst false G T W i) (f:=vl X) (g:=vl (fg G T W)) (fun q hq=>by have:=e1 q hq;rw[hm q hq] at this;unfold vl at *;omega) (by omega)
  exact e2 q hq
 | true =>
  rw[E8 h x r] at tot
  have e1:=As (l:=lst true G T W i) (f:=vl X) (g:=mm W (mx (fg G T W) X)) (fun q hq=>by rw[hm q hq];unfold vl;omega) (by omega)
  have e2:=As (l:=lst true G T W i) (f:=vl (fg G T W)) (g:=vl X) (fun q hq=>by have:=e1 q hq;rw[hm q hq] at this;unfold vl at *;omega) (by omega)
  exact (e2 q hq).symm
end
section
def nz(b:Bool)(G T:List Pl)(W:List Wy)(P:List Int):List Int:=(List.range (aw b G T).length).map fun (i:Nat)=>l8 b W P ((i:Nat):Int)
theorem DU:(nz b G T W P).length=(aw b G T).length:=by simp[nz]
theorem Gp(hi:i < (aw b G T).length):(nz b G T W P).getD i 0=l8 b W P i:=by simp[nz,hi]
theorem jz(h:Wd G T W)(p:Pn G T W P)(b:Bool):dH [ax G T W,ae P,.int (sI b)]=some (ae (nz b G T W P)):=by
 have hl:=h.pl b
 refine aH ?_
 show fV [.val (ax G T W),.val (ae P),.val (.int (sI b))]=_
 unfold fV
 have c:aj 1 [0,1,2] (aL (aa (ba bw (aa (f2 av (ab 0) (ab 2)) af)) af)) (fG 0) (fun _=>some true) (ah 4 b9 (aa (ab 1) (aa (ab 2) (aa (ab 3) (aa (ab 0) af))))) [some (ax G T W),some (ae P),some (.int (sI b))]=some ((List.range (aw b G T).length).map fun (i:Nat)=>.int (l8 b W P ((i:Nat):Int))) :=
  eV (kn (uL (b:=b) rfl rfl) (by omega)) (by rw[zR];omega) fun i _=>call_of (mQ h p.len (p.smP h) b i) rfl rfl
 refine aO ?_
 show ba bx (aa (cf (aj 1 [0,1,2] (aL (aa (ba bw (aa (f2 av (ab 0) (ab 2)) af)) af)) (fG 0) (fun _=>some true) (ah 4 b9 (aa (ab 1) (aa (ab 2) (aa (ab 3) (aa (ab 0) af))))))) af) [some (ax G T W),some (ae P),some (.int (sI b))]=_
 rw[mP (mS c),wk]
 unfold nz ae
 rw[zM]
 rfl
theorem ux(h:Wd G T W):ph [ax G T W]=some (.tuple [ae (nz false G T W (fg G T W)),ae (nz true G T W (fg G T W))]):=by
 refine aH ?_
 show oW [.val (ax G T W),.non]=_
 unfold oW
 refine (ai (bg (call_of (Cf h) rfl rfl) (call_of (Cf h) rfl rfl) rfl)).trans ?_
 exact aO (tup_is (cons_of (call_of (jz h (hU h) false) rfl rfl) (cons_of (call_of (jz h (hU h) true) rfl rfl) rfl)) (by simp))
def shr(b:Bool)(G T:List Pl)(W:List Wy):List Nat:=(List.range (aw b G T).length).filter fun (i:Nat)=>decide (l8 b W (fg G T W) ((i:Nat):Int) < amt b G T i)
theorem AG(h:Wd G T W)(b:Bool):nK [ax G T W,.int (sI b)]=some (.list ((shr b G T W).map nD)):=by
 have hl:=h.pl b
 refine aH ?_
 show sO [.val (ax G T W),.val (.int (sI b)),.non]=_
 unfold sO
 refine (ai (ck (call_of (dO h) rfl rfl))).trans ?_
 refine (ai (ck (call_of (hC b) rfl rfl))).trans ?_
 have hix:av (.tuple [ae (nz false G T W (fg G T W)),ae (nz true G T W (fg G T W))]) (.int (sI b))=some (ae (nz b G T W (fg G T W))):=by cases b<;>rfl
 refine (ai (bg (aE hix (call_of (ux h) rfl rfl) rfl) (aE hix (call_of (ux h) rfl rfl) rfl) rfl)).trans ?_
 have he:bz (aa (f2 av (ab 0) (ab 1)) af) [some (ax G T W),some (.int (sI b)),some (ae (nz b G T W (fg G T W)))]=some ((List.range (aw b G T).length).map fun i=>.tuple [nD i,bB (bZ b G T i)]):=by
  have:=oR (aw b G T)
  unfold bZ
  rw[<- this]
  cases b<;>rfl
 refine aO (mS ?_)
 exact iS (cs:=[2]) (x:=nD) (y:=fun i=>bB (bZ b G T i)) (p:=fun i=>decide (l8 b W (fg G T W) i < amt b G T i)) (h:=nD) he (by omega) fun i hi=>⟨bb (aE (jq (l8 b W (fg G T W) i) (amt b G T i)) (aE ((mv (by rw[DU];exact hi)).trans (by rw[Gp hi])) rfl rfl) (aE (a:=bB (bZ b G T i)) (b:=.int 0) rfl rfl rfl)),fun _=>rfl⟩
end
theorem Cp(l:List Nat)(k:Int):((l.map nD).any fun z=>PyData.eqv z (.int k))=decide (∃i∈l,((i:Nat):Int)=k):=by
 induction l with
 | nil=>simp
 | cons i l ih =>
  have e:PyData.eqv (nD i) (.int k)=decide (((i:Nat):Int)=k):=by
   have:=oU [((i:Nat):Int)] [k]
   rw[ae,ae,PyData.eqv] at this
   simpa [PyData.eqvAll] using this
  rw[zI,vE,ih,e]
  simp
theorem Be(l:List Nat)(k:Int):vo (.int k) (.list (l.map nD))=some (.bool (decide (∃i∈l,((i:Nat):Int)=k))):=by
 have hs:SeqAt.shaped (.int k)=true:=(gZ (b:=1) (k:=0) k).shaped (by decide)
 simp only[vo,LJ,hs,uE,jO,xH,Cp,zB]
def sh(k q:Nat):Nat:=if q < k then q else q+1
def nk(k:Nat):Nat->Bool:=fun q=>!decide (q=k)
section
variable {G T:List Pl}{W:List Wy}{P X:List Int}{b:Bool}{i k q:Nat}
end
theorem Du:∀ {l:List Nat}{a:Int},l.Nodup->(∀q∈l,0<=X q)->sm l X<=a->(∀q∈l,Y q=ch m a l q)->(∀q∈l,m q=max (Y q) (X q))->lexLt (l.map Y) (l.map X)=false
 | [],_,_,_,_,_,_=>rfl
 | q::r,a,hn,h0,hs,hY,hm=>by
  rw[kR] at hn
  have e:=hY q zE
  rw[aZ] at e
  have em:=hm q zE
  have hr:0<=sm r X:=lu fun x hx=>h0 x (zC _ hx)
  rw[aC] at hs
  show HT.lexLt (Y q::_) (X q::_)=false
  rw[HT.cA]
  by_cases z:Y q=X q
  ·rw[yL z]
   refine Du (m:=m) (a:=a - min (m q) a) hn.2 (fun x hx=>h0 x (zC _ hx)) (by omega) (fun x hx=>?_) fun x hx=>hm x (zC _ hx)
   have hne:x≠q:=fun y=>hn.1 (y ▸ hx)
   rw[hY x (zC _ hx),aY hne]
  ·rw[yN z,zZ (by omega)]
section
def pE(b:Bool)(G T:List Pl)(W:List Wy)(i:Nat)(P:List Int):List Int:=(lst b G T W i).map (vl P)
theorem Dz(h:Wd G T W)(p:Pn G T W P)(hi:i < (aw b G T).length):i8 [ax G T W,.int (sI b),nD i,ae P]=some (ae (pE b G T W i P)):=by
 refine aH ?_
 show xh [.val (ax G T W),.val (.int (sI b)),.val (nD i),.val (ae P)]=_
 unfold xh
 refine (ai (ck (call_of (gL h p) rfl rfl))).trans ?_
 refine (ai (ck (call_of (iK h b hi) rfl rfl))).trans ?_
 exact aO (call_of (mi h hi p.len) rfl rfl)
theorem gm{a c:List Int}(h:lexLt a c=false)(h2:lexLt c a=false):a=c:=oV (by unfold lexLe;rw[h2];rfl) (by unfold lexLe;rw[h];rfl)
end
section
variable {G T:List Pl}{W:List Wy}{X Y Z:List Int}{b:Bool}{i k q:Nat}
def Fi(b:Bool)(G T:List Pl)(W:List Wy)(X:List Int)(i q:Nat):Prop:=sm (up (lst b G T W i) q) (vl X)=amt b G T i
def Lk(b:Bool)(G T:List Pl)(W:List Wy)(X Y:List Int)(i:Nat):Prop:=∀q∈lst b G T W i,vl X q < vl Y q->Fi b G T W X i q
theorem lZ(h:Wd G T W)(x:Pn G T W X)(y:Pn G T W Y)(hi:i < (aw b G T).length):(lst b G T W i).map (vl (aW b G T W (mx X Y)))=(lst b G T W i).map (vl X)↔Lk b G T W X Y i:=by
 have e:∀q∈lst b G T W i,vl (aW b G T W (mx X Y)) q=ch (mm W (mx X Y)) (amt b G T i) (lst b G T W i) q:=fun q hq=>hJ (off:=mx X Y) h hi hq
 have em:∀q∈lst b G T W i,mm W (mx X Y) q=max (vl X q) (vl Y q):=fun q hq=>nq x y ((bj h hi).mp hq).1
 constructor
 ·intro z q hq hlt
  have z':∀p∈lst b G T W i,ch (mm W (mx X Y)) (amt b G T i) (lst b G T W i) p=vl X p:=fun p hp=>by
   rw[<- e p hp]
   exact List.map_inj_left.mp z p hp
  have:=rg (m:=mm W (mx X Y)) (a:=amt b G T i) (aK h hi) hq (by rw[z' q hq,em q hq];omega)
  unfold Fi
  rw[<- this]
  exact bV fun p hp=>(z' p (bP hp)).symm
 ·intro z
  refine yH fun q hq=>?_
  rw[e q hq]
  refine Df (aK h hi) (fun p hp=>⟨x.nn p,by rw[em p hp];omega⟩) (x.le_sm h hi) (fun p hp=>?_) q hq
  rcases Int.lt_or_le (vl X p) (vl Y p) with c|c
  ·exact .inr (z p hp c)
  ·exact .inl (by rw[em p hp];omega)
theorem HJ{l:List Nat}{k q:Nat}(hn:l.Nodup)(hk:k∈l)(hq:q∈up l k){f:Nat->Int}(h0:∀p∈l,0<=f p):sm (up l q) f<=sm (up l k) f:=by
 have hql:=bP hq
 obtain⟨ys,e1,e2⟩:=nM (tO (k:=k) hn) hq
 have e3:up (up l k) q=up l q:=by
  have hs:∀ {l:List Nat},l.Nodup->k∈l->q∈up l k->up (up l k) q=up l q:=fun {l}=>by
   induction l with
   | nil=>intro _ z;cases z
   | cons a l ih =>
    intro hn hk hq
    rw[kR] at hn
    by_cases ea:k=a
    ·subst ea
     rw[bS] at hq ⊢
     rw[yJ] at hq
     subst hq
     rw[bS,bS]
    ·have hk':k∈l:=by
      rcases List.mem_cons.mp hk with z|z
      ·exact absurd z ea
      ·exact z
     rw[cI ea] at hq ⊢
     by_cases eq:q=a
     ·subst eq
      rw[bS,bS]
     ·have hq':q∈up l k:=by
       rcases List.mem_cons.mp hq with z|z
       ·exact absurd z eq
       ·exact z
      rw[cI eq,cI eq,ih hn.2 hk' hq']
  exact hs hn hk hq
 rw[e3] at e1
 rw[e1,mR]
 have:0<=sm ys f:=lu fun p hp=>h0 p (bP (k:=k) (by rw[e1];exact yE _ hp))
 omega
theorem xk(h:Wd G T W)(x:Pn G T W X)(hi:i < (aw b G T).length)(hq:q∈lst b G T W i):sm (up (lst b G T W i) q) (vl X)<=amt b G T i:=by
 obtain⟨h1,h2⟩:=(bj h hi).mp hq
 have:=Hj h x b h1
 rw[h2] at this
 exact this
theorem Lk.dom(h:Wd G T W)(x:Pn G T W X)(y:Pn G T W Y)(hi:i < (aw b G T).length)(z:Lk b G T W X Y i)(hk:k∈lst b G T W i):sm (up (lst b G T W i) k) (vl Y)<=sm (up (lst b G T W i) k) (vl X):=by
 by_cases e:∃q∈up (lst b G T W i) k,vl X q < vl Y q
 ·obtain⟨q,h1,h2⟩:=e
  have h3:=z q (bP h1) h2
  have h4:=HJ (f:=vl X) (aK h hi) hk h1 fun p _=>x.nn p
  have h5:=xk h y hi hk
  unfold Fi at h3
  omega
 ·refine lG fun q hq=>?_
  rcases Int.lt_or_le (vl X q) (vl Y q) with c|c
  ·exact absurd ⟨q,hq,c⟩ e
  ·exact c
theorem Lk.trans(h:Wd G T W)(x:Pn G T W X)(y:Pn G T W Y)(hi:i < (aw b G T).length)(z1:Lk b G T W X Y i)(z2:Lk b G T W Y Z i):Lk b G T W X Z i:=fun q hq hlt=>by
 rcases Int.lt_or_le (vl X q) (vl Y q) with c|c
 ·exact z1 q hq c
 ·have h1:=z2 q hq (by omega)
  have h2:=z1.dom h x y hi hq
  have h3:=xk h x hi hq
  unfold Fi at h1 ⊢
  omega
def BO(b:Bool)(G T:List Pl)(W:List Wy)(X Y:List Int)(i:Nat):Prop:=∃q∈lst b G T W i,vl X q < vl Y q/\Fi b G T W X i q
theorem Fi.zero(h:Wd G T W)(x:Pn G T W X)(hi:i < (aw b G T).length)(hq:q∈lst b G T W i)(f:Fi b G T W X i q)(hk:k∈lst b G T W i)(hp:0 < vl X k):k∈up (lst b G T W i) q:=by
 refine Classical.byContradiction fun hn=>?_
 obtain⟨ys,e,_⟩:=nM (aK h hi) hq
 have hs:=x.le_sm h hi
 have hm:k∈ys:=by
  have hk:=hk
  rw[e] at hk
  rcases List.mem_append.mp hk with z|z
  ·exact absurd z hn
  ·exact z
 have h1:=xg (f:=vl X) (fun p _=>x.nn p) hm
 have h2:sm (lst b G T W i) (vl X)=sm (up (lst b G T W i) q) (vl X)+sm ys (vl X):=by
  rw[<- mR,<- e]
 unfold Fi at f
 omega
theorem sy(h:Wd G T W)(x:Pn G T W X)(y:Pn G T W Y)(hi:i < (aw b G T).length)(u:BO b G T W X Y i)(v:BO b G T W Y X i):False:=by
 obtain⟨q,q1,q2,q3⟩:=u
 obtain⟨p,p1,p2,p3⟩:=v
 have h1:=q3.zero h x hi q1 p1 (by have:=y.nn p;omega)
 have h2:=p3.zero h y hi p1 q1 (by have:=x.nn q;omega)
 have:=nB (aK h hi) h1 h2
 subst this
 omega
def cz(b:Bool)(G T:List Pl)(W:List Wy)(X Y:List Int)(i:Nat):Int:=@ite _ (BO b G T W X Y i) (Classical.propDecidable _) 1 (@ite _ (BO b G T W Y X i) (Classical.propDecidable _) (-1) 0)
theorem Hv(b:Bool)(G T:List Pl)(W:List Wy)(X Y:List Int)(i:Nat):-1<=cz b G T W X Y i/\cz b G T W X Y i<=1:=by
 unfold cz
 split
 ·omega
 ·split<;>omega
theorem rP(u:BO b G T W X Y i):cz b G T W X Y i=1:=yL u
theorem Hh(h:Wd G T W)(x:Pn G T W X)(y:Pn G T W Y)(hi:i < (aw b G T).length)(u:BO b G T W Y X i):cz b G T W X Y i=-1:=by
 unfold cz
 rw[yN fun v=>sy h x y hi v u,yL u]
theorem HG(e:cz b G T W X Y i=-1):BO b G T W Y X i:=by
 unfold cz at e
 split at e
 ·omega
 ·split at e
  ·assumption
  ·omega
theorem uy(c:Int)(f:Nat->Int):∀l:List Nat,sm l (fun q=>c * f q)=c * sm l f
 | []=>by simp[sm]
 | q::l=>by rw[aC,aC,uy c f l,Int.mul_add]
theorem yl(f g:Nat->Int):∀l:List Nat,sm l (fun q=>f q - g q)=sm l f - sm l g
 | []=>rfl
 | q::l=>by rw[aC,aC,aC,yl f g l];omega
theorem yj(f g:Nat->Int):∀l:List Nat,sm l (fun q=>f q+g q)=sm l f+sm l g
 | []=>rfl
 | q::l=>by rw[aC,aC,aC,yj f g l];omega
theorem CP(h:Wd G T W)(x:Pn G T W X)(r:Rs G T W X)(y:Pn G T W Y)(s:Rs G T W Y)(hi:i < (aw b G T).length):sm (lst b G T W i) (vl X)=sm (lst b G T W i) (vl Y):=by
 rw[<- gY h hi,<- gY h hi,oq h x r b hi,oq h y s b hi]
theorem Lp:∀l:List Int,(∀v∈l,v=0)->l.sum=0
 | [],_=>rfl
 | v::l,h=>by rw[kC,h v zE,Lp l fun u hu=>h u (zC _ hu)];rfl
theorem DC(h:Wd G T W)(x:Pn G T W X)(r:Rs G T W X)(y:Pn G T W Y)(s:Rs G T W Y)(b:Bool):sm (List.range W.length) (fun q=>cz b G T W X Y (bE b W q) * (vl Y q - vl X q))=0:=by
 rw[<- lH h b]
 refine Lp _ fun v hv=>?_
 obtain⟨i,hi,rfl⟩:=List.mem_map.mp hv
 have hi:i < (aw b G T).length:=List.mem_range.mp hi
 rw[bV (g:=fun q=>cz b G T W X Y i * (vl Y q - vl X q)) fun q hq=>by rw[((bj h hi).mp hq).2],uy,yl,CP h x r y s hi]
 simp
theorem mV(h:Wd G T W)(hq:q < W.length)(hl:vl X q < vl Y q)(f:Fl b G T W X q):BO b G T W X Y (bE b W q):=⟨q,bF h b hq,hl,f⟩
theorem Ci(h:Wd G T W)(r:Rs G T W X)(y:Pn G T W Y)(hq:q < W.length)(hl:vl X q < vl Y q):Fl false G T W X q\/Fl true G T W X q:=by
 rcases r q hq with e|e|e
 ·have:=(y.bd q hq).2
  have e:vl X q=(aS W q).2.2:=e
  have:vl Y q<=(aS W q).2.2:=this
  omega
 ·exact .inl e
 ·exact .inr e
theorem AB(h:Wd G T W)(x:Pn G T W X)(r:Rs G T W X)(y:Pn G T W Y)(s:Rs G T W Y)(hq:q < W.length):0<=cz false G T W X Y (bE false W q) * (vl Y q - vl X q)+cz true G T W X Y (bE true W q) * (vl Y q - vl X q):=by
 have b1:=Hv false G T W X Y (bE false W q)
 have b2:=Hv true G T W X Y (bE true W q)
 rw[<- Int.add_mul]
 rcases Int.lt_trichotomy (vl X q) (vl Y q) with c|c|c
 ·refine Int.mul_nonneg ?_ (by omega)
  rcases Ci h r y hq c with f|f
  ·have:=rP (mV h hq c f)
   omega
  ·have:=rP (mV h hq c f)
   omega
 ·rw[c];simp
 ·refine Int.mul_nonneg_of_nonpos_of_nonpos ?_ (by omega)
  rcases Ci h s x hq c with f|f
  ·have:=Hh h x y (bU h false hq) (mV h hq c f)
   omega
  ·have:=Hh h x y (bU h true hq) (mV h hq c f)
   omega
theorem F6(h:Wd G T W)(x:Pn G T W X)(r:Rs G T W X)(y:Pn G T W Y)(s:Rs G T W Y)(hq:q < W.length)(hne:vl X q≠vl Y q):cz false G T W X Y (bE false W q)+cz true G T W X Y (bE true W q)=0:=by
 have e:=yj (fun q=>cz false G T W X Y (bE false W q) * (vl Y q - vl X q)) (fun q=>cz true G T W X Y (bE true W q) * (vl Y q - vl X q)) (List.range W.length)
 rw[DC h x r y s,DC h x r y s] at e
 have:=xg (l:=List.range W.length) (f:=fun q=>cz false G T W X Y (bE false W q) * (vl Y q - vl X q)+cz true G T W X Y (bE true W q) * (vl Y q - vl X q)) (fun p hp=>AB h x r y s (List.mem_range.mp hp)) (List.mem_range.mpr hq)
 have h2:=AB h x r y s hq
 have h3:(cz false G T W X Y (bE false W q)+cz true G T W X Y (bE true W q)) * (vl Y q - vl X q)=0:=by rw[Int.add_mul];omega
 rcases Int.mul_eq_zero.mp h3 with z|z
 ·exact z
 ·exact absurd (by omega) hne
theorem flip(h:Wd G T W)(x:Pn G T W X)(r:Rs G T W X)(y:Pn G T W Y)(s:Rs G T W Y)(hq:q < W.length)(hl:vl X q < vl Y q):∃b,Fl b G T W X q/\BO (!b) G T W Y X (bE (!b) W q):=by
 have z:=F6 h x r y s hq (by omega)
 rcases Ci h r y hq hl with f|f
 ·have:=rP (mV h hq hl f)
  exact⟨false,f,HG (by show cz true G T W X Y (bE true W q)=-1;omega)⟩
 ·have:=rP (mV h hq hl f)
  exact⟨true,f,HG (by show cz false G T W X Y (bE false W q)=-1;omega)⟩
theorem El(h:Wd G T W)(x:Pn G T W X)(r:Rs G T W X)(y:Pn G T W Y)(s:Rs G T W Y)(hi:i < (aw b G T).length)(n:¬ BO b G T W Y X i):Lk b G T W X Y i:=fun q hq hl=>by
 obtain⟨h1,h2⟩:=(bj h hi).mp hq
 obtain⟨c,f,u⟩:=flip h x r y s h1 hl
 by_cases e:c=b
 ·subst e
  unfold Fl at f
  rw[h2] at f
  exact f
 ·have e:(!c)=b:=by cases c<;>cases b<;>first|rfl|exact absurd rfl e
  rw[e,h2] at u
  exact absurd u n
theorem D3(h:Wd G T W)(x:Pn G T W X)(r:Rs G T W X)(y:Pn G T W Y)(s:Rs G T W Y)(hi:i < (aw b G T).length)(l:Lk b G T W X Y i):¬ BO b G T W Y X i:=fun ⟨p,p1,p2,p3⟩=>by
 have d:=l.dom h x y hi p1
 have d2:=xk h x hi p1
 have p3':sm (up (lst b G T W i) p) (vl Y)=amt b G T i:=p3
 obtain⟨q,q1,q2⟩:=Hx (l:=up (lst b G T W i) p) (f:=vl X) (g:=vl Y) (p:=p) (by omega) (nU p1) p2
 have f:=l q (bP q1) q2
 have z:=f.zero h x hi (bP q1) p1 (by have:=y.nn p;omega)
 have:=nB (aK h hi) z q1
 subst this
 omega
theorem KG(h:Wd G T W)(x:Pn G T W X)(r:Rs G T W X)(y:Pn G T W Y)(s:Rs G T W Y)(hi:i < (aw b G T).length):Lk b G T W X Y i\/Lk b G T W Y X i:=by
 by_cases u:BO b G T W Y X i
 ·exact .inr (El h y s x r hi fun v=>sy h x y hi v u)
 ·exact .inl (El h x r y s hi u)
theorem zy(h:Wd G T W)(x:Pn G T W X)(r:Rs G T W X)(y:Pn G T W Y)(s:Rs G T W Y)(l:∀i,i < (aw b G T).length->Lk b G T W X Y i){j:Nat}(hj:j < (aw (!b) G T).length):Lk (!b) G T W Y X j :=
 El h y s x r hj fun ⟨q,q1,q2,q3⟩=>by
  obtain⟨h1,h2⟩:=(bj h hj).mp q1
  obtain⟨c,f,u⟩:=flip h x r y s h1 q2
  have hc:=bU h (!c) h1
  by_cases e:c=b
  ·subst e
   rw[h2] at u
   exact sy h x y hj ⟨q,q1,q2,q3⟩ u
  ·have e:(!c)=b:=by cases c<;>cases b<;>first|rfl|exact absurd rfl e
   rw[e] at u hc
   exact D3 h x r y s hc (l _ hc) u
theorem GB(h:Wd G T W)(x:Pn G T W X)(r:Rs G T W X)(y:Pn G T W Y)(s:Rs G T W Y)(hi:i < (aw b G T).length)(l:Lk b G T W X Y i)(m:Lk b G T W Y X i)(hq:q∈lst b G T W i):vl X q=vl Y q:=by
 have key:∀ {X Y:List Int},Pn G T W X->Rs G T W X->Pn G T W Y->Rs G T W Y->Lk b G T W X Y i->Lk b G T W Y X i->¬ vl X q < vl Y q:=fun {X Y} x r y s l m c=>by
  obtain⟨h1,h2⟩:=(bj h hi).mp hq
  exact D3 h y s x r hi m ⟨q,hq,c,l q hq c⟩
 have h1:=key x r y s l m
 have h2:=key y s x r m l
 omega
end
namespace K41M
section
variable {G T:List Pl}{W:List Wy}{X Y Z P:List Int}{b:Bool}{i k q:Nat}
theorem CN(a c:List Int):Dl.tN (ae a) (ae c)=some (.bool (lexLt a c)):=by
 simp[Dl.tN,sZ,HK,ae,ij,bT]
structure Qt(G T:List Pl)(W:List Wy)(X:List Int):Prop where
 p:Pn G T W X
 r:Rs G T W X
theorem gU(h:Wd G T W)(x:Qt G T W X)(y:Qt G T W Y)(b:Bool):cD b G T W X Y=true↔∀i,i < (aw b G T).length->Lk b G T W X Y i:=by
 unfold cD
 rw[xG]
 constructor
 ·intro z i hi
  have:=z i (List.mem_range.mpr hi)
  rw[zJ] at this
  exact (lZ h x.p y.p hi).mp this
 ·intro z i hi
  rw[zJ]
  have hi:=List.mem_range.mp hi
  exact (lZ h x.p y.p hi).mpr (z i hi)
theorem BH(h:Wd G T W)(x:Qt G T W X)(y:Qt G T W Y):cD true G T W Y X=cD false G T W X Y:=by
 rw[kW,gU h y x,gU h x y]
 refine⟨fun z i hi=>?_,fun z i hi=>?_⟩
 ·exact zy (b:=true) h y.p y.r x.p x.r z hi
 ·exact zy (b:=false) h x.p x.r y.p y.r z hi
theorem Bp(h:Wd G T W)(x:Qt G T W X)(y:Qt G T W Y):(cD false G T W X Y&&cD false G T W Y X)=decide (X=Y):=by
 rw[kW,zF,gU h y x,gU h x y,zJ]
 constructor
 ·rintro⟨z1,z2⟩
  refine nH (by rw[x.p.len,y.p.len]) fun k hk=>?_
  rw[x.p.len] at hk
  have hi:=bU h false hk
  exact GB h x.p x.r y.p y.r hi (z1 _ hi) (z2 _ hi) (bF h false hk)
 ·rintro rfl
  exact⟨fun i _ q _ c=>by omega,fun i _ q _ c=>by omega⟩
theorem vv(h:Wd G T W)(x:Qt G T W X)(y:Qt G T W Y)(z:Qt G T W Z)(e1:cD false G T W X Y=true)(e2:cD false G T W Y Z=true):cD false G T W X Z=true:=by
 rw[gU h x y] at e1
 rw[gU h y z] at e2
 rw[gU h x z]
 exact fun i hi=>(e1 i hi).trans h x.p y.p hi (e2 i hi)
def D7(b:Bool)(G T:List Pl)(W:List Wy)(P X:List Int)(i:Nat):Bool:=decide ((lst b G T W i).map (vl (aW b G T W (mx P X)))=(lst b G T W i).map (vl P))
theorem Af(h:Wd G T W)(p:Pn G T W P)(x:Pn G T W X)(hi:i < (aw b G T).length):ji [ax G T W,.int (sI b),nD i,ae P,ae X]=some (.bool (D7 b G T W P X i)):=by
 refine aH ?_
 show sg [.val (ax G T W),.val (.int (sI b)),.val (nD i),.val (ae P),.val (ae X)]=_
 unfold sg
 refine (ai (ck (call_of (lK h p x) rfl rfl))).trans ?_
 refine (ai (ck (call_of (iK h b hi) rfl rfl))).trans ?_
 exact aO (call_of (lz h hi p.len x.len) rfl rfl)
theorem Gu(h:Wd G T W)(x:Pn G T W X)(y:Pn G T W Y)(hi:i < (aw b G T).length)(e:D7 b G T W X Y i=true):lexLt (pE b G T W i X) (pE b G T W i Y)=false:=by
 unfold D7 at e
 rw[zJ,List.map_inj_left] at e
 refine Du (m:=mm W (mx X Y)) (a:=amt b G T i) (aK h hi) (fun q _=>y.nn q) (y.le_sm h hi) (fun q hq=>?_) fun q hq=>nq x y ((bj h hi).mp hq).1
 rw[<- e q hq]
 exact hJ (off:=mx X Y) h hi hq
theorem C9(h:Wd G T W)(x:Pn G T W X)(y:Pn G T W Y)(hi:i < (aw b G T).length)(e:pE b G T W i X=pE b G T W i Y):D7 b G T W X Y i=true:=by
 unfold D7
 rw[zJ]
 unfold pE at e
 rw[List.map_inj_left] at e
 exact (lZ h x y hi).mpr fun q hq c=>by have:=e q hq;omega
theorem Jl(h:Wd G T W)(x:Qt G T W X)(y:Qt G T W Y)(hi:i < (aw b G T).length)(e:D7 b G T W X Y i=false):D7 b G T W Y X i=true:=by
 unfold D7 at e ⊢
 rw[zJ]
 rcases KG h x.p x.r y.p y.r hi with z|z
 ·rw[yA ((lZ h x.p y.p hi).mpr z)] at e
  cases e
 ·exact (lZ h y.p x.p hi).mpr z
abbrev en(d0:D)(G T:List Pl)(W:List Wy)(d2:D)(L:List (List Int))(x4 x5 x6 x7 x8 x9 x10 x11 x12:Slot):ao:=[.val d0,.val (ax G T W),.val d2,.val (.list (L.map ae)),x4,x5,x6,x7,x8,x9,x10,x11,x12]
def tB:ao->Option Out:=(fX (cn (fB (ab 6)) (cn (fB (ah 4 bp (aa (ab 1) (aa (fC (.int 0)) (aa (ab 5) (aa (ab 7) af)))))) (bc (fB (ah 4 bp (aa (ab 1) (aa (fC (.int 0)) (aa (ab 4) (aa (ab 7) af))))))))) (aG (fC (.bool false))) fO)
def pB:ao->Option Out:=(ar (Dl.az 11 [1,4,5,8,10] (aV (aa (ah 4 i8 (aa (ab 1) (aa (ab 8) (aa (ab 10) (aa (ab 4) af))))) (aa (ah 4 i8 (aa (ab 1) (aa (ab 8) (aa (ab 10) (aa (ab 5) af))))) af)))) (ar (Dl.az 12 [1,4,5,8,10] (ah 5 ji (aa (ab 1) (aa (ab 8) (aa (ab 10) (aa (ab 4) (aa (ab 5) af))))))) (ar (fX (ka (cn (fB (ab 12)) (fB (f2 Dl.tN (f2 av (ab 11) (fC (.int 0))) (f2 av (ab 11) (fC (.int 1)))))) (cn (fB (f2 vo (ab 10) (ab 9))) (fB (f2 mw (f2 av (ab 11) (fC (.int 0))) (f2 av (ab 11) (fC (.int 1))))))) (aG (fC (.bool false))) fO) (fX (ka (cn (fB (f2 bJ (f2 av (ab 11) (fC (.int 0))) (f2 av (ab 11) (fC (.int 1))))) (bc (fB (ab 12)))) (cn (bc (fB (ab 12))) (bc (fB (ah 5 ji (aa (ab 1) (aa (ab 8) (aa (ab 10) (aa (ab 5) (aa (ab 4) af)))))))))) (aG (fC (.bool false))) fO))))
def sB:ao->Option Out:=(ar (Dl.az 9 [1,8] (ah 2 nK (aa (ab 1) (aa (ab 8) af)))) (cy [1,8] (aL (aa (ba bw (aa (f2 av (ab 1) (ab 8)) af)) af)) (ig 10) pB))
def oB:ao->Option Out:=(ar (Dl.az 6 [1,4,5] (ah 4 bp (aa (ab 1) (aa (fC (.int 0)) (aa (ab 4) (aa (ab 5) af)))))) (ar (fX (ka (fB (f2 mw (ab 6) (ah 4 bp (aa (ab 1) (aa (fC (.int 1)) (aa (ab 5) (aa (ab 4) af))))))) (fB (f2 mw (iC (ab 6) (ah 4 bp (aa (ab 1) (aa (fC (.int 0)) (aa (ab 5) (aa (ab 4) af)))))) (f2 bJ (ab 4) (ab 5))))) (aG (fC (.bool false))) fO) (ar (cy [3] (aP (ab 3)) (ig 7) tB) (cy [] (aL (aa (fC (.int 2)) af)) (ig 8) sB))))
def aB:ao->Option Out:=(cy [3] (aP (ab 3)) (ig 5) oB)
theorem wy{d0 d2:D}{L:List (List Int)}{x6 x7 x11 x12:Slot}(h:Wd G T W)(x:Qt G T W X)(y:Qt G T W Y)(hi:i < (aw b G T).length):∃y11 y12,pB (en d0 G T W d2 L (.val (ae X)) (.val (ae Y)) x6 x7 (.val (.int (sI b))) (.val (.list ((shr b G T W).map nD))) (.val (nD i)) x11 x12)=some (.nx (en d0 G T W d2 L (.val (ae X)) (.val (ae Y)) x6 x7 (.val (.int (sI b))) (.val (.list ((shr b G T W).map nD))) (.val (nD i)) y11 y12)):=by
 have e11:∀ρ:Dl.Env,ab 1 ρ=some (ax G T W)->ab 8 ρ=some (.int (sI b))->ab 10 ρ=some (nD i)->ab 4 ρ=some (ae X)->ab 5 ρ=some (ae Y)->(aV (aa (ah 4 i8 (aa (ab 1) (aa (ab 8) (aa (ab 10) (aa (ab 4) af))))) (aa (ah 4 i8 (aa (ab 1) (aa (ab 8) (aa (ab 10) (aa (ab 5) af))))) af))) ρ=some (.tuple [ae (pE b G T W i X),ae (pE b G T W i Y)]):=fun ρ a1 a8 a10 a4 a5 =>
  tup_is (cons_of (call_of (Dz h x.p hi) (cons_of a1 (cons_of a8 (cons_of a10 (cons_of a4 rfl)))) rfl) (cons_of (call_of (Dz h y.p hi) (cons_of a1 (cons_of a8 (cons_of a10 (cons_of a5 rfl)))) rfl) rfl)) (by simp)
 have e12:=Af (b:=b) h x.p y.p hi
 have f0:∀ρ:Dl.Env,ab 11 ρ=some (.tuple [ae (pE b G T W i X),ae (pE b G T W i Y)])->f2 av (ab 11) (fC (.int 0)) ρ=some (ae (pE b G T W i X)):=fun ρ a=>aE (b:=.int 0) rfl a rfl
 have f1:∀ρ:Dl.Env,ab 11 ρ=some (.tuple [ae (pE b G T W i X),ae (pE b G T W i Y)])->f2 av (ab 11) (fC (.int 1)) ρ=some (ae (pE b G T W i Y)):=fun ρ a=>aE (b:=.int 1) rfl a rfl
 refine⟨.val (.tuple [ae (pE b G T W i X),ae (pE b G T W i Y)]),.val (.bool (D7 b G T W X Y i)),?_⟩
 unfold pB
 refine (ai (bg (e11 _ rfl rfl rfl rfl rfl) (e11 _ rfl rfl rfl rfl rfl) rfl)).trans ?_
 refine (ai (bg (call_of e12 rfl rfl) (call_of e12 rfl rfl) rfl)).trans ?_
 refine (ai (cP (xo ?_ ?_))).trans (cP (xo ?_ ?_))
 ·cases e:D7 b G T W X Y i with
  | false=>exact jl (bb rfl)
  | true=>exact fu (bb rfl) (bb (aE ((CN _ _).trans (by rw[Gu h x.p y.p hi e])) (f0 _ rfl) (f1 _ rfl)))
 ·have eg:=Be (shr b G T W) ((i:Nat):Int)
  by_cases e:∃j∈shr b G T W,((j:Nat):Int)=((i:Nat):Int)
  ·rw[yA e] at eg
   obtain⟨j,hj,ej⟩:=e
   obtain rfl:j=i:=by omega
   unfold shr at hj
   rw[List.mem_filter,zJ] at hj
   have es:pE b G T W j X=pE b G T W j Y:=by
    unfold pE
    refine yH fun q hq=>?_
    have h1:=o8 h x.p x.r b hi hj.2 hq
    have h2:=o8 h y.p y.r b hi hj.2 hq
    show X.getD q 0=Y.getD q 0
    rw[h1,h2]
   refine fu (bb (aE eg rfl rfl)) (bb (aE ((CG _ _).trans (by rw[yA es];rfl)) (f0 _ rfl) (f1 _ rfl)))
  ·rw[zZ e] at eg
   exact jl (bb (aE eg rfl rfl))
 ·by_cases e:pE b G T W i X=pE b G T W i Y
  ·refine fu (bb (aE ((lV _ _).trans (by rw[yA e])) (f0 _ rfl) (f1 _ rfl))) (cG (b:=true) (bb ?_))
   rw[<- C9 h x.p y.p hi e]
   rfl
  ·exact jl (bb (aE ((lV _ _).trans (by rw[zZ e])) (f0 _ rfl) (f1 _ rfl)))
 ·cases e:D7 b G T W X Y i with
  | true=>exact jl (cG (b:=true) (bb rfl))
  | false=>exact fu (cG (b:=false) (bb rfl)) (cG (b:=true) (bb (call_of ((Af (b:=b) h y.p x.p hi).trans (by rw[Jl h x y hi e])) rfl rfl)))
theorem CC{d0 d2:D}{L:List (List Int)}{x6 x7 x9 x10 x11 x12:Slot}(h:Wd G T W)(x:Qt G T W X)(y:Qt G T W Y)(b:Bool):∃y9 y10 y11 y12,sB (en d0 G T W d2 L (.val (ae X)) (.val (ae Y)) x6 x7 (.val (.int (sI b))) x9 x10 x11 x12)=some (.nx (en d0 G T W d2 L (.val (ae X)) (.val (ae Y)) x6 x7 (.val (.int (sI b))) y9 y10 y11 y12)):=by
 have hl:=h.pl b
 obtain⟨ρ1,e1,y10,y11,y12,rfl⟩:=yo (tgt:=ig 10) (gb:=pB) nD (fun _ ρ=>∃y10 y11 y12,ρ=en d0 G T W d2 L (.val (ae X)) (.val (ae Y)) x6 x7 (.val (.int (sI b))) (.val (.list ((shr b G T W).map nD))) y10 y11 y12) (aw b G T).length 0 (en d0 G T W d2 L (.val (ae X)) (.val (ae Y)) x6 x7 (.val (.int (sI b))) (.val (.list ((shr b G T W).map nD))) x10 x11 x12)
  (fun i ρ _ hi hρ=>by
   obtain⟨y10,y11,y12,rfl⟩:=hρ
   obtain⟨z11,z12,e⟩:=wy (d0:=d0) (d2:=d2) (L:=L) (x6:=x6) (x7:=x7) (x11:=y11) (x12:=y12) (b:=b) (i:=i) h x y (by omega)
   exact⟨_,_,rfl,e,_,_,_,rfl⟩) ⟨_,_,_,rfl⟩
 rw[<- List.range_eq_range'] at e1
 refine⟨.val (.list ((shr b G T W).map nD)),y10,y11,y12,?_⟩
 unfold sB
 refine (ai (bg (call_of (AG h b) rfl rfl) (call_of (AG h b) rfl rfl) rfl)).trans ?_
 exact bR e1 (kn (uL (b:=b) rfl rfl) (by omega)) rfl
theorem HX{d0 d2:D}{L:List (List Int)}{x8 x9 x10 x11 x12:Slot}(h:Wd G T W)(x:Qt G T W X)(y:Qt G T W Y)(z:Qt G T W Z):tB (en d0 G T W d2 L (.val (ae X)) (.val (ae Y)) (.val (.bool (cD false G T W X Y))) (.val (ae Z)) x8 x9 x10 x11 x12)=some (.nx (en d0 G T W d2 L (.val (ae X)) (.val (ae Y)) (.val (.bool (cD false G T W X Y))) (.val (ae Z)) x8 x9 x10 x11 x12)):=by
 unfold tB
 refine cP ?_
 cases e1:cD false G T W X Y with
 | false=>exact jl (bb rfl)
 | true =>
  cases e2:cD false G T W Y Z with
  | false=>exact fu (bb rfl) (jl (bb (call_of ((cY h y.p z.p false).trans (by rw[e2])) rfl rfl)))
  | true=>exact fu (bb rfl) (fu (bb (call_of ((cY h y.p z.p false).trans (by rw[e2])) rfl rfl)) (cG (b:=true) (bb (call_of ((cY h x.p z.p false).trans (by rw[vv h x y z e1 e2])) rfl rfl))))
theorem ub{tgt:ao->D->Option ao}{gb:ao->Option Out}{d:D}{ds:List D}{ρ ρ1 ρ2:ao}(h1:tgt ρ d=some ρ1)(h2:gb ρ1=some (.nx ρ2)):cg tgt gb (d::ds) ρ=cg tgt gb ds ρ2:=by rw[cg,h1,zA,h2];rfl
theorem wq{d0 d2:D}{L:List (List Int)}{x6 x7 x8 x9 x10 x11 x12:Slot}(h:Wd G T W)(hL:∀P∈L,Qt G T W P)(x:Qt G T W X)(y:Qt G T W Y):∃y6 y7 y8 y9 y10 y11 y12,oB (en d0 G T W d2 L (.val (ae X)) (.val (ae Y)) x6 x7 x8 x9 x10 x11 x12)=some (.nx (en d0 G T W d2 L (.val (ae X)) (.val (ae Y)) y6 y7 y8 y9 y10 y11 y12)):=by
 obtain⟨ρ1,e1,y7,rfl⟩:=e9 (tgt:=ig 7) (gb:=tB) (R:=fun (_:Unit) ρ=>∃y7,ρ=en d0 G T W d2 L (.val (ae X)) (.val (ae Y)) (.val (.bool (cD false G T W X Y))) y7 x8 x9 x10 x11 x12) ae (fun s _=>s) (l:=L) (s:=()) (ρ:=en d0 G T W d2 L (.val (ae X)) (.val (ae Y)) (.val (.bool (cD false G T W X Y))) x7 x8 x9 x10 x11 x12)
  (fun _ ρ P hP hρ=>by
   obtain⟨y7,rfl⟩:=hρ
   exact⟨_,_,rfl,HX h x y (hL P hP),_,rfl⟩) ⟨_,rfl⟩
 obtain⟨y9,y10,y11,y12,e2⟩:=CC (d0:=d0) (d2:=d2) (L:=L) (x6:=.val (.bool (cD false G T W X Y))) (x7:=y7) (x9:=x9) (x10:=x10) (x11:=x11) (x12:=x12) h x y false
 obtain⟨z9,z10,z11,z12,e3⟩:=CC (d0:=d0) (d2:=d2) (L:=L) (x6:=.val (.bool (cD false G T W X Y))) (x7:=y7) (x9:=y9) (x10:=y10) (x11:=y11) (x12:=y12) h x y true
 have ef:cg (ig 8) sB [.int (sI false),.int (sI true)] (en d0 G T W d2 L (.val (ae X)) (.val (ae Y)) (.val (.bool (cD false G T W X Y))) y7 x8 x9 x10 x11 x12)=some (.nx (en d0 G T W d2 L (.val (ae X)) (.val (ae Y)) (.val (.bool (cD false G T W X Y))) y7 (.val (.int (sI true))) z9 z10 z11 z12)):=by
  rw[ub (ρ1:=en d0 G T W d2 L (.val (ae X)) (.val (ae Y)) (.val (.bool (cD false G T W X Y))) y7 (.val (.int (sI false))) x9 x10 x11 x12) rfl e2,ub (ρ1:=en d0 G T W d2 L (.val (ae X)) (.val (ae Y)) (.val (.bool (cD false G T W X Y))) y7 (.val (.int (sI true))) y9 y10 y11 y12) rfl e3]
  rfl
 refine⟨.val (.bool (cD false G T W X Y)),y7,.val (.int (sI true)),z9,z10,z11,z12,?_⟩
 unfold oB
 refine (ai (bg (call_of (cY h x.p y.p false) rfl rfl) (call_of (cY h x.p y.p false) rfl rfl) rfl)).trans ?_
 refine (ai (cP (xo (bb (aE (pS _) rfl (call_of ((cY h y.p x.p true).trans (by rw[BH h x y])) rfl rfl))) (bb (aE (a:=.bool (decide (X=Y))) (pS _) ((y0 rfl (call_of (cY h y.p x.p false) rfl rfl)).trans (by rw[Bp h x y])) (aE (lV _ _) rfl rfl)))))).trans ?_
 refine (ai (bR e1 (nC rfl) rfl)).trans ?_
 exact bR ef (IY _) rfl
theorem Jq{d0 d2:D}{L:List (List Int)}{x5 x6 x7 x8 x9 x10 x11 x12:Slot}(h:Wd G T W)(hL:∀P∈L,Qt G T W P)(x:Qt G T W X):∃y5 y6 y7 y8 y9 y10 y11 y12,aB (en d0 G T W d2 L (.val (ae X)) x5 x6 x7 x8 x9 x10 x11 x12)=some (.nx (en d0 G T W d2 L (.val (ae X)) y5 y6 y7 y8 y9 y10 y11 y12)):=by
 obtain⟨ρ1,e1,y5,y6,y7,y8,y9,y10,y11,y12,rfl⟩:=e9 (tgt:=ig 5) (gb:=oB) (R:=fun (_:Unit) ρ=>∃y5 y6 y7 y8 y9 y10 y11 y12,ρ=en d0 G T W d2 L (.val (ae X)) y5 y6 y7 y8 y9 y10 y11 y12) ae (fun s _=>s) (l:=L) (s:=()) (ρ:=en d0 G T W d2 L (.val (ae X)) x5 x6 x7 x8 x9 x10 x11 x12)
  (fun _ ρ P hP hρ=>by
   obtain⟨y5,y6,y7,y8,y9,y10,y11,y12,rfl⟩:=hρ
   obtain⟨z6,z7,z8,z9,z10,z11,z12,e⟩:=wq (d0:=d0) (d2:=d2) (x6:=y6) (x7:=y7) (x8:=y8) (x9:=y9) (x10:=y10) (x11:=y11) (x12:=y12) h hL x (hL P hP)
   exact⟨_,_,rfl,e,_,_,_,_,_,_,_,_,rfl⟩) ⟨_,_,_,_,_,_,_,_,rfl⟩
 refine⟨y5,y6,y7,y8,y9,y10,y11,y12,?_⟩
 unfold aB
 exact bR e1 (nC rfl) rfl
theorem main(ns:List Int)(hl:ns.length<=63):gG [.list (ns.map PyData.int)]=some (.bool true):=by
 obtain⟨G,T,W,ew,h,few⟩:=uq (ns:=ns) (a:=0) (mo:=4) hl (by omega)
 have hw4:W.length<=4:=by have:=few.wm;omega
 obtain⟨er,hr⟩:=tx h (fun w hw=>⟨by have:=h.wr w hw;omega,few.w2 w hw⟩) hw4
 have hpos:0 < (allR G T W).length:=List.length_pos_of_mem ((tI h).mpr ⟨hU h,Io h⟩)
 have hd:=fun (k:Nat)=>eu (ns:=ns) (70+((k:Nat):Int)) (((allR G T W).length:Nat):Int) hl (by omega)
 obtain⟨ds,hds⟩:∃ds:List Int,ds=(List.range 3).map fun k=>dr ns (70+((k:Nat):Int)) (((allR G T W).length:Nat):Int):=⟨_,rfl⟩
 have hdl:ds.length=3:=by rw[hds];rfl
 have hdb:∀v∈hZ (dd ds),0<=v/\v.toNat < (allR G T W).length:=fun v hv=>by
  have hv:=(IS ds v).mp ((dA _).mem_iff.mp hv)
  rw[hds] at hv
  obtain⟨k,_,rfl⟩:=List.mem_map.mp hv
  have:=(hd k).2
  omega
 have hlen:(hZ (dd ds)).length<=3:=by
  rw[(dA _).length_eq]
  have:=firstMet_length_le (fun i=>ds.getD i 0) ds.length
  unfold dd
  omega
 have hL:∀P∈(hZ (dd ds)).map (fun v=>(allR G T W).getD v.toNat []),Qt G T W P:=fun P hP=>by
  obtain⟨v,hv,rfl⟩:=List.mem_map.mp hP
  have hv:=(hdb v hv).2
  have:=(tI h).mp (show (allR G T W).getD v.toNat []∈allR G T W by simp[hv])
  exact⟨this.1,this.2⟩
 have e3:∀ρ:Dl.Env,ab 0 ρ=some (cS ns)->ab 2 ρ=some (.list ((allR G T W).map ae))->(aj 1 [2] (aP (cf (eY (cf (aj 1 [0,2] (aL (aa (fC (.int 3)) af)) (fG 0) (fun _=>some true) (ah 3 ak (aa (ab 1) (aa (f2 aI (fC (.int 70)) (ab 0)) (aa (ba bw (aa (ab 2) af)) af))))))))) (fG 0) (fun _=>some true) (f2 av (ab 1) (ab 0))) ρ=some (((hZ (dd ds)).map (fun v=>(allR G T W).getD v.toNat [])).map ae):=fun ρ a0 a2=>by
  have a0':(ρ[0]?).getD none=some (cS ns):=a0
  have a2':(ρ[2]?).getD none=some (.list ((allR G T W).map ae)):=a2
  have c:=eV (ρ:=ρ) (fi:=aL (aa (fC (.int 3)) af)) (is:=List.range 3) (cs:=[0,2]) (te:=(ah 3 ak (aa (ab 1) (aa (f2 aI (fC (.int 70)) (ab 0)) (aa (ba bw (aa (ab 2) af)) af))))) (f:=fun k=>.int (dr ns (70+((k:Nat):Int)) (((allR G T W).length:Nat):Int))) (kn rfl (by omega)) (by simp) fun k hk=>by
   rw[zI,zI,yU,a0',a2']
   refine call_of (hd k).1 (cons_of rfl (cons_of (aE (fA 70 _) rfl rfl) (cons_of ?_ rfl))) rfl
   refine (mP (g:=bw) (f:=ab 2) (d:=.list ((allR G T W).map ae)) rfl).trans ?_
   show some (nD _)=_
   rw[zD]
  have c2:aP (cf (eY (cf (aj 1 [0,2] (aL (aa (fC (.int 3)) af)) (fG 0) (fun _=>some true) (ah 3 ak (aa (ab 1) (aa (f2 aI (fC (.int 70)) (ab 0)) (aa (ba bw (aa (ab 2) af)) af)))))))) ρ=some ((hZ (dd ds)).map PyData.int):=by
   refine nC (mS ?_)
   unfold eY
   rw[mS c,zA]
   have:(List.range 3).map (fun k:Nat=>PyData.int (dr ns (70+((k:Nat):Int)) (((allR G T W).length:Nat):Int)))=ds.map PyData.int:=by rw[hds,zM];rfl
   rw[this]
   simp only[o5,bT,zA,hdl]
   rfl
  have c3:=Bg (ρ:=ρ) (cs:=[2]) (tt:=fun _=>some true) (te:=f2 av (ab 1) (ab 0)) (g:=PyData.int) (f:=fun v=>ae ((allR G T W).getD v.toNat [])) (q:=fun _=>true) (l:=hZ (dd ds)) c2 (by omega) fun v hv=>⟨rfl,fun _=>by
   rw[zI,yU,a2']
   obtain⟨h0,h1⟩:=hdb v hv
   refine aE (a:=.list ((allR G T W).map ae)) (b:=.int v) ?_ rfl rfl
   rw[show PyData.int v=nD v.toNat by show PyData.int v=PyData.int ((v.toNat:Nat):Int);congr 1;omega]
   exact yi (f:=ae) (l:=allR G T W) (by simp[h1])⟩
  rw[List.filter_eq_self.mpr fun _ _=>rfl] at c3
  rw[zM]
  exact c3
 obtain⟨ρ1,e4,y4,y5,y6,y7,y8,y9,y10,y11,y12,rfl⟩:=e9 (tgt:=ig 4) (gb:=aB) (R:=fun (_:Unit) ρ=>∃y4 y5 y6 y7 y8 y9 y10 y11 y12,ρ=en (cS ns) G T W (.list ((allR G T W).map ae)) ((hZ (dd ds)).map (fun v=>(allR G T W).getD v.toNat [])) y4 y5 y6 y7 y8 y9 y10 y11 y12) ae (fun s _=>s) (l:=(hZ (dd ds)).map (fun v=>(allR G T W).getD v.toNat [])) (s:=()) (ρ:=en (cS ns) G T W (.list ((allR G T W).map ae)) ((hZ (dd ds)).map (fun v=>(allR G T W).getD v.toNat [])) .non .non .non .non .non .non .non .non .non)
  (fun _ ρ P hP hρ=>by
   obtain⟨y4,y5,y6,y7,y8,y9,y10,y11,y12,rfl⟩:=hρ
   obtain⟨z5,z6,z7,z8,z9,z10,z11,z12,e⟩:=Jq (d0:=cS ns) (d2:=.list ((allR G T W).map ae)) (x5:=y5) (x6:=y6) (x7:=y7) (x8:=y8) (x9:=y9) (x10:=y10) (x11:=y11) (x12:=y12) h hL (hL P hP)
   exact⟨_,_,rfl,e,_,_,_,_,_,_,_,_,_,rfl⟩) ⟨_,_,_,_,_,_,_,_,_,rfl⟩
 refine aH ?_
 show (ar (Dl.az 1 [0] (ah 3 bQ (aa (ab 0) (aa (fC (.int 0)) (aa (fC (.int 4)) af))))) (ar (Dl.az 2 [1] (ah 1 dS (aa (ab 1) af))) (ar (aN 3 [0,2] (aj 1 [2] (aP (cf (eY (cf (aj 1 [0,2] (aL (aa (fC (.int 3)) af)) (fG 0) (fun _=>some true) (ah 3 ak (aa (ab 1) (aa (f2 aI (fC (.int 70)) (ab 0)) (aa (ba bw (aa (ab 2) af)) af))))))))) (fG 0) (fun _=>some true) (f2 av (ab 1) (ab 0)))) (ar (cy [3] (aP (ab 3)) (ig 4) aB) (aG (fC (.bool true))))))) [.val (cS ns),.non,.non,.non,.non,.non,.non,.non,.non,.non,.non,.non,.non]=_
 refine (ai (bg (call_of ew rfl rfl) (call_of ew rfl rfl) rfl)).trans ?_
 refine (ai (bg (call_of er rfl rfl) (call_of er rfl rfl) rfl)).trans ?_
 refine (ai (gp (e3 _ rfl rfl) rfl)).trans ?_
 refine (ai (bR e4 (nC rfl) rfl)).trans ?_
 exact aO rfl
end
end K41M
end Wm
namespace K41
open PySem L2 Dl PySem.Spec PyProof.Rows Pg Hd PySem.W Rg0
theorem main(ns:List Int)(h:ns.length<=63):gG [.list (ns.map PyData.int)]=some (.bool true):=Wm.K41M.main ns h
theorem ins(P:Params){h:Heap}{mg:Str->Option Value}(X:(Kf P).In h)(G:h.Ns mainGlobals mg):Js (Kf P) mg:=⟨fun _ _ _=>by
 have B:∀x∈dg,mg x=none:=fun x hx=>mg_none_of X G (Dl.IG (by kernel_rfl) x hx)
 refine on (top 64) (f3 383 382 EX) ?_
 refine on (top 63) (f3 378 377 EX) ?_
 refine on (top 62) (f3 371 370 EX) ?_
 refine on (top 61) (f2 364 363 EX) ?_
 refine on (top 59) (f2 357 356 Ac) ?_
 refine on (top 58) (f1 352 351 Ac) ?_
 refine on (top 57) (f3 345 344 Ac) ?_
 refine on (top 56) (f1 340 339 Ac) ?_
 refine on (top 55) (f1 335 334 Ac) ?_
 refine on (top 54) (f1 330 329 Ac) ?_
 refine on (top 53) (f1 325 324 Ac) ?_
 refine on (top 50) (f4 318 317 zt) ?_
 refine on (top 49) (f4 311 310 zt) ?_
 refine on (top 48) (f5 306 305 zt) ?_
 refine on (top 47) (f3 299 298 zt) ?_
 refine on (top 46) (f5 292 291 zt) ?_
 refine on (top 45) (f4 285 284 zt) ?_
 refine on (top 44) (f2 280 279 zt) ?_
 refine on (top 42) (f1 275 274 Ai) ?_
 refine on (top 41) (f2 268 267 Ai) ?_
 refine on (top 40) (f1 261 260 Ai) ?_
 refine on (top 39) (f2 254 253 Ai) ?_
 refine on (top 38) (f3 247 246 Ai) ?_
 refine on (top 37) (f1 240 239 Ai) ?_
 refine on (top 36) (f3 235 234 Ai) ?_
 refine on (top 34) (f2 230 229 BP) ?_
 refine on (top 33) (f2 223 222 BP) ?_
 refine on (top 32) (f3 216 215 BP) ?_
 refine on (top 31) (f4 209 208 BP) ?_
 refine on (top 30) (f4 204 203 BP) ?_
 refine ol (top 29) AO "ways_of.<locals>.<lambda>" (l3 199 198 BP) ?_
 refine on (top 27) (f3 194 193 iy) ?_
 refine on (top 26) (f3 187 186 iy) ?_
 refine on (top 25) (f1 180 179 iy) ?_
 refine on (top 24) (f2 173 172 iy) ?_
 refine on (top 23) (f3 166 165 iy) ?_
 refine on (top 22) (f2 159 158 iy) ?_
 refine on (top 21) (f1 152 151 iy) ?_
 refine on (top 20) (f2 145 144 iy) ?_
 refine on (top 19) (f3 140 139 iy) ?_
 refine on (top 18) (f4 135 134 iy) ?_
 refine on (top 17) (f1 130 129 iy) ?_
 refine on (top 16) (f1 125 124 iy) ?_
 refine on (top 15) (f3 120 119 iy) ?_
 refine on (top 14) (f3 115 114 iy) ?_
 refine on (top 13) (f2 108 107 iy) ?_
 refine on (top 12) (f2 101 100 iy) ?_
 refine on (top 11) (f3 96 95 iy) ?_
 refine on (top 10) (f2 89 88 iy) ?_
 refine on (top 9) (f3 82 81 iy) ?_
 exact⟨Rf.Ma,(Rf.Cr ⟨273,mg_of X G (by kernel_rfl)⟩ (Rf.Cr ⟨275,mg_of X G (by kernel_rfl)⟩ (Rf.Cr ⟨592,mg_of X G (by kernel_rfl)⟩ Rf.Mw))),B,⟨_,X,G⟩⟩,iu.mg (f1 388 387 EX) X G⟩
theorem Nr(w:World):l5 (Kf w.params) [196]=true:=by kernel_rfl
end K41
open PySem PySem.W PyProof.Rows
theorem PySem.Challenge.cw_stillflow_k41_whole_sides_holds : PySem.Challenge.rw_stillflow_k41_whole_sides.Holds := by
 refine holds_law K41.L9 fun k1=>?_
 refine holds_open (XP:=XL K41.vw []) (YP:=K41.hk.says) K41.left K41.hk.of K41.hk.keeps (fun s e=>xl_of s (Bool.and_eq_true_iff.mp e).1) XL.keeps (by rfl) (by rfl) (by rfl) (fun s e=>recFacts_of (Bool.and_eq_true_iff.mp e).2) (by rfl) k1 (by decide +kernel) ⟨rfl,rfl,rfl,rfl,rfl,by decide +kernel⟩ ?hw ?hc
 case hw=>w_witness2
 case hc=>exact K41.walk (l:=PySem.Challenge.rw_stillflow_k41_whole_sides) (K:=K41.Kf) (ts:=[196]) rfl rfl rfl (fun w h Y=>⟨Y.1,Y.2⟩) K41.Nr (fun w=>K41.ins w.params) K41.main
