import PyProof.Rows.All
import Wide.All
import OpenK.AllK
import Wide.FinOn
import PyProof.EqAt
import PyProof.EqKinds
import PyProof.TupleCall
import Lean
import PyProof.Draws
import PyProof.ListRange
import PySem.SetTable
import KE.KIsAll
import PyProof.Rows.Range3
import PySem.Challenge.RW_stillflow_k70_desks
set_option Elab.async false
set_option linter.all false
set_option maxRecDepth 100000
set_option maxHeartbeats 4000000
set_option genInjectivity false
set_option genSizeOf false
set_option compiler.extract_closed false
local macro_rules|`(↑$x)=>`(some $x)
abbrev Γ:=@List
abbrev Δ:=@Option
abbrev Θ:=PySem.Value
abbrev Ξ:=PySem.Shared
abbrev Φ:=PySem.W.Frag
abbrev Ψ:=PySem.Addr
abbrev Ω:=PySem.Stmt
abbrev γ:=PySem.Expr
abbrev δ:=PySem.World
abbrev ε:=PySem.Program
abbrev ζ:=PySem.Scope
abbrev η:=PySem.FuncData
abbrev θ:=Bool
abbrev ι:=PySem.Heap
abbrev ξ:=PySem.Around
abbrev zA:=@Option.bind_some
abbrev zB:=@Option.map_some
abbrev zC:=@List.mem_cons_of_mem
abbrev zD:=@List.length_map
abbrev zE:=@List.mem_cons_self
abbrev zF:=@Bool.and_eq_true
abbrev zG:=@List.getD_eq_getElem?_getD
abbrev zH:=@List.size_toArray
abbrev zI:=@List.map_cons
abbrev zJ:=@decide_eq_true_eq
abbrev zK:=@List.getElem?_eq_getElem
abbrev zL:=@List.length_cons
abbrev zM:=@List.map_map
abbrev zN:=@List.length_append
abbrev zO:=@List.getElem?_map
abbrev zP:=@Nat.lt_of_lt_of_le
abbrev zQ:=@List.mem_map
abbrev zR:=@List.mem_cons
abbrev zS:=@List.length_range
abbrev zT:=@List.getElem?_eq_some_iff
abbrev zU:=@PySem.Heap.get?_push_of_some
abbrev zV:=@PySem.wpAny_bind
abbrev zW:=@PySem.wpAny_pure
abbrev zX:=@PySem.Heap.get?_push_size
abbrev zY:=@PySem.Heap.lt_size
abbrev zZ:=@decide_eq_false
abbrev yA:=@decide_eq_true
abbrev yB:=@List.lookup_cons
abbrev yC:=@List.length_set
abbrev yD:=@Nat.le_trans
abbrev yE:=@List.mem_append_right
abbrev yF:=@List.not_mem_nil
abbrev yG:=@Int.toNat_natCast
abbrev yH:=@List.map_congr_left
abbrev yI:=@List.foldl_cons
abbrev yJ:=@List.mem_singleton
abbrev yK:=@Option.some.injEq
abbrev yL:=@if_pos
abbrev yM:=@Nat.le_refl
abbrev yN:=@if_neg
abbrev yO:=@Bool.false_eq_true
abbrev yP:=@Bool.not_eq_true'
abbrev yQ:=@of_decide_eq_true
abbrev yR:=@Nat.ne_of_lt
abbrev yS:=@List.getElem?_append_left
abbrev yT:=@List.getElem?_append_right
abbrev yU:=@List.map_nil
abbrev yV:=@List.set_cons_zero
abbrev yW:=@List.set_cons_succ
abbrev yX:=@List.getElem?_replicate
abbrev yY:=@List.getElem?_cons_succ
abbrev yZ:=@Bool.false_ne_true
abbrev xA:=@PySem.wpAny_mono
abbrev xB:=@decide_eq_false_iff_not
abbrev xC:=@List.length_singleton
abbrev xD:=@Option.some.inj
abbrev xE:=@List.replicate_succ
abbrev xF:=@List.cons_append
abbrev xG:=@List.all_eq_true
abbrev xH:=@if_true
abbrev xI:=@List.getElem?_set
abbrev xJ:=@PySem.Heap.size_push
abbrev xK:=@List.length_nil
abbrev xM:=@List.length_replicate
abbrev xN:=@PySem.Heap.get?_update_other
abbrev xO:=@List.nil_append
abbrev xP:=@List.length_filter_le
abbrev xQ:=@List.getElem?_cons_zero
abbrev xR:=@PySem.wpAny_pyIter_tuple
abbrev xS:=@List.all_cons
abbrev xU:=@or_false
abbrev xV:=@Nat.zero_le
abbrev xW:=@PySem.wpAny_truthy_bool
abbrev xX:=@PySem.wpAny_holding
abbrev xY:=@Bool.not_true
abbrev xZ:=@Int.le_refl
abbrev qA:=@List.getElem_mem
abbrev qB:=@List.mem_of_getElem?
abbrev qC:=@PySem.wpAny_callSpecial?_slot
abbrev qD:=@Array.getD_eq_getD_getElem?
abbrev qE:=@Nat.lt_irrefl
abbrev qF:=@List.append_nil
abbrev qG:=@Option.getD_some
abbrev qH:=@List.length_drop
abbrev qJ:=@List.mem_append_left
abbrev qK:=@PySem.wpAny_pyIter_list
abbrev qL:=@PySem.wpAny_newObj_type
abbrev qM:=@PySem.F.plainAttrs_list
abbrev qN:=@if_false
abbrev qP:=@List.getElem_of_mem
abbrev qQ:=@PyProof.Rows.callWith_type1
abbrev qS:=@PySem.wpAny_field
abbrev qT:=@PySem.sizeLine_eq
abbrev qU:=@PySem.wpAny_call_entry
abbrev qV:=@PySem.call_meets
abbrev qX:=@PySem.wpAny_Call_Name_kw
abbrev qY:=@Nat.lt_of_le_of_lt
abbrev qZ:=@List.map_append
abbrev jA:=@Bool.or_eq_true
abbrev jB:=@congrArg
abbrev jC:=@Nat.zero_add
abbrev jD:=@List.pairwise_map
abbrev jE:=@PyProof.Rows.slot_tuple_getitem
abbrev jF:=@List.filterMap_cons
abbrev jG:=@List.ext_getElem
abbrev jH:=@Nat.ne_of_gt
abbrev jI:=@PySem.Calls.spliced_cons
abbrev jJ:=@PySem.wpAny_passesOwn
abbrev jK:=@Bool.true_and
abbrev jL:=@List.getElem?_eq_none
abbrev jM:=@Ne.symm
abbrev jN:=@Nat.lt_succ_of_lt
abbrev jO:=@and_self
abbrev jP:=@decide_true
abbrev jQ:=@PySem.F.slot_tuple_iterator_next
abbrev jR:=@PySem.codeAny_mono
abbrev jS:=@Nat.le_of_lt
abbrev jT:=@Int.le_trans
abbrev jU:=@Nat.le_add_right
abbrev jV:=@List.length_take
abbrev jW:=@List.filter_cons
abbrev jX:=@Array.getElem?_eq_getElem
abbrev jY:=@PySem.mem_of_lookup
abbrev jZ:=@PyProof.Rows.listUpdate_at
abbrev kA:=@List.sum_cons
abbrev kC:=@PyProof.Rows.get?_update_seq
abbrev kE:=@PySem.codeAny_builtin
abbrev kF:=@List.filter_map
abbrev kG:=@PySem.wpAny_seqItems
abbrev kH:=@PySem.Calls.spliced_nil
abbrev kJ:=@PySem.SeqAt.canLay_of_shaped
abbrev kK:=@List.take_of_length_le
abbrev kL:=@Option.getD_none
abbrev kM:=@Nat.lt_succ_self
abbrev kN:=@PySem.wpAny_newList
abbrev kO:=@PySem.wpAny_attempt
abbrev kP:=@List.getElem?_set_ne
abbrev kR:=@List.nodup_cons
abbrev kU:=@List.cons.injEq
abbrev kW:=@Bool.eq_iff_iff
abbrev kX:=@Bool.and_false
abbrev kY:=@PySem.wpAny_setField_rec
abbrev kZ:=@Int.emod_lt_of_pos
abbrev vA:=@List.drop_eq_getElem_cons
abbrev vB:=@List.foldl_append
abbrev vC:=@PySem.wpAny_standAt
abbrev vD:=@PySem.F.args_tuple_add_2
abbrev vE:=@PySem.wpAny_execs_cons
abbrev vF:=@List.range'_succ
abbrev vG:=@PySem.F.entry_tuple_add
abbrev vH:=@Int.eq_ofNat_of_zero_le
abbrev vI:=@PySem.wpAny_call
abbrev vJ:=@beq_iff_eq
abbrev vK:=@PyProof.Rows.listItems_at
abbrev vL:=@PySem.F.slot_tuple_add
abbrev vM:=@List.getElem?_set_self
abbrev vN:=@PySem.wpAny_execs_nil
abbrev vO:=@Nat.not_lt_zero
abbrev vP:=@List.range_succ
abbrev vQ:=@List.of_mem_zip
abbrev vR:=@Int.emod_nonneg
abbrev vS:=@PySem.F.slot_zip_next
abbrev vT:=@Nat.mul_le_mul
abbrev vU:=@PyProof.Rows.IntsAre.length
abbrev vV:=@Bool.false_and
abbrev vW:=@PySem.wpAny_loadName_local
abbrev vX:=@PySem.codeAny_call_builtin
abbrev vY:=@List.getD_cons_zero
abbrev vZ:=@List.getD_cons_succ
abbrev wA:=@Array.length_toList
abbrev wC:=@PySem.wpAny_rule
abbrev wD:=@PySem.wpAny_Name
abbrev wF:=@Option.isNone_none
abbrev wG:=@PySem.F.args_tuple_mul_2
abbrev wH:=@PySem.Code.quiet_builtin
abbrev wI:=@PySem.wpAny_typeOf
abbrev wJ:=@decide_false
abbrev wK:=@PySem.concat_meets
abbrev wL:=@Nat.lt_trans
abbrev wM:=@PySem.wpAny_pyIter_enum
abbrev wN:=@List.nodup_append
abbrev wQ:=@PySem.F.entry_tuple_mul
local macro_rules|`(tactic|simp?[$t,*] $[$l:location]?)=>`(tactic|simp only[$t,*] $[$l]?)
local macro_rules(kind:=«term{_}»)|s=>let a:Array (Lean.TSyntax `term):=s[1].getSepArgs.map (⟨·⟩);`(⟨$a,*⟩)
local macro_rules|`(tactic|let $p:term:=$e)=>do
 let rec f(n:Nat)(t:Lean.Syntax):Lean.MacroM (Lean.TSyntax `rcasesPat):=match n with
 |0=>Lean.Macro.throwUnsupported
 |n+1=>do
  let g(b:Array Lean.Syntax):Lean.MacroM (Lean.TSyntax `rcasesPat):=do
   let c<-b.mapM fun x=>do `(Lean.Parser.Tactic.rcasesPatLo|$(<-f n x):rcasesPat)
   `(rcasesPat|⟨$c,*⟩)
  match t with
  |`(⟨$b,*⟩)=>g b.getElems
  |`(($b,$c,*))=>g (#[b.raw]++c.getElems.map (·.raw))
  |`($x:ident)=>`(rcasesPat|$x:ident)
  |_=>`(rcasesPat|_)
 `(tactic|obtain $(<-f 9 p):rcasesPat:=$e)
local macro_rules|`(def $i:declId $s:optDeclSig $v:declVal)=>`(noncomputable def $i:declId $s:optDeclSig $v:declVal)
local macro_rules|`(abbrev $i:declId $s:optDeclSig $v:declVal)=>`(noncomputable abbrev $i:declId $s:optDeclSig $v:declVal)
namespace L2
open PySem
def eE(s:Ω):Arguments:=match s with
 |.FunctionDef _ a _ _ _ _ _ _ _ _=>a
 |_=>{posonlyargs:=[],args:=[],vararg:=none,kwonlyargs:=[],kw_defaults:=[],kwarg:=none,defaults:=[]}
def aP(s:Ω):Γ Ω:=match s with
 |.FunctionDef _ _ b _ _ _ _ _ _ _=>b
 |_=>[]
def ah(s:Ω):ζ:=match s with
 |.FunctionDef _ _ _ _ _ _ c _ _ _=>c
 |_=>{kind:=.function,names:=[],isGenerator:=false,isCoroutine:=false}
end L2
namespace Hd
open PySem L2 PySem.Spec PyProof.Rows
variable {N:Nat}
def en(P:Params)(x:String)(t:Nat)(v:Θ):DictEntry:={PyData.keyHash P<|Str.ofString x,.str (Str.ofString x) t,v}
def fo(x:Str)(st:Ω)(p:Θ)(c:Ψ):Obj:={.type "function",none,.func<|W.fnOf x x (eE st) (aP st) (ah st) .none .none .none p none (.ref c) .none,#[]}
def co(vs:Γ Θ):Obj:={.type "code",none,.fields vs.toArray,#[]}
def Ha(n:Nat):Θ:=if n=0 then .none else .ref n
def Sv(x:Str)(t l n a b c d e f u:Nat):Obj:=co [.str x t,.str x<|t+1,.str "/claim/cut.py"<|t+2,.int l 0,.int n 0,.int 0 0,.int 0 0,.int 3 0,Ha a,.bool true,.int 181 0,Ha b,Ha c,Ha d,Ha e,Ha f,.int u 0,.int l 0,.str "/claim/cut.py"<|u+1]
def P9(x:Str)(C ns m t u:Nat)(bs up s:Γ Θ):Obj:={.type "type",none,.cls {name:=x,bases:=bs,mro:=.ref C::(up++[.type "ValueError",.type "Exception",.type "BaseException",.type "object"]),ns:=ns,qualname:=x,subclasses:=s},#[↑(.ref m),none,↑(.str x t),↑(.str x u),↑(.builtin "ValueError.__new__"),↑(.bool true)]}
open PySem PySem.W L2
structure Acc where
 a:Nat
 t:Nat
 nm:Θ
 es:Γ DictEntry
 ts:Γ Θ
 os:Γ Obj
def Mn(q:NameKind)(sc:ζ):Γ Str:=sc.names.filterMap λ(x,k)=>if k=q then↑x else none
def Pu:Nat->Γ Str->Γ Θ
 |_,[]=>[]
 |t,x::l=>.str x t::Pu (t+1) l
def JX(vs:Γ Θ):Obj:={.type "tuple",none,.seq vs.toArray,#[]}
def Qz:Obj:={.none,none,.fields #[],#[]}
def QE(x:Str)(st:Ω):Obj:={.none,none,.func {name:=x,qualname:=x,params:=eE st,body:=.stmts<|aP st,scope:=ah st,globals:=0,closure:=[],defaults:=.none,kwdefaults:=.none},#[]}
def Vy(P:Params)(k:Nat)(st:Ω):Acc->Acc
 |⟨a,t,N,e,T,o⟩=>match st with
  |.FunctionDef x s _ _ _ _ S _ _ p =>
   if k=0 then⟨a+5,t+6,N,{PyData.keyHash P x,.str x<|t+5,.ref<|a+4}::e,.ref (a+3)::.int 0 0::.int p.line 0::T,
    fo x st N (a+3)::Sv x t p.line s.args.length a (a+1) 0 0 0 (a+2) (t+3)::QE x st::Qz::JX []::o⟩
   else
    let m:=(Mn .local S).length;let n:=m+(Mn .cell S).length
    ⟨a+7,t+6+n,N,{PyData.keyHash P x,.str x<|t+5+n,.ref<|a+6}::e,.ref (a+5)::.int 0 0::.int p.line 0::T,
    fo x st N (a+5)::Sv x t p.line s.args.length a (a+1) 0 (a+2) (a+3) (a+4) (t+3+n)::QE x st::JX (Pu (t+3+m)<|Mn .cell S)::JX (Pu (t+3)<|Mn .local S)::Qz::JX []::o⟩
  |.Assign [.Name x _] (.Constant c _ _) _ =>
   let v:=match c with|.int i=>Value.int i t|.str y=>.str y t|_=>.none
   if k=2 then {a,t+2,v,e,T,o}else {a,t+2,N,{PyData.keyHash P x,.str x<|t+1,v}::e,T,o}
  |_=>{a,t,N,e,T,o}
def R0(P:Params):Γ Nat->Γ Ω->Acc->Acc
 |k::s,st::r,A=>R0 P s r (Vy P k st A)
 |_,_,A=>A
def T8:ι->Acc->ι
 |⟨⟨o0::o1::o2::⟨c3,D,.dict ⟨e::E⟩ n,S⟩::r⟩,l⟩,A=>⟨⟨o0::o1::o2::{c3,D,.dict {{e with val:=A.nm}::(E++A.es.reverse)}<|n+A.es.length,S} ::
   (r.modify 8 (fun|⟨c,d,.fields ⟨v⟩,s⟩=>{c,d,.fields {v++A.ts.reverse},s}|o=>o)++A.os.reverse)⟩,l⟩
 |h,_=>h
def pG(s:Ξ)(A:Acc):Ξ:={s with heap:=T8 s.heap A,toks:=A.t}
section
variable (p:ε)(w:δ)
abbrev AV:=behindTheImports p
abbrev Ji:PySem.Env:={scope:=p.main.scope,locals:=3,globals:=3,cells:=[],code:=.ref 13,frame:=↑14}
abbrev AR:Code:=.body (AV p)<|Ji p
def FC(i:Nat):Pos:=if i=0 then default else((AV p).getD (i-1) (.Pass default)).pos
abbrev J9:Γ Frame:=[topFrame default]
def S0:Ξ:=(fencedOpening treeTable p w 6000).getD {}
def Sb:Ξ:=((topGo treeTable p w 11 (↑(.ref 6)) 12 (S0 p w)<|topStub p).map (·.1)).getD {}
abbrev P4(n i j:Nat)(s:Ξ):=segRun treeTable p w 11 (↑(.ref 6)) 1 n s<|piecesOf (((AV p).drop i).take<|j-i) (Ji p) (AR p) (FC p i) J9
end
def Li{p q:ε}{l:Γ Str}{X:Ξ->θ}{α:Type}{f:Ξ->α}{Y:δ->α}{g:θ}{s:δ->Ξ}{M:Nat}
  (o:∀w,fencedOpening treeTable p w 6000=↑(S0 p w))(hs:∀w,((S0 p w).heap.isNs mainGlobals&&(S0 p w).gens.size==0,(S0 p w).heap.objs.size,(S0 p w).heap.nsMap mainGlobals "__annotations__")=(true,11,↑(.ref 6)))
  (R:∀w,topRun treeTable p w 11 (↑(.ref 6)) M (S0 p w) (topStub p)=↑(s w))(m:M<=6000)
  (H:∀w,(staticsOk (importedModules p.main.body) (S0 p w).heap (s w).heap&&namesBound p (s w).heap&&gensDone (s w)&&laidKept (S0 p w).heap (s w).heap)=true)
  (hk:∀w,openSeen q l (importedModules p.main.body) X g (s w)=openGood q l)(y:∀w,f (s w)=Y w):LeftO p q l X f Y 6000 g:=λw=>by
 have r:=topRun_mono (6000-M) _ _ _ _ (R w);rw[show M+(6000-M)=6000 by lia]at r;have e:=hs w;simp?[Prod.mk.injEq]at e;have t:openEnds treeTable p w 6000=↑(s w):=by
  unfold openEnds;rw[o w,zA];unfold topFrom;rw[e.1,e.2.1,e.2.2];dsimp only;rw[r,zA,H w]
 rw[t,zB,hk w,y w]
def OZ{p:ε}{w:δ}{r:Ξ}(a:topGo treeTable p w 11 (↑(.ref 6)) 12 (S0 p w) (topStub p)=↑(Sb p w,{denote treeTable<|.body (AV p)<|Ji p,AR p,default,J9}))
  (b:segRun treeTable p w 11 (↑(.ref 6)) 1 1 (Sb p w) (blockOf (AV p) (Ji p) (AR p) default J9)=↑(.next,Sb p w,AR p,FC p 0))
  (k:topRun treeTable p w 11 (↑(.ref 6)) N (Sb p w) (restOf (AV p) (Ji p) (AR p) (FC p 0) J9)=↑r):topRun treeTable p w 11 (↑(.ref 6)) (12+(1+N)) (S0 p w) (topStub p)=↑r:=go_top a<|piece_block b k
def Sn{p:ε}{w:δ}{n N i j:Nat}{s s' r:Ξ}(h:P4 p w n i j s=↑(.next,s',AR p,FC p j))(v:i<=j)(k:topRun treeTable p w 11 (↑(.ref 6)) N s' (restOf ((AV p).drop j) (Ji p) (AR p) (FC p j) J9)=↑r) :
  topRun treeTable p w 11 (↑(.ref 6)) (n+N) s (restOf ((AV p).drop i) (Ji p) (AR p) (FC p i) J9)=↑r:=by
 have e:(AV p).drop i=((AV p).drop i).take (j-i)++(AV p).drop j:=by
  have:=List.take_append_drop (j-i) ((AV p).drop i);simp_all
 rw[e];exact piece_app h k
def Kn:Ω->Γ Ω
 |.ClassDef _ _ _ b ..=>b
 |_=>[]
def US(x:Str)(C ns t u:Nat):Obj:={.type "type",none,.cls {name:=x,bases:=[.type "object"],mro:=[.ref C,.type "object"],ns:=ns,qualname:=x,subclasses:=[]},#[none,none,↑(.str x t),↑(.str x u),↑(.builtin "object.__new__"),↑(.bool true)]}
def RC(x q:Str)(st:Ω)(p:Θ)(c:Ψ):Obj:={.type "function",none,.func<|W.fnOf x q (eE st) (aP st) (ah st) .none .none .none p none (.ref c) .none,#[]}
def Vh(x q:Str)(t l n a b d e f u:Nat):Obj:=co [.str x t,.str q<|t+1,.str "/claim/cut.py"<|t+2,.int l 0,.int n 0,.int 0 0,.int 0 0,.int 3 0,Ha a,.bool true,.int 181 0,Ha b,.none,Ha d,Ha e,Ha f,.int u 0,.int l 0,.str "/claim/cut.py"<|u+1]
def d5(x:Str)(st:Ω)(p:Θ)(t l n a:Nat):Γ (Ψ×Obj):=[(a+3,Sv x t l n a (a+1) 0 0 0 (a+2)<|t+3),(a+4,fo x st p<|a+3)]
def d7(x:Str)(st:Ω)(p:Θ)(t l n a u:Nat):Γ (Ψ×Obj):=[(a+5,Sv x t l n a (a+1) 0 (a+2) (a+3) (a+4) u),(a+6,fo x st p<|a+5)]
def m7(x q:Str)(st:Ω)(p:Θ)(t l n a u:Nat):Γ (Ψ×Obj):=[(a+5,Vh x q t l n a (a+1) (a+2) (a+3) (a+4) u),(a+6,RC x q st p<|a+5)]
section
variable (p:ε)(w:δ)
def Sd(n i j:Nat)(s:Ξ):Ξ:=((P4 p w n i j s).map (·.2.1)).getD {}
def SB(s:Ξ)(j:Nat)(A:Acc)(k:Γ Nat)(m:Nat):Ξ:=pG s<|R0 w.params (k.take m) ((AV p).drop j) A
end
end Hd
namespace K70
open PySem L2 PySem.Spec PyProof.Rows Hd PySem.W
abbrev top(i:Nat):Ω:=PySem.Challenge.pw_stillflow_k70_desks.main.body.getD i<|.Pass {0,0,0,0}
def vw:ε:=W.view PySem.Challenge.pw_stillflow_k70_desks [1,2,3,4,5,6,8,9,10,11,12,13,14,15,16,17,18,19,20,21,22,23,24,26,27,28,29,30,31,33,34,36,37,38,39,40,41,42,44,45,46,48,49,50,51,52,53,54,55,56]
abbrev cN:Ψ:=364
abbrev cM(i:Nat):Ω:=(Kn<|top 46).getD i<|.Pass {0,0,0,0}
def sZ:Θ:=(.str "stillflow.desks" 543)
abbrev Vr:Ψ:=24
abbrev UT:Γ (Str×Ψ):=[("NoWorld",37),("NoPlan",49),("NoPlace",61),("TooMany",73),("Nothing",85)]
def mj:Θ:=(.str "stillflow.worlds" 287)
def AU:Θ:=(.str "stillflow.changes" 409)
def Sf:Θ:=(.str "stillflow.flows" 466)
def Dp:Θ:=(.str "stillflow.finding" 480)
def yh:Θ:=(.str "law_stillflow_k70_desks" 658)
def Kf(P:Params):Φ:=[(3,{.type "dict",none,.dict #[en P "__name__" 165<|.str "law_stillflow_k70_desks" 658,en P "__doc__" 166 .none,en P "__package__" 167 .none,en P "__loader__" 168<|.builtin "__main__.__loader__#opaque",en P "__spec__" 169 .none,en P "__annotations__" 170<|.ref 6,en P "__builtins__" 171<|.ref 4,en P "__file__" 173<|.str "/claim/cut.py" 172,en P "__cached__" 174 .none,en P "FlowError" 206<|.ref 24,en P "NoWorld" 222<|.ref 37,en P "NoPlan" 238<|.ref 49,en P "NoPlace" 254<|.ref 61,en P "TooMany" 270<|.ref 73,en P "Nothing" 286<|.ref 85,en P "MOST_PLACES" 290<|.int 4 289,en P "MOST" 292<|.int 9 291,en P "is_whole" 301<|.ref 94,en P "is_number" 309<|.ref 101,en P "is_long" 318<|.ref 108,en P "are_likes" 324<|.ref 113,en P "is_end" 332<|.ref 120,en P "is_way" 341<|.ref 127,en P "are_parts" 347<|.ref 132,en P "liked_pairs" 353<|.ref 137,en P "is_world" 359<|.ref 142,en P "check_world" 366<|.ref 149,en P "check_whole" 375<|.ref 156,en P "check_number" 383<|.ref 163,en P "check_side" 390<|.ref 170,en P "check_place" 399<|.ref 177,en P "replaced" 408<|.ref 184,en P "with_end" 421<|.ref 191,en P "with_likes" 431<|.ref 198,en P "with_ways" 439<|.ref 205,en P "with_amount" 449<|.ref 212,en P "with_limit" 459<|.ref 219,en P "without_way" 465<|.ref 224,en P "ways_of" 473<|.ref 229,en P "chosen_by" 479<|.ref 234,en P "chosen_by_all" 487<|.ref 239,en P "limits" 493<|.ref 244,en P "lowered" 502<|.ref 251,en P "refused" 514<|.ref 258,en P "steps" 524<|.ref 265,en P "capped" 535<|.ref 272,en P "givers_best" 542<|.ref 279,en P "flows_between" 550<|.ref 284,en P "gone_otherwise" 563<|.ref 291,en P "Desk" 657<|.ref 364,en P "_law_cell" 667<|.ref 375,en P "_law_drawn" 677<|.ref 382,en P "_law_orders" 692<|.ref 389,en P "_law_world" 698<|.ref 394,en P "_law_refused" 706<|.ref 401,en P "_law_told" 716<|.ref 408,en P "_law_goes" 722<|.ref 413,en P "_law_unlike" 728<|.ref 418,en P "law" 747<|.ref 425] 59,#[]})] ++
 ([(23,{.type "dict",none,.dict #[en P "__module__" 196<|.str "stillflow.errors" 187,en P "__firstlineno__" 200<|.int 2 199,en P "__static_attributes__" 201<|.ref 22,en P "__weakref__" 203<|.ref 25,en P "__doc__" 204 .none] 3,#[]})] ++
 ([(24,P9 "FlowError" 24 23 15 189 197 [(.type "ValueError")] [] [(.ref 37),(.ref 49),(.ref 61),(.ref 73),(.ref 85)])] ++
 ([(36,{.type "dict",none,.dict #[en P "__module__" 214<|.str "stillflow.errors" 187,en P "__firstlineno__" 218<|.int 4 217,en P "__static_attributes__" 219<|.ref 35,en P "__doc__" 220 .none] 2,#[]})] ++
 ([(37,P9 "NoWorld" 37 36 28 207 215 [(.ref 24)] [(.ref 24)] [])] ++
 ([(48,{.type "dict",none,.dict #[en P "__module__" 230<|.str "stillflow.errors" 187,en P "__firstlineno__" 234<|.int 6 233,en P "__static_attributes__" 235<|.ref 47,en P "__doc__" 236 .none] 2,#[]})] ++
 ([(49,P9 "NoPlan" 49 48 40 223 231 [(.ref 24)] [(.ref 24)] [])] ++
 ([(60,{.type "dict",none,.dict #[en P "__module__" 246<|.str "stillflow.errors" 187,en P "__firstlineno__" 250<|.int 8 249,en P "__static_attributes__" 251<|.ref 59,en P "__doc__" 252 .none] 2,#[]})] ++
 ([(61,P9 "NoPlace" 61 60 52 239 247 [(.ref 24)] [(.ref 24)] [])] ++
 ([(72,{.type "dict",none,.dict #[en P "__module__" 262<|.str "stillflow.errors" 187,en P "__firstlineno__" 266<|.int 10 265,en P "__static_attributes__" 267<|.ref 71,en P "__doc__" 268 .none] 2,#[]})] ++
 ([(73,P9 "TooMany" 73 72 64 255 263 [(.ref 24)] [(.ref 24)] [])] ++
 ([(84,{.type "dict",none,.dict #[en P "__module__" 278<|.str "stillflow.errors" 187,en P "__firstlineno__" 282<|.int 12 281,en P "__static_attributes__" 283<|.ref 83,en P "__doc__" 284 .none] 2,#[]})] ++
 ([(85,P9 "Nothing" 85 84 76 271 279 [(.ref 24)] [(.ref 24)] [])] ++
 (d7 "is_whole" (top 10) mj 293 17 3 88 299 ++
 (d7 "is_number" (top 11) mj 302 21 2 95 307 ++
 (d7 "is_long" (top 12) mj 310 23 3 102 316 ++
 (d5 "are_likes" (top 13) mj 319 25 2 109 ++
 (d7 "is_end" (top 14) mj 325 31 2 114 330 ++
 (d7 "is_way" (top 15) mj 333 33 3 121 339 ++
 (d5 "are_parts" (top 16) mj 342 37 3 128 ++
 (d5 "liked_pairs" (top 17) mj 348 45 1 133 ++
 (d5 "is_world" (top 18) mj 354 50 1 138 ++
 (d7 "check_world" (top 19) mj 360 57 1 143 364 ++
 (d7 "check_whole" (top 20) mj 367 60 3 150 373 ++
 (d7 "check_number" (top 21) mj 376 63 2 157 381 ++
 (d7 "check_side" (top 22) mj 384 65 1 164 388 ++
 (d7 "check_place" (top 23) mj 391 67 3 171 397 ++
 (d7 "replaced" (top 24) mj 400 70 3 178 406 ++
 (d7 "with_end" (top 26) AU 411 73 5 185 419 ++
 (d7 "with_likes" (top 27) AU 422 75 4 192 429 ++
 (d7 "with_ways" (top 28) AU 432 77 2 199 437 ++
 (d7 "with_amount" (top 29) AU 440 79 4 206 447 ++
 (d7 "with_limit" (top 30) AU 450 84 3 213 457 ++
 (d5 "without_way" (top 31) AU 460 90 2 220 ++
 (d5 "ways_of" (top 33) Sf 468 100 3 225 ++
 (d5 "chosen_by" (top 34) Sf 474 105 4 230 ++
 (d5 "chosen_by_all" (top 36) Dp 482 113 3 235 ++
 (d5 "limits" (top 37) Dp 488 119 1 240 ++
 (d7 "lowered" (top 38) Dp 494 121 3 245 500 ++
 (d7 "refused" (top 39) Dp 503 123 2 252 512 ++
 (d7 "steps" (top 40) Dp 515 130 1 259 522 ++
 (d7 "capped" (top 41) Dp 525 139 2 266 533 ++
 (d7 "givers_best" (top 42) Dp 536 144 1 273 540 ++
 (d5 "flows_between" (top 44) sZ 545 148 1 280 ++
 (d7 "gone_otherwise" (top 45) sZ 551 150 2 285 561 ++
 (m7 "__init__" "Desk.__init__" (cM 0) sZ 576 161 2 299 581 ++
 (m7 "world" "Desk.world" (cM 1) sZ 584 165 1 306 588 ++
 (m7 "plan" "Desk.plan" (cM 2) sZ 591 168 1 313 595 ++
 (m7 "change_to" "Desk.change_to" (cM 3) sZ 598 171 2 320 604 ++
 (m7 "set_amount" "Desk.set_amount" (cM 4) sZ 607 176 4 327 614 ++
 (m7 "set_limit" "Desk.set_limit" (cM 5) sZ 617 179 3 334 623 ++
 (m7 "close" "Desk.close" (cM 6) sZ 626 182 2 341 631 ++
 (m7 "undo" "Desk.undo" (cM 7) sZ 634 185 1 348 639 ++
 (m7 "many" "Desk.many" (cM 8) sZ 642 191 1 355 646 ++
 ([(363,{.type "dict",none,.dict #[en P "__module__" 571<|.str "stillflow.desks" 543,en P "__firstlineno__" 575<|.int 159 574,en P "__init__" 583<|.ref 305,en P "world" 590<|.ref 312,en P "plan" 597<|.ref 319,en P "change_to" 606<|.ref 326,en P "set_amount" 616<|.ref 333,en P "set_limit" 625<|.ref 340,en P "close" 633<|.ref 347,en P "undo" 641<|.ref 354,en P "many" 648<|.ref 361,en P "__static_attributes__" 650<|.ref 362,en P "__dict__" 652<|.ref 365,en P "__weakref__" 654<|.ref 366,en P "__doc__" 655 .none] 4,#[]})] ++
 ([(364,US "Desk" 364 363 564 572)] ++
 (d7 "_law_cell" (top 48) yh 660 194 2 369 665 ++
 (d7 "_law_drawn" (top 49) yh 668 198 3 376 675 ++
 (d7 "_law_orders" (top 50) yh 678 202 3 383 690 ++
 (d5 "_law_world" (top 51) yh 693 210 3 390 ++
 (d7 "_law_refused" (top 52) yh 699 226 1 395 704 ++
 (d7 "_law_told" (top 53) yh 707 232 3 402 714 ++
 (d5 "_law_goes" (top 54) yh 717 241 1 409 ++
 (d5 "_law_unlike" (top 55) yh 723 243 2 414 ++
 (d7 "law" (top 56) yh 729 247 1 419 745))))))))))))))))))))))))))))))))))))))))))))))))))))))))))))))))
def hk:W.Hook:=W.kmHook Kf [3,23,24,36,37,48,49,60,61,72,73,84,85,93,94,100,101,107,108,112,113,119,120,126,127,131,132,136,137,141,142,148,149,155,156,162,163,169,170,176,177,183,184,190,191,197,198,204,205,211,212,218,219,223,224,228,229,233,234,238,239,243,244,250,251,257,258,264,265,271,272,278,279,283,284,290,291,304,305,311,312,318,319,325,326,332,333,339,340,346,347,353,354,360,361,363,364,374,375,381,382,388,389,393,394,400,401,407,408,412,413,417,418,424,425] (λ_=>rfl) [226]
abbrev pp:=PySem.Challenge.pw_stillflow_k70_desks
abbrev Ug(w:δ):Ξ:=Sd pp w 1261 0 7<|Sb pp w
abbrev A0:Acc:={88,287,.str "stillflow.errors" 187,[],[],[]}
abbrev U5:Γ Nat:=[2,3,3,1,1,1,0,1,1,0,0,0,1,1,1,1,1,1,2,1,1,1,1,1,0,2,0,0,2,0,0,1,1,1,1,1,2,0,1]
abbrev QP(w:δ)(m:Nat):Ξ:=SB pp w (Ug w) 7 A0 U5 m
abbrev S9(w:δ):Ξ:=Sd pp w 480 46 47<|QP w 39
abbrev A2:Acc:={369,658,.str "stillflow.desks" 543,[],[],[]}
abbrev Va:Γ Nat:=[2,1,1,1,0,1,1,0,0,1]
abbrev Si(w:δ)(m:Nat):Ξ:=SB pp w (S9 w) 47 A2 Va m
def o0(w:δ):fencedOpening treeTable pp w 6000=↑(S0 pp w):=by kernel_rfl
def o1(w:δ):((S0 pp w).heap.isNs mainGlobals&&(S0 pp w).gens.size==0,(S0 pp w).heap.objs.size,(S0 pp w).heap.nsMap mainGlobals "__annotations__")=(true,11,↑(.ref 6)):=by kernel_rfl
def o2(w:δ):topGo treeTable pp w 11 (↑(.ref 6)) 12 (S0 pp w) (topStub pp)=↑(Sb pp w,{denote treeTable<|.body (AV pp)<|Ji pp,AR pp,default,J9}):=by kernel_rfl
def o3(w:δ):segRun treeTable pp w 11 (↑(.ref 6)) 1 1 (Sb pp w) (blockOf (AV pp) (Ji pp) (AR pp) default J9)=↑(.next,Sb pp w,AR pp,FC pp 0):=by kernel_rfl
def q0(w:δ):P4 pp w 1261 0 7 (Sb pp w)=↑(.next,Ug w,AR pp,FC pp 7):=by kernel_rfl
def p0(w:δ):Ug w=QP w 0:=by kernel_rfl
def r0(w:δ):P4 pp w 1011 7 46 (QP w 0)=↑(.next,QP w 39,AR pp,FC pp 46):=by kernel_rfl
def q2(w:δ):P4 pp w 480 46 47 (QP w 39)=↑(.next,S9 w,AR pp,FC pp 47):=by kernel_rfl
def p2(w:δ):S9 w=Si w 0:=by kernel_rfl
def r1(w:δ):P4 pp w 290 47 57 (Si w 0)=↑(.next,Si w 10,AR pp,FC pp 57):=by kernel_rfl
abbrev fs(w:δ):Ξ:=Si w 10
def qe(w:δ):topRun treeTable pp w 11 (↑(.ref 6)) 3 (fs w) (restOf ((AV pp).drop 57) (Ji pp) (AR pp) (FC pp 57) J9)=↑(fs w):=by kernel_rfl
def rl(w:δ):topRun treeTable pp w 11 (↑(.ref 6)) (12+(1+(1261+(1011+(480+(290+3)))))) (S0 pp w) (topStub pp)=↑(fs w):=OZ (o2 w) (o3 w)<|Sn (i:=0) (q0 w) (by decide) (by rw[p0 w];exact(Sn (r0 w) (by decide)<|Sn (q2 w) (by decide) (by rw[p2 w];exact(Sn (r1 w) (by decide)<|qe w))))
abbrev sn(w:δ):=openSeen vw [] (importedModules pp.main.body) (λs=>xlAt vw [] s&&recOk [] s) true<|fs w
abbrev gd:=openGood vw []
def l0(w:δ):(staticsOk (importedModules pp.main.body) (S0 pp w).heap (fs w).heap&&namesBound pp (fs w).heap&&gensDone (fs w)&&laidKept (S0 pp w).heap (fs w).heap)=true:=by kernel_rfl
def UN(w:δ):(sn w).1=gd.1:=by kernel_rfl
def UZ(w:δ):(sn w).2.1=gd.2.1:=by kernel_rfl
def U7(w:δ):(sn w).2.2.1=gd.2.2.1:=by kernel_rfl
def Vb(w:δ):(sn w).2.2.2.1=gd.2.2.2.1:=by kernel_rfl
def UR(w:δ):(sn w).2.2.2.2.1=gd.2.2.2.2.1:=by kernel_rfl
def Vc(w:δ):(sn w).2.2.2.2.2.1=gd.2.2.2.2.2.1:=by kernel_rfl
def Vu(w:δ):(sn w).2.2.2.2.2.2=gd.2.2.2.2.2.2:=by kernel_rfl
def U2(w:δ):hk.obs (fs w)=hk.val w:=by kernel_rfl
def left:LeftO pp vw [] (λs=>xlAt vw [] s&&recOk [] s) hk.obs hk.val 6000:=Li o0 o1 rl (by decide) l0 (λw=>Prod.ext (UN w)<|Prod.ext (UZ w)<|Prod.ext (U7 w)<|Prod.ext (Vb w)<|Prod.ext (UR w)<|Prod.ext (Vc w)<|Vu w) U2
def SZ:PySem.Challenge.rw_stillflow_k70_desks.wellSaid=true:=by kernel_rfl
end K70
namespace L2
open PySem PySem.Spec PyProof.Rows
abbrev tN:=Sum Int Str
def Dr:tN->Θ->θ
 |.inl k,v=>Value.isInt k v
 |.inr x,v=>Value.isStrOf x v
def Ui(w:δ):tN->Int
 |.inl k=>hashInt k
 |.inr x=>hashStr w x
def bU:∀{k:tN}{v:Θ},Dr k v=true->(∃i t,k=Sum.inl i/\v=Value.int i t)\/(∃x t,k=Sum.inr x/\v=Value.str x t)
 |.inl i,v,h=>by
  let(t,e):=Value.isInt_shape h;exact .inl {i,t,rfl,e}
 |.inr x,v,h=>by
  let(t,e):=Value.isStrOf_shape h;exact .inr {x,t,rfl,e}
def Ee(i:Int)(t:Tok):Dr (.inl i) (.int i t)=true:=by simp[Dr,Value.isInt]
def Pv(a b:Int):decide ((Sum.inl a:tN)=Sum.inl b)=(a==b):=by
 grind
def Pz(a b:Str):decide ((Sum.inr a:tN)=Sum.inr b)=decide (a=b):=by
 simp
def NW(a:Int)(b:Str):decide (Sum.inl a=Sum.inr b)=false:=zZ<|nofun
def N1(a:Str)(b:Int):decide (Sum.inr a=Sum.inl b)=false:=zZ<|nofun
def eH(prog:ε)(w:δ):PySem.KeyKind prog w tN where
 is:=Dr
 hash:=Ui w
 inj:=λv a b A B=>by
  rcases bU A with ⟨i,t,rfl,rfl⟩|⟨x,t,rfl,rfl⟩
  .rcases bU B with ⟨j,u,rfl,e⟩|⟨y,u,rfl,e⟩
   .injection e with E _;rw[E]
   .exact nomatch e
  .rcases bU B with ⟨j,u,rfl,e⟩|⟨y,u,rfl,e⟩
   .exact nomatch e
   .injection e with E _;rw[E]
 byValue:=λk v h=>by
  rcases bU h with ⟨i,t,rfl,rfl⟩|⟨x,t,rfl,rfl⟩<;>rfl
 pyHash:=λH h=>by
  rcases bU H with ⟨i,t,rfl,rfl⟩|⟨x,t,rfl,rfl⟩
  .exact wpAny_pyHash_int h
  .exact wpAny_pyHash_str h
 eqBool:=λU H h=>by
  rcases bU U with ⟨i,t,rfl,rfl⟩|⟨x,t,rfl,rfl⟩
  .rcases bU H with ⟨j,u,rfl,rfl⟩|⟨y,u,rfl,rfl⟩
   .rw[Pv]at h;exact wpAny_eqBool_int h
   .rw[NW]at h;exact SeqAt.EqAt.int_str i t y u _ _ _ _ h
  .rcases bU H with ⟨j,u,rfl,rfl⟩|⟨y,u,rfl,rfl⟩
   .rw[N1]at h;exact SeqAt.EqAt.str_int x t j u _ _ _ _ h
   .rw[Pz]at h;exact wpAny_eqBool_str h
 «strs»:=λk x t v h=>by
  rcases bU h with ⟨i,u,rfl,e⟩|⟨y,u,rfl,e⟩
  .exact nomatch e
  .injection e with E _
   subst E;cases v<;>rfl
def yj(prog:ε)(w:δ)(i:Int)(t:Tok):(eH prog w).is (.inl i) (.int i t)=true:=Ee i t
set_option genInjectivity true in
inductive V where
 |VC|bl (b:θ)|int (i:Int)|str (x:Str)|byt (b:Array UInt8)|flt (b:UInt64)|ref (a:Ψ)|ty (n:String)
 deriving DecidableEq
def RelV:V->Θ->Prop
 |.VC,u=>u=Value.none
 |.bl b,u=>u=Value.bool b
 |.int i,u=>∃t,u=Value.int i t
 |.str x,u=>∃t,u=Value.str x t
 |.byt b,u=>∃t,u=Value.bytes b t
 |.flt b,u=>∃t,u=Value.float b t
 |.ref a,u=>u=Value.ref a
 |.ty n,u=>u=Value.type n
abbrev aG:Γ V->Γ Θ->Prop:=Paired RelV
def aG.length(r:aG xs us):xs.length=us.length:=Paired.length r
def aG.get:∀{xs:Γ V}{us:Γ Θ}{i:Nat}{x:V},aG xs us->xs[i]?=↑x->∃u,us[i]?=↑u/\RelV x u
 |_,_,_,_,.nil,e=>by simp at e
 |_,_,0,_,.cons r _,e=>by simp at e;subst e;exact{_,rfl,r}
 |_,_,i+1,x,.cons _ t,e=>by
  let(u,H,a):=aG.get (i:=i) (x:=x) t (by simpa using e);exact{u,by simpa using H,a}
def aG.set(r:RelV x u):∀{xs:Γ V}{us:Γ Θ}(i:Nat),aG xs us->aG (xs.set i x) (us.set i u)
 |_,_,_,.nil=>.nil
 |_,_,0,.cons _ t=>.cons r t
 |_,_,i+1,.cons q t=>.cons q<|aG.set r i t
def aG.append:∀{xs ys:Γ V}{us w:Γ Θ},aG xs us->aG ys w->aG (xs++ys) (us++w)
 |_,_,_,_,.nil,s=>s
 |_,_,_,_,.cons r t,s=>.cons r<|aG.append t s
def aG.take:∀{xs:Γ V}{us:Γ Θ}n,aG xs us->aG (xs.take n) (us.take n)
 |_,_,0,_=>.nil
 |_,_,_+1,.nil=>.nil
 |_,_,n+1,.cons r t=>.cons r<|aG.take n t
def aG.drop:∀{xs:Γ V}{us:Γ Θ}n,aG xs us->aG (xs.drop n) (us.drop n)
 |_,_,0,r=>r
 |_,_,_+1,.nil=>.nil
 |_,_,n+1,.cons _ t=>aG.drop n t
def yb:Δ V->Δ Θ->Prop
 |some v,↑u=>RelV v u
 |none,none=>True
 |_,_=>False
def KV:Γ (U×V)->Γ (U×Θ)->Prop:=Paired λ(p:U×V)(q:U×Θ)=>p.1=q.1/\RelV p.2 q.2
def kV:tN->V
 |.inl i=>.int i
 |.inr x=>.str x
set_option genInjectivity true in
inductive HO where
  |lst (xs:Γ V)
  |tup (xs:Γ V)
  |dK (V8:Γ (tN×V))|dT (xs:Γ (Γ tN×Ψ×Θ))
  |set (S:Int->θ) (n:Nat)
  |ins (C dx:Ψ) (fs:Γ (Str×V))
  |own (x:Ψ)
  |xd (fs:Γ (Str×V))
  |met (f x:Ψ)
  |rng (lo hi:Int)
  |Wj (o:Obj) (u:HO)
  |tab (q:Str)
 |Y0 (q:Str)
  |ext (φ:ι->Prop)
abbrev Hp:=Ψ->Δ HO
def upd(H:Hp)(a:Ψ)(o:HO):Hp:=λb=>if b=a then↑o else H b
def av:upd H a o a=↑o:=by unfold upd;simp
def ak(h:b≠a):upd H a o b=H b:=by unfold upd;rw[yN h]
def aM{H:Hp}{a b:Ψ}{o:HO}(h:H a=↑o)(h':H b=none):a≠b:=by
 grind
def D8(h:ι)(a:Ψ)(E:Array Θ):Prop:=IsTup h a E/\∃o,h.get? a=↑o/\o.dict=none
def D8.new(h:ι)(E:Array Θ):D8 (h.push {cls:=.type "tuple",data:=.seq E}) h.objs.size E:={.new _ _,_,zX _ rfl,rfl}
section
variable (P:ε)(w:δ)
def dX(H:Hp)(h:ι)(a:Ψ):HO->Prop
 |.lst s=>s.length<=sizeLine/\∃ (E:Γ Θ) (n:Nat),aG s E/\h.get? a=some {cls:=.type "list",data:=.seq E.toArray n}
 |.tup s=>s.length<=sizeLine/\∃E:Γ Θ,aG s E/\D8 h a E.toArray
 |.dK g=>g.length<=sizeLine/\(a==sysModules)=false/\∃l,KV g l/\h.DictOf (eH P w) a l
 |.dT s=>s.length<=sizeLine/\(a==sysModules)=false /\
   ∃o i r,h.get? a=↑o/\o.ExactDict/\o.data=.dict i r/\i.toList=s.map (entryOfKey<|tupleKind<|eH P w)/\(s.map (·.1)).Nodup
 |.set S n=>h.SetOf (intKind P w) a S n
 |.ins C d fs=>H d=↑(.own a)/\fs.length<=1000/\d≠a/\h.get? a=↑(W.instObj C d) /\
   ∃m,h.Ns1 d m/\(∀f,yb (fs.lookup f)<|m f)/\PySem.Within m (fs.map (·.1))
 |.own _=>∃o,h.get? a=↑o
 |.xd fs=>∃m,h.Ns1 a m/\∀f,yb (fs.lookup f) (m f)
 |.rng L I=>∃t u v,h.get? a=some {cls:=.type "range",data:=.fields #[.int L t,.int I u,.int 1 v]}
 |.Wj o u=>h.get? a=↑o/\dX H h a u
 |.tab q=>∃b:Array Θ,h.get? a=some {cls:=.none,data:=.fields b}/\TriplesOk b.toList/\∀p v,codeAmong p b.toList=↑v->∃c,v=.ref c/\H c=↑(.Y0 q)
 |.Y0 q=>h.CodeRec (.ref a) q
 |.met f x=>h.get? a=↑(W.methodObj (.ref f)<|.ref x)
 |.ext e=>e h/\(∃o,h.get? a=↑o)/\∀j k:ι,e j->(∀o,j.get? a=↑o->k.get? a=↑o)->e k
def mV(H:Hp)(h:ι):Prop:=∀a o,H a=↑o->dX P w H h a o
end
def dX.lt(x:dX P w H h a o):a<h.objs.size:=by
 cases o with
 |lst s=>let(_,_,_,_,e):=x;exact zY e
 |tup s=>let(_,_,_,p):=x;exact p.1.lt
 |dK v=>let(_,_,_,_,o,_,_,e,_):=x;exact zY e
 |dT v=>let(_,_,o,_,_,e,_):=x;exact zY e
 |set S n=>let(o,_,_,_,e,_):=x;exact zY e
 |ins C d fs=>let(_,_,_,e,_):=x;exact zY e
 |own y=>let(_,e):=x;exact zY e
 |xd fs=>let(_,(_,_,_,e,_),_):=x;exact zY e
 |rng l i=>let(_,_,_,e):=x;exact zY e
 |Wj ob u=>let(e,_):=x;exact zY e
 |tab q=>let(_,e,_):=x;exact zY e
 |Y0 q=>let(_,_,_,_,E,e,_):=x;cases E;exact zY e
 |met f y=>exact zY (x)
 |ext b=>let(_,(_,e),_):=x;exact zY e
def Paired.abS:∀{l₁:Γ α}{A:Γ β},Paired F l₁ A->(∀a b,F a b->G a b)->Paired G l₁ A
 |_,_,.nil,_=>.nil
 |_,_,.cons r t,f=>.cons (f _ _ r)<|Paired.abS t f
def UH:HO->Prop
 |.tup _=>True
 |.Y0 _=>True
 |_=>False
def dX.Wa(x:dX P w H h a o)(k:∀b u,(b=a\/H b=↑(.own a))->h.get? b=↑u->h'.get? b=↑u)
  (F:∀b,H b=↑(.own a)->H' b=↑(.own a))(ht:∀b u,H b=↑u->UH u->H' b=↑u):dX P w H' h' a o:=by
 induction o with
 |lst X=>let(z,g,n,r,e):=x;exact{z,g,n,r,k _ _ (.inl rfl) e}
 |tup X=>let(z,g,r,(ob,e,c),o2,i,D):=x;exact{z,g,r,{ob,k _ _ (.inl rfl) e,c},o2,k _ _ (.inl rfl) i,D}
 |dK A=>let(z,y,l,r,ob,s,E,e,c):=x;exact{z,y,l,r,ob,s,E,k _ _ (.inl rfl) e,c}
 |dT A =>
  let(z,y,ob,s,E,e,c):=x;exact{z,y,ob,s,E,k _ _ (.inl rfl) e,c}
 |set S n=>let(ob,s,E,t,e,c):=x;exact{ob,s,E,t,k _ _ (.inl rfl) e,c}
 |ins C K fs =>
  let(d,z,N,e,m,(O,s,E,i,c),r):=x;exact{F _ d,z,N,k _ _ (.inl rfl) e,m,{O,s,E,k _ _ (.inr d) i,c},r}
 |own y=>let(ob,e):=x;exact{ob,k _ _ (.inl rfl) e}
 |xd fs=>let(m,(O,s,E,e,c),r):=x;exact{m,{O,s,E,k _ _ (.inl rfl) e,c},r}
 |rng M L=>let(t,u,v,e):=x;exact{t,u,v,k _ _ (.inl rfl) e}
 |Wj ob u I=>let(e,q):=x;exact{k _ _ (.inl rfl) e,I q}
 |tab q=>let(J,e,t,c):=x;exact{J,k a _ (.inl rfl) e,t,λj v z=>let ⟨c0,z1,z2⟩:=c j v z;{c0,z1,ht _ _ z2 trivial}}
 |Y0 q=>let(c,G,l,t,B,e,r):=x;cases B;exact{_,G,l,t,rfl,k _ _ (.inl rfl) e,r}
 |met f y =>
  have e:h.get? a=↑_:=x;show h'.get? a=↑_;exact k a _ (.inl rfl) e
 |ext Q=>let(p,(o,e),st):=x;exact{st _ _ p λo=>k _ _<|.inl rfl,{o,k _ _ (.inl rfl) e},st}
def mV.lt(x:mV P w H h)(e:H a=↑o):a<h.objs.size:=(x a o e).lt
def mV.fresh(x:mV P w H h)(e:h.objs.size<=a):H a=none:=by
 cases q:H a with
 |none=>rfl
 |some u=>exact absurd (zP (x.lt q) e)<|qE _
def mV.kept(x:mV P w H h)(k:∀b u,h.get? b=↑u->h'.get? b=↑u):mV P w H h':=λa o e =>
 (x a o e).Wa (λb u _=>k b u) (λ_ q=>q) λ_ _ q _=>q
def mV.laid(x:mV P w H h)(k:∀b u,h.get? b=↑u->h'.get? b=↑u)(p:h.objs.size<=a)(N:dX P w (upd H a o) h' a o):mV P w (upd H a o) h':=λb u e=>by
 have n:=x.fresh p;by_cases B:b=a
 .subst B;rw[av]at e;grind
 .rw[ak B]at e;exact(x b u e).Wa (λc v _=>k c v) (λc q=>by rw[ak<|aM q n];lia) λc s q _=>by rw[ak<|aM q n];lia
def Rd(H:Hp)(a:Ψ)(u:HO):Prop:=H a=↑u\/∃o,H a=↑(.Wj o u)
def Rd.ok(r:Rd H a u)(x:mV P w H h):dX P w H h a u:=by
 rcases r with r|⟨o,r⟩
 .exact x a u r
 .let(_,q):=x a _ r;lia
def QW:Δ HO->Prop
 |some (.lst _)=>True
 |some (.dK _)=>True
 |some (.dT _)=>True
 |some (.set _ _)=>True
 |some (.ins _ _ _)=>True
 |some (.ext _)=>True
 |_=>False
def mV.write(O:mV P w H h)(m:QW (H x))(d:e=x\/H e=↑(.own x))(k:∀b u,b≠e->h.get? b=↑u->h'.get? b=↑u)(o:∃u,h'.get? e=↑u)
  (n:dX P w (upd H x U) h' x U):mV P w (upd H x U) h':=λb u q=>by
 have a:∀c y,H c=↑(.own y)->c≠x:=λc y r z=>by subst z;rwa[r]at m
 by_cases B:b=x
 .subst B;rw[av]at q;grind
 .rw[ak B]at q;by_cases E:b=e
  .have Q:H b=↑(.own x):=by
    grind
   rw[q]at Q;cases Q;let(v,f):=o;exact{v,by grind}
  .refine (O b u q).Wa (λc v hc=>k c v ?_) (λc r=>by rw[ak<|a c b r];lia) λc s r R=>by rw[ak<|(λc u r R z=>by subst z;rw[r]at m;cases u<;>first|exact m|exact R:∀c u,H c=↑u->UH u->c≠x) c s r R];lia
   grind
def Sl:HO->Prop
 |.tab _=>True
 |.Y0 _=>True
 |_=>False
def Sl.aaM(h:Sl u):¬QW (↑u):=by cases u<;>first|exactλz=>z|exact h.elim
structure MW(H H':Hp)(h h':Heap):Prop where
 st:∀b u,H b=↑u->Sl u->H' b=↑u
 gr:∀b q ps,H b=↑(.tab q)->h.get? b=some {cls:=.none,data:=.fields ps}->∃more:Array Θ,h'.get? b=some {cls:=.none,data:=.fields (ps++more)}
def MW.kept(k:∀b u,(∃q,H b=↑(.tab q))->h.get? b=↑u->h'.get? b=↑u)(st:∀b u,H b=↑u->Sl u->H' b=↑u):MW H H' h h':=
 {st,λb q p e z=>{#[],by exact k b _ {q,e} z}}
def MW.trans(a:MW H U h h1)(b:MW U H2 h1 h2):MW H H2 h h2:=
 ⟨λc u q t=>b.st c u (a.st c u q t) t,λc q p e z=>by
  let(m1,z1):=a.gr c q p e z;let(m2,z2):=b.gr c q _ (a.st c _ e trivial) z1;exact{m1++m2,by rw[z2,Array.append_assoc]}⟩
structure Un(fs ex:List Addr)(H H':Hp)(h h':Heap):Prop where
 keep:∀b o,h.get? b=↑o->H b=none->b∉fs->b∉ex->h'.get? b=↑o
 slot:∀b o,h.get? b=↑o->H b=none->b∈fs->b∉ex->∃sl,h'.get? b=some {o with slots:=sl}
 free:∀b o,h.get? b=↑o->H b=none->b∉ex->H' b=none
 there:∀b o,h.get? b=↑o->b∉ex->∃o',h'.get? b=↑o'
 WT:∀b xs,H b=↑(.tup xs)->H' b=↑(.tup xs)
 WJ:∀b o u,H b=↑(.Wj o u)->H' b=↑(.Wj o u)
 Wx:MW H H' h h'
def Un.any(u:Un fs ex H H1 h U)(q:h.get? b=↑ob)(n:H b=none)(x:b∉ex):∃s,U.get? b=some {ob with slots:=s}:=by
 by_cases B:b∈fs
 .exact u.slot b ob q n B x
 .exact{ob.slots,u.keep b ob q n B x}
def Un.kept(k:∀b u,h.get? b=↑u->h'.get? b=↑u):Un fs ex H H h h':=
 {λb ob q _ _ _=>k b ob q,λb ob q _ _ _=>{ob.slots,k b ob q},λ_ _ _ n _=>n,λb ob q _=>{ob,k b ob q},λ_ _ q=>q,λ_ _ _ q=>q,.kept (λb u _=>k b u) λ_ _ e _=>e}
def Un.refl:Un fs ex H H h h:=Un.kept λ_ _ q=>q
def Un.laid(k:∀b u,h.get? b=↑u->h'.get? b=↑u)(p:h.objs.size<=a)(N:H a=none):Un fs ex H (upd H a o) h h' where
 keep:=λb u q _ _ _=>k b u q
 slot:=λb u q _ _ _=>{u.slots,k b u q}
 free:=λb u q n _=>by rw[ak<|yR<|zP (zY q) p];lia
 there:=λb u q _=>{u,k b u q}
 WT:=λb x q=>by rw[ak<|aM q N];lia
 WJ:=λb u x q=>by rw[ak<|aM q N];lia
 Wx:=.kept (λb u _=>k b u) λb u q _=>by rw[ak<|aM q N];lia
def Un.write(m:QW (H x))(E:e=x\/H e=↑(.own x))(k:∀b u,b≠e->h.get? b=↑u->h'.get? b=↑u)(O:∃u,h'.get? e=↑u):Un fs ex H (upd H x o) h h':=by
 have X:∀b,H b=none->b≠x:=λb n z=>by subst z;rwa[n]at m
 have B:∀b,H b=none->b≠e:=λb n z=>by
  grind
 have M:∀b u,H b=↑u->¬QW (↑u)->b≠x:=λb u q N z=>by subst z;rw[q]at m;exact N m
 refine⟨λb u q n _ _=>k b u (B b n) q,λb u q n _ _=>{u.slots,k b u (B b n) q},λb u q n _=>by rw[ak<|X b n];lia,λb u q _=>?_,
  λb s q=>by rw[ak<|M b _ q λz=>z];lia,λb u s q=>by rw[ak<|M b _ q λz=>z];lia,.kept (λb u z=>k b u (λr=>by subst r;rcases E with r|r<;>first|(subst r;rcases z with ⟨q,z⟩;rw[z]at m;exact m)|grind)) λb u q N=>by rw[ak<|M b _ q<|N.aaM];lia⟩
 grind
def Jm(h:ι)(H:Hp):Γ Ψ:=(List.range h.objs.size).filter λa=>(H a).isSome
def EJ(h:ι)(H:Hp):ι:=W.hideAll h<|Jm h H
def D2(h:ι)(H:Hp):(EJ h H).objs.size=h.objs.size:=W.hideAll_size _ _
def Hf(e:h.get? b=↑o)(n:H b=none):(EJ h H).get? b=↑o:=
 W.hideAll_get _ e λm=>by
  have q:(H b).isSome=true:=(List.mem_filter.mp m).2;rw[n]at q;simp at q
def MA(e:(EJ h H).get? b=↑o):h.get? b=↑o/\H b=none:=by
 have E:h.get? b=↑o:=W.of_hideAll (Jm h H) e;refine{E,?_};cases q:H b with
 |none=>rfl
 |some x =>
  have m:b∈Jm h H:=List.mem_filter.mpr {List.mem_range.mpr<|zY E,by simp[q]};have z:(EJ h H).get? b=none:=W.hideAll_none (Jm h H) m;rw[z]at e;cases e
def Sj(m:Str->Δ Θ)(base:ι):Prop:=∃b o,m "__builtins__"=↑(.ref b)/\b≠builtinsNs/\b≠mainGlobals/\base.get? b=↑o/\o.cls=.type "module"/\o.dict=↑builtinsNs/\o.data=.plain
structure Mod(K:W.Frag)(mg:Str->Option Value)(base:Heap):Prop where
 kin:K.In base
 glob:base.Ns mainGlobals mg
 blt:∃mb,base.Ns builtinsNs mb/\∀x:Str,x≠"__name__"->mb x=bootBuiltins x
 nolimit:base.NoLimit
 bmd:Sj mg base
structure Cx where
 prog:ε
 w:δ
 K:Φ
 mg:Str->Δ Θ
 base:ι
 A:ξ
 N:Γ Str
 VQ:Ξ
 VB:Hp
 env:Env
 outer:Γ Env
 stack:Γ Env
 ex:Γ Ψ
 fn:Str->θ
 calm:θ
 pn:Γ (Ψ×Obj)
 xe:Θ->Ξ->Prop
def iO(l:Γ Env):Γ Ψ:=l.filterMap (·.frame)
abbrev Cx.fs(X:Cx):Γ Ψ:=iO X.outer
def nW(sc:ζ)(x:Str):Prop:=sc.names.lookup x=↑.local \/ sc.names.lookup x=↑.cell\/sc.names.lookup x=↑.free
def Loc(sc:ζ)(x:Str):Prop:=sc.names.lookup x=↑.local \/ sc.names.lookup x=↑.cell
def Look(env:Env)(h:ι)(m:Str->Δ Θ)(x:Str)(u:Θ):Prop:=
 (env.kindOf x=↑.local /\ m x=↑u)\/((env.kindOf x=↑.cell\/env.kindOf x=↑.free)/\∃c,env.cells.lookup x=↑c/\h.IsCell c (↑u))
structure Cx.Ok(X:Cx):Prop where
 mod:Mod X.K X.mg X.base
 kind:X.env.scope.kind=.function
 glob:X.env.globals=mainGlobals
 blt:X.env.builtins=builtinsNs
 above:X.VQ.heap.objs.size<=X.env.locals
 inj:∀x y c,X.env.cells.lookup x=↑c->X.env.cells.lookup y=↑c->x=y
 has:∀x,(X.env.kindOf x=↑.cell\/X.env.kindOf x=↑.free)->∃c,X.env.cells.lookup x=↑c
 cab:∀x c,X.fn x=true->X.env.cells.lookup x=↑c->X.VQ.heap.objs.size<=c
 hd:X.calm=true->X.A.handled=none
 frames:X.A.frames=↑X.stack
 ZK:X.stack=X.outer\/(X.stack=X.env::X.outer/\X.env.frame=↑X.env.locals)
 exf:∀b∈X.ex,b≠X.env.locals/\∀x c,X.env.cells.lookup x=↑c->c≠b
 bs:∀b o,X.base.get? b=↑o->X.VQ.heap.get? b=↑o/\X.VB b=none
 ZE:X.base.objs.size<=X.VQ.heap.objs.size
 X8:∀b o,X.base.get? b=↑o->b∉X.ex
 YB:∀b∈X.ex,b∉X.fs
 Wz:X.VQ.heap.FunFrames X.base X.outer
 frf:∀b∈X.fs,X.VB b=none
structure Inv(X:Cx)(pins:List (Addr×Obj))(σ:List (Option V))(H:Hp)(s:Shared):Prop where
 ok:X.Ok
 os:s.os=X.VQ.os
 bare:AllBare s.gens
 base:Un X.fs X.ex X.VB H X.VQ.heap s.heap
 loc:∃m,s.heap.Ns X.env.locals m/\∀(i:Nat)(x:Str)(v:V),X.N[i]?=↑x->σ[i]?=↑(↑v)->nW X.env.scope x->∃u,RelV v u/\Look X.env s.heap m x u
 cell:∀x c,X.env.cells.lookup x=↑c->∃v,s.heap.IsCell c v
 free:H X.env.locals=none
 VV:∀x c,X.env.cells.lookup x=↑c->H c=none
 pin:∀p∈X.pn++pins,s.heap.get? p.1=↑p.2/\H p.1=none/\p.1≠X.env.locals/\p.1∉X.fs/\∀v,p.2.data≠.cell v
 VH:mV X.prog X.w H s.heap
 len:σ.length=X.N.length
def Cx.Ok.afw{X:Cx}(k:X.Ok)(e:X.base.get? b=↑o):b∉X.fs:=λH=>by
 have:=(k.Wz.mem H).1
 grind
def Inv.bs{X:Cx}{s:Ξ}(I:Inv X pins σ H s):∀b o,X.base.get? b=↑o->s.heap.get? b=↑o/\H b=none:=λb o e =>
 {I.base.keep b o (I.ok.bs b o e).1 (I.ok.bs b o e).2 (I.ok.afw e)<|I.ok.X8 b o e,I.base.free b o (I.ok.bs b o e).1 (I.ok.bs b o e).2<|I.ok.X8 b o e}
def Inv.bk(I:Inv X pins σ H s):∀b o,X.base.get? b=↑o->s.heap.get? b=↑o:=λb o e=>(I.bs b o e).1
def Inv.mod(I:Inv X pins σ H s):Mod X.K X.mg X.base:=I.ok.mod
def Inv.WX(I:Inv X pins σ H s):X.K.In s.heap:=I.ok.mod.kin.keeps I.bk
def Inv.nolimit(I:Inv X pins σ H s):s.heap.NoLimit:=I.ok.mod.nolimit.keeps I.bk
def Inv.lt(I:Inv X pins σ H s):X.env.locals<s.heap.objs.size:=let ⟨_,n,_⟩:=I.loc;n.lt
def Inv.sz(I:Inv X pins σ H s):X.VQ.heap.objs.size<=s.heap.objs.size:=yD I.ok.above<|jS I.lt
def Inv.afx(I:Inv X pins σ H s)(h:s.heap.objs.size<=a):a∉X.fs:=λb=>by
 let(_,o,O,_):=I.ok.Wz.mem b;exact absurd (zP (zY O)<|yD I.sz h)<|qE _
def Inv.cne(I:Inv X pins σ H s):∀x c,X.env.cells.lookup x=↑c->c≠X.env.locals:=λx c e z=>by
 let(v,o,O,D):=I.cell x c e;let(m,(a,E,p,r,d,_),_):=I.loc
 grind
def Inv.Wz(I:Inv X pins σ H s):s.heap.FunFrames X.base X.outer:=by
 have a:∀(l:Γ Env),(∀b∈iO l,b∈X.fs)->X.VQ.heap.FunFrames X.base l->s.heap.FunFrames X.base l:=by
  intro l
  induction l with
  |nil=>intro _ _;trivial
  |cons v r i =>
   intro S g;let(hk,(L,o,f,n,O,d),R):=g;have c:L∈X.fs:=S L (by unfold iO;rw[jF,f];exact zE);let(j,e):=I.base.slot L o O (I.ok.frf L c) c λz=>I.ok.YB L z c;exact{hk,{L,_,f,n,e,d},i (λb B=>S b (by unfold iO;rw[jF,f];exact zC _ B)) R}
 exact a X.outer (λ_ B=>B) I.ok.Wz
def Inv.stack(I:Inv X pins σ H s):s.heap.FunFrames X.base X.stack:=by
 rcases I.ok.ZK with e|⟨e,f⟩
 .rw[e];exact I.Wz
 .rw[e];let(m,n,_):=I.loc;exact .cons (by rw[I.ok.kind];simp) f n (Heap.get?_none_of_le<|yD I.ok.ZE I.ok.above) I.Wz
def Inv.YC(I:Inv X pins σ H s):∀b∈iO X.stack,b∈X.env.locals::X.fs:=λb B=>by
 rcases I.ok.ZK with e|⟨e,f⟩
 .rw[e]at B;exact zC _ B
 .rw[e,iO,jF,f]at B;exact B
def Inv.WK(I:Inv X pins σ H s):∀b∈iO X.stack,H b=none:=λb B=>by
 rcases List.mem_cons.mp (I.YC b B)with e|B
 .rw[e];exact I.free
 .let(_,o,O,_):=I.ok.Wz.mem B;exact I.base.free b o O (I.ok.frf b B) λz=>I.ok.YB b z B
def Inv.step{g':Array GenState}{t':Nat}{d':Drawn}{ch:Γ Ψ}(I:Inv X pins σ H s)
  (Z:∀b∈ch,(b∈X.ex\/X.VQ.heap.objs.size<=b)/\b≠X.env.locals/\(∀x c,X.env.cells.lookup x=↑c->c≠b)/\∀p∈X.pn++pins,p.1≠b)
  (P:∀b o,b≠X.env.locals->b∉X.fs->b∉ch->s.heap.get? b=↑o->H b=none->h'.get? b=↑o)
  (t:∀b o,b≠X.env.locals->b∈X.fs->b∉ch->s.heap.get? b=↑o->H b=none->∃S,h'.get? b=some {o with slots:=S})(f:∀b o,b∉ch->s.heap.get? b=↑o->H b=none->H' b=none)
  (T:∀b o,b∉ch->s.heap.get? b=↑o->∃g,h'.get? b=↑g)
  (M:∀b xs,H b=↑(.tup xs)->H' b=↑(.tup xs))(W:∀b o u,H b=↑(.Wj o u)->H' b=↑(.Wj o u))(Q:MW H H' s.heap h')
  (ns:∀m,s.heap.Ns X.env.locals m->h'.Ns X.env.locals m)(J:mV X.prog X.w H' h')(U:AllBare g') :
  Inv X pins σ H' {s with heap:=h',gens:=g',drawn:=d',toks:=t'}:=by
 have N:∀b o,X.VQ.heap.get? b=↑o->b≠X.env.locals:=λb o e=>yR<|zP (zY e) I.ok.above;have C:∀b o,X.VQ.heap.get? b=↑o->b∉X.ex->b∉ch:=λb o e a B=>by
  rcases(Z b B).1 with z|z
  .exact a z
  .exact absurd (zP (zY e) z)<|qE _
 have K:∀x c,X.env.cells.lookup x=↑c->∀v,s.heap.IsCell c v->h'.IsCell c v:=λx c e v z=>by
  let(o,O,D):=z;have L:=λz=>(Z c z).2.2.1 x c e rfl;by_cases hc:c∈X.fs
  .let(S,q):=t c o (I.cne x c e) hc L O<|I.VV x c e;exact{_,q,D}
  .exact{o,P c o (I.cne x c e) hc L O<|I.VV x c e,D}
 refine{I.ok,I.os,U,{λb o e n B a=>(P b o (N b o e) B (C b o e a) (I.base.keep b o e n B a)<|I.base.free b o e n a),λb o e n B a=>?_,λb o e n a=>?_,λb o e a=>?_,λb xs e=>M b xs<|I.base.WT b xs e,λb o xs e=>W b o xs<|I.base.WJ b o xs e,I.base.Wx.trans Q},?_,λx c e=>?_,?_,λx c e=>?_,λp A=>?_,J,I.len}
 .let(S,E):=I.base.slot b o e n B a;let(y,j):=t b _ (N b o e) B (C b o e a) E<|I.base.free b o e n a;exact{y,j}
 .let(g,E):=I.base.there b o e a;exact f b g (C b o e a) E<|I.base.free b o e n a
 .let(g,E):=I.base.there b o e a;exact T b g (C b o e a) E
 .let(m,hn,Y):=I.loc;refine{m,ns m hn,λi x v E j R=>?_};let(u,r,l):=Y i x v E j R;refine{u,r,?_};rcases l with l|⟨k,c,e,z⟩
  .exact .inl l
  .exact .inr {k,c,e,K x c e _ z}
 .let(v,z):=I.cell x c e;exact{v,K x c e v z}
 .let(m,(o,_,_,O,_),_):=I.loc;exact f _ o (λz=>(Z _ z).2.1 rfl) O I.free
 .let(v,o,O,D):=I.cell x c e;exact f c o (λz=>(Z c z).2.2.1 x c e rfl) O<|I.VV x c e
 .let(e,n,F,G,d):=I.pin p A;have L:=λz=>(Z _ z).2.2.2 p A rfl;exact{P _ _ F G L e n,f _ _ L e n,F,G,d}
def Inv.un{t':Nat}(I:Inv X pins σ H s)(u:Un X.fs [] H H' s.heap h')(v:mV X.prog X.w H' h'):Inv X pins σ H' {s with heap:=h',toks:=t'}:=by
 let(m,(o,S,P,O,r),_):=I.loc;let(l,L):=u.any O I.free (by simp);exact I.step (ch:=[]) (nofun) (λb o _ B _ e n=>u.keep b o e n B<|by lia) (λb o _ B _ e n=>u.slot b o e n B<|by lia) (λb o _ e n=>u.free b o e n<|by lia) (λb o _ e=>u.there b o e<|by lia) u.WT u.WJ u.Wx (λa M=>by
  let(c,E,p,x,R):=M;rw[O]at x;cases x;exact{_,E,p,L,R}) v I.bare
def Inv.call{t':Nat}{d':Drawn}{ch:Γ Ψ}(I:Inv X pins σ H s)(u:Un (iO X.stack) ch H H' s.heap h')(v:mV X.prog X.w H' h')(g:AllBare g')
  (Z:∀b∈ch,(b∈X.ex\/X.VQ.heap.objs.size<=b)/\b≠X.env.locals/\(∀x c,X.env.cells.lookup x=↑c->c≠b)/\∀p∈X.pn++pins,p.1≠b) :
  Inv X pins σ H' {s with heap:=h',gens:=g',drawn:=d',toks:=t'}:=by
 let(m,(o,d,P,O,r),_):=I.loc;let(l,L):=u.any O I.free λz=>(Z _ z).2.1 rfl;exact I.step Z (λb o L B hc e n=>u.keep b o e n (λz=>(List.mem_cons.mp<|I.YC b z).elim L B) hc) (λb o _ _ hc e n=>u.any e n hc) (λb o hc e n=>u.free b o e n hc) (λb o hc e=>u.there b o e hc) u.WT u.WJ u.Wx (λf M=>by
  let(i,S,E,R,a):=M;rw[O]at R;cases R;exact{_,S,E,L,a}) v g
def Inv.turned{t':Nat}(I:Inv X pins σ H s)(k:∀b o,b≠it->s.heap.get? b=↑o->h'.get? b=↑o)(N:H it=none)(L:it≠X.env.locals)
  (a:it∈X.ex\/X.VQ.heap.objs.size<=it)(d:∀x c,X.env.cells.lookup x=↑c->c≠it)(f:∀p∈X.pn++pins,p.1≠it):Inv X pins σ H {s with heap:=h',toks:=t'}:=by
 refine I.step (ch:=[it]) (λb B=>?_) (λb o _ _ hc e _=>k b o (λz=>hc<|by grind) e) (λb o _ _ hc e _=>{o.slots,k b o (λz=>hc<|by grind) e}) (λ_ _ _ _ n=>n)
  (λb o hc e=>{o,k b o (λz=>hc<|by grind) e}) (λ_ _ e=>e) (λ_ _ _ e=>e) (.kept (λb u z=>k b u λr=>by grind) λ_ _ e _=>e) (λm M=>?_) (λb u e=>?_) I.bare
 .have e:=by simpa using B
  subst e;exact{a,L,d,f}
 .let(o,S,E,O,r):=M;exact{o,S,E,k _ o (jM L) O,r}
 .refine (I.VH b u e).Wa (λc v hc=>k c v ?_) (λ_ q=>q) λ_ _ q _=>q
  grind
def Inv.tok(I:Inv X pins σ H s)(t:Nat):Inv X pins σ H {s with toks:=t}:=I.un Un.refl I.VH
def Inv.kept{t':Nat}(I:Inv X pins σ H s)(k:∀b u,s.heap.get? b=↑u->h'.get? b=↑u):Inv X pins σ H {s with heap:=h',toks:=t'}:=I.un (Un.kept k)<|I.VH.kept k
def Inv.laid{t':Nat}(I:Inv X pins σ H s)(k:∀b u,s.heap.get? b=↑u->h'.get? b=↑u)(p:s.heap.objs.size<=a)(n:dX X.prog X.w (upd H a o) h' a o) :
  Inv X pins σ (upd H a o) {s with heap:=h',toks:=t'}:=I.un (Un.laid k p<|I.VH.fresh p)<|I.VH.laid k p n
def Inv.write{t':Nat}(I:Inv X pins σ H s)(m:QW (H x))(E:e=x\/H e=↑(.own x))(k:∀b u,b≠e->s.heap.get? b=↑u->h'.get? b=↑u)(O:∃u,h'.get? e=↑u)
  (n:dX X.prog X.w (upd H x o) h' x o):Inv X pins σ (upd H x o) {s with heap:=h',toks:=t'}:=I.un (Un.write m E k O)<|I.VH.write m E k O n
def Inv.XI(I:Inv X pins σ H s)(h:∀p∈pins',s.heap.get? p.1=↑p.2/\H p.1=none/\p.1≠X.env.locals/\p.1∉X.fs/\∀v,p.2.data≠.cell v):Inv X pins' σ H s:=
 {I.ok,I.os,I.bare,I.base,I.loc,I.cell,I.free,I.VV,λp P=>(List.mem_append.mp P).elim (λz=>I.pin p<|qJ _ z)<|h p,I.VH,I.len}
def yw{N:Γ Str}(H:N.Nodup){i j:Nat}(a:N[i]?=↑x)(b:N[j]?=↑x):i=j:=by
 let(c,e):=List.getElem?_eq_some_iff.mp a;let(d,E):=List.getElem?_eq_some_iff.mp b;exact(List.getElem_inj H).mp<|e.trans E.symm
def oH{M:Model}{A:ξ}{E:Θ->Ξ->Prop}{i:Nat}{Q:Unit->Ξ->Prop}(I:Inv X pins σ H s)(hN:X.N.Nodup)(hi:X.N[i]?=↑x)(g:Loc X.env.scope x)(r:RelV v u)
  (h:∀s',Inv X pins (σ.set i<|↑v) H s'->(∃a,Heap.SameBut a s.heap s'.heap/\(a=X.env.locals\/X.env.cells.lookup x=↑a))->Q () s')(hf:X.fn x=true\/X.env.scope.names.lookup x=↑.local:=by first|exact .inl rfl|exact .inr rfl|assumption):wpAny M A (storeName X.env x u) Q E s:=by
 let(m,T,hl):=id I.loc;have X9:(X.env.scope.kind==.class||(X.env.scope.kind==.module&&X.env.locals != X.env.globals))=false:=by rw[I.ok.kind];rfl
 have G:i<σ.length:=by rw[I.len];exact(List.getElem?_eq_some_iff.mp hi).1
 have C:=I.cne;have t:∀{a:Ψ}{F:ι},(∃o,s.heap.get? a=↑o/\H a=none)->Heap.SameBut a s.heap F->mV X.prog X.w H F:=λ{a F}ha S b ob e=>by
  let(_,_,WL):=ha;refine(I.VH b ob e).Wa (λc W hc q=>(S.2 c ?_).trans q) (λ_ q=>q) λ_ _ q _=>q;rintro rfl;rcases hc with rfl|hc
  .rw[WL]at e;cases e
  .rw[WL]at hc;cases hc
 rcases g with hk|hk
 .refine wpAny_storeName_local hk T (λF U S=>?_) X9;let(oL,_,_,Z,_):=id T;refine h _ {I.ok,I.os,I.bare,{λb o e n B g=>?_,λb o e n B g=>?_,I.base.free,λb o e g=>?_,I.base.WT,I.base.WJ,I.base.Wx.trans<|.kept (λb u z e=>(S.2 b (λr=>by rcases z with ⟨q,z⟩;rw[r,I.free]at z;cases z)).trans e) λ_ _ e _=>e},{_,U,λj y v' f l R=>?_},λy c e=>?_,I.free,I.VV,λp hp=>?_,t {oL,Z,I.free} S,by simpa using I.len} {_,S,.inl rfl}
  .exact (S.2 b<|yR<|zP (zY e) I.ok.above).trans<|I.base.keep b o e n B g
  .let(sl,f):=I.base.slot b o e n B g;exact{sl,(S.2 b<|yR<|zP (zY e) I.ok.above).trans f}
  .let(o',f):=I.base.there b o e g;exact{o',(S.2 b<|yR<|zP (zY e) I.ok.above).trans f}
  .by_cases J:j=i
   .subst J;rw[hi]at f;cases f;rw[vM G]at l;cases l;exact{u,r,.inl {hk,by simp}}
   .rw[kP<|jM J]at l;let(u',r',q):=hl j y v' f l R;refine{u',r',?_};rcases q with ⟨k,e⟩|⟨k,c,e,z⟩
    .refine .inl {k,?_};have:y≠x:=λe=>J<|yw hN f<|e▸hi;simp[this,e]
    .exact .inr {k,c,e,z.sameBut S<|C y c e}
  .let(W,z):=I.cell y c e;exact{W,z.sameBut S<|C y c e}
  .let(e,n,P,nf,d):=I.pin p hp;exact{(S.2 p.1 P).trans e,n,P,nf,d}
 .have D:X.fn x=true:=by
   rcases hf with z|z
   .exact z
   .rw[z]at hk;cases hk
  let(c,hc):=I.ok.has x<|.inl hk;let(W,z):=I.cell x c hc;refine wpAny_storeName_cell I.ok.kind hk hc z λF WU S=>?_;let(oc,L,Y):=id z;refine h {s with heap:=F} {I.ok,I.os,I.bare,{λb o e n B g=>?_,λb o e n B g=>?_,I.base.free,λb o e g=>?_,I.base.WT,I.base.WJ,I.base.Wx.trans<|.kept (λb u z e=>(S.2 b (λr=>by rcases z with ⟨q,z⟩;rw[r,I.VV x c hc]at z;cases z)).trans e) λ_ _ e _=>e},{m,T.sameBut S<|jM<|C x c hc,λj y v' f l R=>?_},λy O e=>?_,I.free,I.VV,λp hp=>?_,t {oc,L,I.VV x c hc} S,by simpa using I.len} {c,S,.inr hc}
  .exact (S.2 b<|yR<|zP (zY e)<|I.ok.cab x c D hc).trans<|I.base.keep b o e n B g
  .let(sl,f):=I.base.slot b o e n B g;exact{sl,(S.2 b<|yR<|zP (zY e)<|I.ok.cab x c D hc).trans f}
  .let(o',f):=I.base.there b o e g;exact{o',(S.2 b<|yR<|zP (zY e)<|I.ok.cab x c D hc).trans f}
  .by_cases J:j=i
   .subst J;rw[hi]at f;cases f;rw[vM G]at l;cases l;exact{u,r,.inr {.inl hk,c,hc,WU}}
   .rw[kP<|jM J]at l;let(u',r',q):=hl j y v' f l R;refine{u',r',?_};rcases q with q|⟨k,O,e,z'⟩
    .exact .inl q
    .refine .inr {k,O,e,z'.sameBut S ?_};rintro rfl;exact J<|yw hN f<|I.ok.inj _ _ _ e hc▸hi
  .by_cases K:O=c
   .subst K;exact{_,WU}
   .let(w2,z2):=I.cell y O e;exact{w2,z2.sameBut S K}
  .let(e,n,P,nf,d):=I.pin p hp;refine{(S.2 p.1 ?_).trans e,n,P,nf,d};intro q;rw[q,L]at e;have q':oc=p.2:=xD e;exact d W (by rw[<-q'];exact Y)
def An{M:Model}{A:ξ}{E:Θ->Ξ->Prop}(I:Inv X pins σ H s)(n:X.N.Nodup)(hi:X.N[i]?=↑x)(b:Loc X.env.scope x)(r:RelV v u)
  (h:∀s',Inv X pins (σ.set i<|↑v) H s'->Q () s')(f:X.fn x=true\/X.env.scope.names.lookup x=↑.local:=by first|exact .inl rfl|exact .inr rfl|assumption):wpAny M A (storeName X.env x u) Q E s:=
 oH I n hi b r (λs' a _=>h s' a) f
def Inv.ZM{ch:Γ Ψ}(I:Inv X pins σ H s)(o:s'.os=s.os)(u:Un (iO X.stack) ch H H' s.heap s'.heap)(v:mV X.prog X.w H' s'.heap)(g:AllBare s'.gens)
  (Z:∀b∈ch,(b∈X.ex\/X.VQ.heap.objs.size<=b)/\b≠X.env.locals/\(∀x c,X.env.cells.lookup x=↑c->c≠b)/\∀p∈X.pn++pins,p.1≠b):Inv X pins σ H' s':=by
 let(a,G,d,t,O):=s';subst o;exact I.call u v g Z
abbrev XK:=Θ->Δ Ψ->Hp->Prop
abbrev St:=Γ<|Δ V
abbrev VK:=V->Hp->Prop
abbrev TE:=St->Hp->VK->Prop
abbrev TT:=St->Hp->(θ->Hp->Prop)->Prop
abbrev TA:=St->Hp->(Γ V->Hp->Prop)->Prop
structure Ends where
 nx:St->Hp->Prop
 rt:VK
 bk:St->Hp->Prop:=λ_ _=>False
 ct:St->Hp->Prop:=λ_ _=>False
abbrev TS:=Ends->St->Hp->Prop
def EP(X:Cx)(pins:Γ (Ψ×Obj))(σ:St)(Q:VK)(u:Θ)(s':Ξ):Prop:=∃v H,Inv X pins σ H s'/\RelV v u/\Q v H
def TP(X:Cx)(pins:Γ (Ψ×Obj))(σ:St)(Q:θ->Hp->Prop)(b:θ)(s':Ξ):Prop:=∃H,Inv X pins σ H s'/\Q b H
def AP(X:Cx)(pins:Γ (Ψ×Obj))(σ:St)(Q:Γ V->Hp->Prop)(us:Γ Θ)(s':Ξ):Prop:=∃v H,Inv X pins σ H s'/\aG v us/\Q v H
def SP(X:Cx)(pins:Γ (Ψ×Obj))(D:Ends)(f:Flow)(s':Ξ):Prop:=
 match f with
 |.next=>∃a H,Inv X pins a H s'/\D.nx a H
 |.brk=>∃a H,Inv X pins a H s'/\D.bk a H
 |.cont=>∃a H,Inv X pins a H s'/\D.ct a H
 |.ret u=>∃v a H,Inv X pins a H s'/\RelV v u/\D.rt v H
def PE(X:Cx)(e:γ)(t:TE):Prop:=
 ∀(p:Γ (Ψ×Obj))(s:Ξ)(a:St)(H:Hp)(Q:VK),Inv X p a H s->t a H Q->wpAny (model X.prog X.w) X.A (eval e X.env) (EP X p a Q) X.xe s
def PT(X:Cx)(e:γ)(t:TT):Prop:=
 ∀(p:Γ (Ψ×Obj))(s:Ξ)(a:St)(H:Hp)(Q:θ->Hp->Prop),Inv X p a H s->t a H Q->wpAny (model X.prog X.w) X.A (isTrue e X.env<|eval e X.env) (TP X p a Q) X.xe s
def PW(X:Cx)(e:γ)(t:TT):Prop:=
 ∀(whole:Sem Θ)(p:Γ (Ψ×Obj))(s:Ξ)(a:St)(H:Hp)(Q:θ->Hp->Prop),Inv X p a H s->t a H Q->wpAny (model X.prog X.w) X.A (isTrue e X.env whole) (TP X p a Q) X.xe s
def PW.pt(h:PW X e t):PT X e t:=h _
def PA(X:Cx)(es:Γ γ)(t:TA):Prop:=
 ∀(P:Pos)(p:Γ (Ψ×Obj))(s:Ξ)(a:St)(H:Hp)(Q:Γ V->Hp->Prop),Inv X p a H s->t a H Q->wpAny (model X.prog X.w) X.A (spliced<|backTo P<|starEach es X.env) (AP X p a Q) X.xe s
def PS(X:Cx)(st:Ω)(t:TS):Prop:=
 ∀(p:Γ (Ψ×Obj))(s:Ξ)(a:St)(H:Hp)(D:Ends),Inv X p a H s->t D a H->wpAny (model X.prog X.w) X.A (exec st X.env) (SP X p D) X.xe s
def qb(X:Cx)(st:Γ Ω)(t:TS):Prop:=
 ∀(p:Γ (Ψ×Obj))(s:Ξ)(a:St)(H:Hp)(D:Ends),Inv X p a H s->t D a H->wpAny (model X.prog X.w) X.A (execs st X.env) (SP X p D) X.xe s
def b0(h:wpAny M A t Q E s)(H:∀a s,Q a s->U a s):wpAny M A t U E s:=xA h H λ_ _ x=>x
section
def Fg(i:Nat):TE:=λa H Q=>∃v,a[i]?=↑(↑v)/\Q v H
def tC(v:V):TE:=λ_ H Q=>Q v H
def bQ(n:X.N[i]?=↑x)(b:nW X.env.scope x)(d:(x=="__debug__")=false:=by decide)(R:(x=="__classdict__")=false:=by decide):PE X (.Name x pos) (Fg i):=by
 intro p s f H Q I h;let(v,e,h):=h;let(m,a,L):=I.loc;let(u,r,l):=L i x v n e b;have fin:EP X p f Q u s:={v,H,I,r,h}
 rcases l with ⟨hk,M⟩|⟨hk,c,hc,Y⟩
 .exact wD (vW I.ok.kind hk a M fin) d
 .rcases hk with hk|hk
  .exact wD (wpAny_loadName_cell I.ok.kind hk hc Y fin) d
  .exact wD (wpAny_loadName_free I.ok.kind hk hc Y fin R) d
def IQ{i j pos}:PE X (.Constant (.int i) j pos) (tC<|.int i):=λ_ _ _ H _ I h=>wpAny_Constant_int {.int i,H,I.tok _,{_,rfl},h}
def HG{b j pos}:PE X (.Constant (.bool b) j pos) (tC<|.bl b):=λ_ _ _ H _ I h=>Constant_bool {.bl b,H,I,rfl,h}
def OU{j pos}:PE X (.Constant .none j pos) (tC .VC):=λ_ _ _ H _ I h=>Constant_none {.VC,H,I,rfl,h}
def Hj{x j pos}:PE X (.Constant (.str x) j pos) (tC<|.str x):=λ_ _ _ H _ I h=>Calls.Constant_str {.str x,H,I.tok _,{_,rfl},h}
def Gl(X:Cx)(x:Str):Prop:=X.env.kindOf x=↑.globalImplicit
def jg{E:Θ->Ξ->Prop}{pos:Pos}(I:Inv X pins σ H s)(g:Gl X x)(m:X.mg x=↑u)(h:Q u s)
  (d:(x=="__debug__")=false:=by decide):wpAny (model X.prog X.w) X.A (eval (.Name x pos) X.env) Q E s:=
 Calls.Name_function_global I.ok.kind g (Calls.loadGlobal_global (by rw[I.ok.glob];exact I.mod.glob.keeps I.bk) m h) d
def fO{E:Θ->Ξ->Prop}{pos:Pos}(I:Inv X pins σ H s)(g:Gl X x)(m:X.mg x=none)(v:bootBuiltins x=↑u)(h:Q u s)
  (n:x≠"__name__":=by decide)(d:(x=="__debug__")=false:=by decide):wpAny (model X.prog X.w) X.A (eval (.Name x pos) X.env) Q E s:=by
 let(M,a,b):=I.mod.blt;exact Calls.Name_function_global I.ok.kind g (Calls.loadGlobal_builtin (by rw[I.ok.glob];exact I.mod.glob.keeps I.bk) m (by rw[I.ok.blt];exact a.keeps I.bk) ((b x n).trans v) h) d
def Ll(g:Gl X x)(m:X.mg x=↑u)(r:RelV v u)(d:(x=="__debug__")=false:=by decide):PE X (.Name x pos) (tC v):=
 λ_ _ _ H _ I h=>jg I g m {v,H,I,r,h} d
def KA(g:Gl X x)(m:X.mg x=none)(a:bootBuiltins x=↑u)(r:RelV v u)(n:x≠"__name__":=by decide)(d:(x=="__debug__")=false:=by decide):PE X (.Name x pos) (tC v):=
 λ_ _ _ H _ I h=>fO I g m a {v,H,I,r,h} n d
def IV(b:γ)(h:op≠.In)(H:op≠.NotIn):behindInMarks op b=false:=by
 have e:(op==.In)=false:=by grind
 cases b<;>simp[behindInMarks,e,(show(op==CmpOp.NotIn)=false by grind)]
def tB(t:TE):TT:=λb H Q=>t b H λx a=>∃c,x=.bl c/\Q c a
def Ik(h:PE X e t)(E:∀whole,isTrue e X.env whole=(do let v <- whole;standAt e.pos;holding [v]<|truthy v):=by intro _;rfl):PT X e (tB t):=by
 refineλp s c H Q I hw=>isTrue_plain (b0 (h p s c H _ I hw) λv S z=>?_)<|E _;let(x,a,i,r1,b):=z;let(d,rfl,q):=b;cases r1;exact xW {a,i,q}
variable {rest:Γ γ}
def SF(t u:TT):TT:=λb H Q=>t b H λc a=>if c=true then u b a Q else Q false a
def UU(t u:TT):TT:=λb H Q=>t b H λc a=>if c=true then Q true a else u b a Q
def T9(t:TT):TT:=λb H Q=>t b H λc a=>Q (!c) a
def Le(A:PT X a tA):PW X (.BoolOp .And [a] pos) tA:=by
 refineλw p s b H Q I h=>isTrue_and<|b0 (A p s b H Q I h) λc S e=>?_;cases c with
 |true=>exact isTrue_and_nil e
 |false=>exact e
def BA(A:PT X a tA):PW X (.BoolOp .Or [a] pos) tA:=by
 refineλw p s b H Q I h=>isTrue_or<|b0 (A p s b H Q I h) λc S e=>?_;cases c with
 |false=>exact isTrue_or_nil e
 |true=>exact e
def Om(A:PT X a tA)(B:PW X (.BoolOp .And (b::rest) pos) U):PW X (.BoolOp .And (a::b::rest) pos) (SF tA U):=by
 refineλw p s e H Q I h=>isTrue_and<|b0 (A p s e H _ I h) λc S z=>?_;let(d,i,q):=z;cases c with
 |true=>exact B w p S e d Q i q
 |false=>exact{d,i,q}
def HK(A:PT X a tA)(B:PW X (.BoolOp .Or (b::rest) pos) U):PW X (.BoolOp .Or (a::b::rest) pos) (UU tA U):=by
 refineλw p s e H Q I h=>isTrue_or<|b0 (A p s e H _ I h) λc S z=>?_;let(d,i,q):=z;cases c with
 |true=>exact{d,i,q}
 |false=>exact B w p S e d Q i q
def Gu(A:PT X a tA):PT X (.UnaryOp .Not a pos) (T9 tA):=by
 exactλp s b H Q I h=>isTrue_not<|A p s b H _ I h
def QH(ta tb:TE):TE:=λb H Q=>ta b H λx a=>∃c,x=.bl c/\if c=true then tb b a Q else Q (.bl false) a
def TX(ta tb:TE):TE:=λb H Q=>ta b H λx a=>∃c,x=.bl c/\if c=true then Q (.bl true) a else tb b a Q
def N6{op}(h:PE X a t):PE X (.BoolOp op [a] pos) t:=λp s b H Q I hw=>BoolOp_one<|h p s b H Q I hw
def Nn(A:PE X a ta)(B:PE X (.BoolOp .And (b::rest) pos) tb):PE X (.BoolOp .And (a::b::rest) pos) (QH ta tb):=by
 refineλp s e H Q I h=>BoolOp_and<|b0 (A p s e H _ I h) λv S z=>?_;let(x,d,i,r1,q):=z;let(c,rfl,q):=q;cases r1;apply xW;cases c with
 |true=>exact B p S e d Q i q
 |false=>exact{.bl false,d,i,rfl,q}
def M4(A:PE X a ta)(B:PE X (.BoolOp .Or (b::rest) pos) tb):PE X (.BoolOp .Or (a::b::rest) pos) (TX ta tb):=by
 refineλp s e H Q I h=>BoolOp_or<|b0 (A p s e H _ I h) λv S z=>?_;let(x,d,i,r1,q):=z;let(c,rfl,q):=q;cases r1;apply xW;cases c with
 |false=>exact B p S e d Q i q
 |true=>exact{.bl true,d,i,rfl,q}
def Vd(t:TT)(ta tb:TE):TE:=λa H Q=>t a H λc b=>if c=true then ta a b Q else tb a b Q
def rV(hc:PT X c tA)(A:PE X a ta)(B:PE X b tb):PE X (.IfExp c a b pos) (Vd tA ta tb):=by
 refineλp s e H Q I h=>wpAny_IfExp<|b0 (hc p s e H _ I h) λd S z=>?_;let(f,i,q):=z;cases d with
 |true=>exact A p S e f Q i q
 |false=>exact B p S e f Q i q
end
def iw(K:Φ)(H:Hp)(a:Ψ)(xs:Γ V):Prop:=
 Rd H a (.lst xs) \/
  ∃ (o:Obj) (E:Array Θ) (n:Nat),K.lookup a=↑o/\o.cls=.type "list"/\o.dict=none/\o.data=.seq E n/\E.size<=sizeLine/\aG xs E.toList
def gm(K:Φ)(H:Hp)(a:Ψ)(xs:Γ V):Prop:=
 Rd H a (.tup xs) \/
  ∃ (o:Obj) (E:Array Θ) (n:Nat),K.lookup a=↑o/\o.cls=.type "tuple"/\o.dict=none/\o.data=.seq E n/\E.size<=sizeLine/\aG xs E.toList
def Uq:Θ->Δ V
 |.none=>↑.VC
 |.bool b=>↑(.bl b)
 |.int i _=>↑(.int i)
 |.str x _=>↑(.str x)
 |.bytes b _=>↑(.byt b)
 |.float b _=>↑(.flt b)
 |.ref a=>↑(.ref a)
 |.type n=>↑(.ty n)
 |_=>none
def RelV.abs(r:RelV x u):Uq u=↑x:=by
 cases x with
 |VC=>cases r;rfl
 |bl _=>cases r;rfl
 |int _=>let(t,rfl):=r;rfl
 |str _=>let(t,rfl):=r;rfl
 |byt _=>let(t,rfl):=r;rfl
 |flt _=>let(t,rfl):=r;rfl
 |ref _=>cases r;rfl
 |ty _=>cases r;rfl
def RelV.inj(r:RelV x u)(q:RelV y u):x=y:=xD<|r.abs.symm.trans q.abs
def aG.inj(h:aG xs us):aG ys us->xs=ys:=by
 induction h generalizing ys with
 |nil=>intro h;cases h;rfl
 |cons r t i=>intro h;cases h with|cons R T=>rw[r.inj R,i T]
def iw.of{K:Φ}(h:H a=↑(.lst xs)):iw K H a xs:=.inl<|.inl h
def Inv.list(I:Inv X pins σ H s)(h:iw X.K H a xs):∃E ,aG xs E/\PlainL s.heap a E.toArray/\xs.length<=sizeLine:=by
 rcases h with h|⟨o,E,n,hk,hc,d,S,Z,r⟩
 .let(z,E,n,r,e):=h.ok I.VH;exact{E,r,{_,n,e,rfl,rfl,rfl},z}
 .refine{E.toList,r,{o,n,I.WX a o hk,hc,d,by omega},?_};have e:=r.length
  grind
def Inv.tuple(I:Inv X pins σ H s)(h:gm X.K H a xs):∃E ,aG xs E/\IsTup s.heap a E.toArray/\xs.length<=sizeLine:=by
 rcases h with h|⟨o,E,n,hk,hc,_,S,Z,r⟩
 .let(z,E,r,p):=h.ok I.VH;exact{E,r,p.1,z}
 .refine{E.toList,r,{o,I.WX a o hk,hc,n,by omega},?_};have e:=r.length
  grind
def Inv.Yc(I:Inv X pins σ H s)(h:iw X.K H a xs)(h':iw X.K H a ys):xs=ys:=by
 let(E,r,(o,n,e,_,_,d),_):=I.list h;let(i,R,(O,N,b,_,_,D),_):=I.list h';have:E=i:=by grind
 subst this;exact r.inj R
def Inv.XA(I:Inv X pins σ H s)(h:gm X.K H a xs)(h':gm X.K H a ys):xs=ys:=by
 let(E,r,(o,e,_,n,d),_):=I.tuple h;let(i,R,(O,b,_,N,D),_):=I.tuple h';have:E=i:=by grind
 subst this;exact r.inj R
abbrev Cx.WM(X:Cx)(E:Θ->Ξ->Prop):Cx:={X with xe:=E}
abbrev Cx.V0(X:Cx):Cx:=X.WM λ_ _=>False
def Cx.Ok.WM{X:Cx}(o:X.Ok)(E:Θ->Ξ->Prop):(X.WM E).Ok:=
 {o.mod,o.kind,o.glob,o.blt,o.above,o.inj,o.has,o.cab,o.hd,o.frames,o.ZK,o.exf,o.bs,o.ZE,o.X8,o.YB,o.Wz,o.frf}
def Cx.Ok.V1{X:Cx}{E:Θ->Ξ->Prop}(o:(X.WM E).Ok):X.Ok:=
 {o.mod,o.kind,o.glob,o.blt,o.above,o.inj,o.has,o.cab,o.hd,o.frames,o.ZK,o.exf,o.bs,o.ZE,o.X8,o.YB,o.Wz,o.frf}
def Inv.WM(I:Inv X pins σ H s)(E:Θ->Ξ->Prop):Inv (X.WM E) pins σ H s:={I.ok.WM E,I.os,I.bare,I.base,I.loc,I.cell,I.free,I.VV,I.pin,I.VH,I.len}
def Inv.V1(I:Inv (X.WM E) pins σ H s):Inv X pins σ H s:={I.ok.V1,I.os,I.bare,I.base,I.loc,I.cell,I.free,I.VV,I.pin,I.VH,I.len}
def SP.V1{D:Ends}(h:SP (X.WM E) pins D f s'):SP X pins D f s':=by
 cases f with
 |next=>let(a,H,I,q):=h;exact{a,H,I.V1,q}
 |brk=>let(a,H,I,q):=h;exact{a,H,I.V1,q}
 |cont=>let(a,H,I,q):=h;exact{a,H,I.V1,q}
 |ret u=>let(v,a,H,I,r,q):=h;exact{v,a,H,I.V1,r,q}
def PT.V0(h:PT X.V0 e t):PT X e t:=λp s b H Q I hw =>
 xA (h p s b H Q (I.WM _) hw) (λ_ _ z=>by let(a,i,q):=z;exact {a,i.V1,q}) λ_ _=>False.elim
def qb.V0{st:Γ Ω}(h:qb X.V0 st t):qb X st t:=λp s a H D I hw =>
 xA (h p s a H D (I.WM _) hw) (λ_ _ q=>q.V1) λ_ _=>False.elim
section
variable {st:Ω}{rest:Γ Ω}
def QV:TS:=λD a H=>D.nx a H
def SY(t u:TS):TS:=λD a H=>t {D with nx:=u D} a H
def ll:qb X [] QV:=λ_ _ a H _ I h=>vN {a,H,I,h}
def et(c:PS X st t)(d:qb X rest u):qb X (st::rest) (SY t u):=by
 refineλp s e H D I h=>vE<|b0 (c p s e H _ I h) λf S q=>?_;cases f with
 |next =>
  let(a,b,i,q):=q;exact d p S a b D i q
 |ret v=>exact q
 |brk=>exact q
 |cont=>exact q
def pQ(a:PS X st t):qb X [st] t:=by
 refineλp s b H D I h=>vE<|b0 (a p s b H D I h) λf S q=>?_;cases f with
 |next=>exact vN q
 |ret v=>lia
 |brk=>lia
 |cont=>lia
def Inv.quiet(I:Inv X pins σ H s):interactive X.env=false:=by simp[interactive,I.ok.kind]
def MY(te:TE):TS:=λD a H=>te a H λ_ b=>D.nx a b
def iW(E:PE X e te)(hs:swapsWith e none pos.line X.env=pure false:=by rfl):PS X (.Expr e pos) (MY te):=by
 exactλp s a H D I h=>wpAny_Expr_any (b0 (E p s a H _ I h) λv S z=>by let(x,b,i,r1,q):=z;exact {a,b,i,q}) I.quiet hs
def Ts(te:TE):TS:=λD a H=>te a H D.rt
def rq(E:PE X e te):PS X (.Return (↑e) pos) (Ts te):=by
 exactλp s a H D I h=>wpAny_Return_some (b0 (E p s a H _ I h) λv S z=>by let(x,b,i,r1,q):=z;exact {x,a,b,i,r1,q})
def Ub(c:TT)(t u:TS):TS:=λD a H=>c a H λb d=>if b=true then t D a d else u D a d
def uJ(hc:PT X c U)(A:qb X a t)(B:qb X b u):PS X (.If c a b pos) (Ub U t u):=by
 refineλp s e H D I h=>wpAny_If<|b0 (hc p s e H _ I h) λd S z=>?_;let(f,i,q):=z;cases d with
 |true=>exact A p S e f D i q
 |false=>exact B p S e f D i q
end
abbrev TG:=V->St->Hp->(St->Hp->Prop)->Prop
abbrev Rx:=Γ V->St->Hp->(St->Hp->Prop)->Prop
def PG(X:Cx)(T:γ)(t:TG):Prop:=
 ∀(p:Γ (Ψ×Obj))(s:Ξ)(c:St)(H:Hp)(v:V)(u:Θ)(Q:St->Hp->Prop),Inv X p c H s->RelV v u->t v c H Q ->
  wpAny (model X.prog X.w) X.A (assign T X.env u) (λ_ S=>∃a b,Inv X p a b S/\Q a b) X.xe s
def R9(X:Cx)(ts:Γ γ)(t:Rx):Prop:=
 ∀(p:Γ (Ψ×Obj))(s:Ξ)(c:St)(H:Hp)(v:Γ V)(u:Γ Θ)(Q:St->Hp->Prop),Inv X p c H s->aG v u->t v c H Q ->
  wpAny (model X.prog X.w) X.A (assignInOrder ((assignEach ts X.env).map (·.2)) u) (λ_ S=>∃a b,Inv X p a b S/\Q a b) X.xe s
abbrev Rv:=V->V->V->Hp->(Hp->Prop)->Prop
def Ry(X:Cx)(t:Rv):Prop:=
 ∀(p:Γ (Ψ×Obj))(s:Ξ)(b:St)(H:Hp)(o i v:V)(O I u:Θ)(Q:Hp->Prop),Inv X p b H s->RelV o O->RelV i I->RelV v u->t o i v H Q ->
  wpAny (model X.prog X.w) X.A (setItem O I u) (λ_ S=>∃a,Inv X p b a S/\Q a) X.xe s
def yr(i:Nat):TG:=λv a H Q=>Q (a.set i<|↑v) H
def lI(n:X.N.Nodup)(hi:X.N[i]?=↑x)(b:Loc X.env.scope x)(f:X.fn x=true\/X.env.scope.names.lookup x=↑.local:=by first|exact .inl rfl|exact .inr rfl|assumption):PG X (.Name x pos) (yr i):=by
 exactλp s c H v u Q I r h=>wpAny_assign_Name<|An I n hi b r (λS a=>{_,H,a,h}) f
def Tb:Rx:=λv a H Q=>v=[]/\Q a H
def Q2(t:TG)(u:Rx):Rx:=λs c H Q=>∃v r,s=v::r/\t v c H λa b=>u r a b Q
def Dy:R9 X [] Tb:=by
 intro p s a H v u Q I r h;let(e,h):=h;exact assignInOrder_nil {a,H,I,h}
def nF(c:PG X e t)(d:R9 X es u)
  (hs:(assignEach (e::es) X.env).map (·.2)=assign e X.env::(assignEach es X.env).map (·.2):=by rfl):R9 X (e::es) (Q2 t u):=by
 intro p s f H j U Q I r h;let(v,g,E,h):=h;subst E;cases r with
 |cons r R =>
  rw[hs];exact assignInOrder_cons (b0 (c p s f H _ _ _ I r h) λ_ S z=>by let(a,b,i,q):=z;exact(d p S a b _ _ Q i R q))
def T5(K:Φ)(n:Nat)(t:Rx):TG:=λv b H Q=>∃a x,v=.ref a/\gm K H a x/\x.length=n/\t x b H Q
def Ig{k:Nat}(hc:X.calm=true)(h:R9 X es t)
  (N:(assignEach es X.env).length=n:=by rfl)(W:(assignEach es X.env).findIdx? (·.1)=none:=by rfl):PG X (.Tuple es k pos) (T5 X.K n t):=by
 intro p s c H v u Q I r hw;let(a,S,E,q,l,hw):=hw;subst E;cases r;let(f,R,ht,z):=I.tuple q;exact assign_Tuple_tuple (I.ok.hd hc) ht (by simp[N,<-l,R.length]) W λd x=>(h p _ c H S _ Q (I.kept λb o e=>x b o (yR<|zY e) e:Inv X p c H {s with heap:=d}) (by lia) hw)
def gG(O T:TE)(t:Rv):TG:=λv a H Q=>O a H λo b=>T a b λi c=>t o i v c λd=>Q a d
def Nj(k:PE X o to)(hi:PE X i ti)(hs:Ry X t)
  (A:∀v,assign (.Subscript o i pos) X.env v=(do
   let O <- holding [v]<|eval o X.env
   let a <- holding [v,O]<|eval i X.env
   standAt pos
   holding [v,O,a] (setItem O a v)
   release [v,O,a] []):=by intro _;rfl):PG X (.Subscript o i pos) (gG to ti t):=λp s b H v u Q I r h=>zV<|xX (b0 (k p s b H _ I h) λO S z=>by let(x,c,f,r1,q):=z;exact(zV<|xX (b0 (hi p S b c _ f q) λa m z=>by let(y,d,g,R,q2):=z;exact(zV<|vC<|zV<|xX (b0 (hs p m b d x y v O a u _ g r1 R r q2) λ_ n z=>by let(e,j,l):=z;exact(wpAny_release {b,e,j,l}))))))
def Gn(te:TE)(g:TG):TS:=λD a H=>te a H λx b=>g x a b D.nx
def Oo(E:PE X e te)(G:PG X tg g)(hs:swapsWithSole [tg] e pos.line X.env=pure false:=by rfl)(hw:swappedStores [tg] e X.env=pure none:=by rfl)
  (c:(assignEach [tg] X.env).map (·.2)=[assign tg X.env]:=by rfl):PS X (.Assign [tg] e pos) (Gn te g):=by
 refineλp s a H D I h=>wpAny_Assign_stores (b0 (E p s a H _ I h) λv S z=>?_) hs hw;let(x,b,i,r1,Q):=z;rw[c];exact b0 (G p S a b x v _ i r1 Q) λ_ d q=>q
def oK(n:X.N.Nodup)(hi:X.N[i]?=↑x)(d:Loc X.env.scope x)(E:PE X e te)(hs:swapsWith e (↑(.Name x pos')) pos.line X.env=pure false:=by rfl)(f:X.fn x=true\/X.env.scope.names.lookup x=↑.local:=by first|exact .inl rfl|exact .inr rfl|assumption) :
  PS X (.Assign [.Name x pos'] e pos) (Gn te<|yr i):=by
 exactλp s g H D I h=>wpAny_Assign_Name (b0 (E p s g H _ I h) λv S z=>by let(y,a,b,r1,q):=z;exact(An b n hi d r1 (λj c=>{_,a,c,q}) f)) hs
def NZ(c:TT)(tb:TS):TS:=λD a H=>∃W:Nat->St->Hp->Prop,(∃m,W m a H)/\∀m a H,W m a H ->
 c a H λb f=>if b=true then ∃N:St->Hp->Prop,(∀d e,N d e->∃M,M<m/\W M d e)/\tb {D with nx:=N,ct:=N,bk:=D.nx} a f else D.nx a f
def IF(P:PassesOwn (model X.prog X.w) X.A X.env X.xe)(hc:PT X c U)(B:qb X body tb):PS X (.While c body [] pos) (NZ U tb):=by
 intro p s F H D I h;let(W,(x,C),turn):=h;refine wpAny_While<|codeAny_whileLoop (λn S=>∃e k,Inv X p e k S/\W n e k) ?_ x {F,H,I,C};rintro n y ⟨a,l,u,E⟩;refine jJ P<|b0 (hc p y a l _ u<|turn n a l E) λb z ⟨o,r,q2⟩=>?_;cases b with
 |true =>
  let(N,t,q2):=q2;refine jJ P<|b0 (B p z a o _ r q2) λf G q=>?_;cases f with
  |next =>
   let(Y,d,i,g):=q;let(M,m,j):=t Y d g;exact{M,m,Y,d,i,j}
  |cont =>
   let(Y,d,i,g):=q;let(M,m,j):=t Y d g;exact{M,m,Y,d,i,j}
  |brk=>exact q
  |ret v=>exact q
 |false =>
  exact vN {a,o,r,q2}
structure It where
 go:Nat->Hp->Prop
 yld:Nat->Hp->V->Hp->Prop
 stop:Nat->Hp->Prop
def di(X:Cx)(pins:Γ (Ψ×Obj))(H:Hp)(b:Ψ):Prop:=
 H b=none/\b≠X.env.locals/\b∉X.fs/\(b∈X.ex\/X.VQ.heap.objs.size<=b)/\(∀x c,X.env.cells.lookup x=↑c->c≠b)/\∀p∈X.pn++pins,p.1≠b
def Inv.W8(I:Inv X pins σ H s)(B:s.heap.objs.size<=b)(n:H' b=none):di X pins H' b:=by
 refine{n,jH<|zP I.lt B,I.afx B,.inr<|yD I.sz B,λx c e z=>?_,λp P z=>(absurd (zP (zY (I.pin p P).1) (by rw[z];lia))<|qE _)}
 .let(v,q):=I.cell x c e;exact absurd (zP q.lt (by rw[z];lia))<|qE _
structure Turn(P:Program)(w:World)(K:W.Frag)(tg:Expr)(J:It)(fp:List Addr)(it:Addr)(tn:Nat->Heap->Prop):Prop where
 mem:it∈fp
 obj:∀i h,tn i h->∀b∈fp,∃o,h.get? b=↑o/\∀v,o.data≠.cell v
 keep:∀i h h',tn i h->(∀b∈fp,∀o,h.get? b=↑o->h'.get? b=↑o)->tn i h'
 item:∀(X:Cx),X.prog=P->X.w=w->X.K=K->X.calm=true->∀(i:Nat)(pins:Γ (Ψ×Obj))(s:Ξ)(σ:St)(H:Hp)(E:Θ->Ξ->Prop),Inv X pins σ H s->(∀b∈fp,di X pins H b)->tn i s.heap->J.go i H ->
  wpAny (model P w) X.A (pyNext<|.ref it) (λr s1=>∃u,r=↑u /\
   wpAny (model P w) X.A (letOwnedTupleGo tg (.ref it) u) (λ_ s2=>∃x H',Inv X pins σ H' s2/\RelV x u/\J.yld i H x H'/\tn (i+1) s2.heap/\∀b∈fp,H' b=none) E s1) E s
 done:∀(X:Cx),X.prog=P->X.w=w->X.K=K->X.calm=true->∀(i:Nat)(pins:Γ (Ψ×Obj))(s:Ξ)(σ:St)(H:Hp)(E:Θ->Ξ->Prop),Inv X pins σ H s->(∀b∈fp,di X pins H b)->tn i s.heap->J.stop i H ->
  wpAny (model P w) X.A (pyNext<|.ref it) (λr s1=>r=none/\Inv X pins σ H s1) E s
 self:∀(A:ξ)(i:Nat)(s:Ξ)(Q:Θ->Ξ->Prop)(E:Θ->Ξ->Prop),tn i s.heap->Q (.ref it) s->wpAny (model P w) A (pyIter<|.ref it) Q E s
abbrev TI:=St->Hp->(It->Hp->Prop)->Prop
def Uu(X:Cx)(pins:Γ (Ψ×Obj))(σ:St)(tg:γ)(R:It->Hp->Prop)(i:Θ)(s2:Ξ):Prop:=
 ∃ (it:Ψ) (f:Γ Ψ) (t:Nat->ι->Prop) (J:It) (H:Hp),i=.ref it/\Inv X pins σ H s2/\Turn X.prog X.w X.K tg J f it t/\t 0 s2.heap/\(∀b∈f,di X pins H b)/\R J H
def PI(X:Cx)(tg iter:γ)(wi:TI):Prop:=
 ∀(p:Γ (Ψ×Obj))(s:Ξ)(a:St)(H:Hp)(R:It->Hp->Prop),Inv X p a H s->wi a H R ->
  wpAny (model X.prog X.w) X.A (eval iter X.env) (λv S=>wpAny (model X.prog X.w) X.A (pyIter v) (Uu X p a tg R) X.xe S) X.xe s
def FZ(O:s.heap.get? it=↑o)(hc:o.cls=.type n)(d:o.data=.fields vs)
  (N:["enumerate","zip","dict_itemiterator","dict_reverseitemiterator","odict_iterator","itertools.zip_longest","itertools.pairwise"].contains n=false)(H:Q () s):wpAny M A (letOwnedTupleGo tg (.ref it) u) Q E s:=by
 cases tg<;>first
  |exact zW H
  | (cases u<;>first
    |exact zW H
    | (refine zV (wpAny_load O ?_)
       rw[hc,d];show wpAny M A (if(["enumerate","zip","dict_itemiterator","dict_reverseitemiterator","odict_iterator","itertools.zip_longest","itertools.pairwise"].contains n&&vs[0]?==some _)=true then _ else _) Q E s;rw[yN<|by grind];exact zW H))
def SV(K:Φ)(a:Ψ):It:=
 {λi H=>∃s x,iw K H a s/\s[i]?=↑x,λi H x b=>b=H/\∀s,iw K H a s->s[i]?=↑x,λi H=>∃s,iw K H a s/\s.length<=i}
def TU(K:Φ)(a:Ψ):It:=
 {λi H=>∃s x,gm K H a s/\s[i]?=↑x,λi H x b=>b=H/\∀s,gm K H a s->s[i]?=↑x,λi H=>∃s,gm K H a s/\s.length<=i}
def Sh(lo:Int)(n:Nat):It:={λi _=>i<n,λi H x a=>a=H/\x=.int (lo+i),λi _=>n<=i}
def EO{K:Φ}(a it:Ψ):Turn P w K tg (SV K a) [it] it (λi h=>h.IsListIter it a i) where
 mem:=by simp
 obj:=λi h st b B=>by
  have e:b=it:=by simpa using B
  subst e;let(o,e,c,d):=st;exact{o,e,λv z=>by rw[d]at z;cases z}
 keep:=λi h f st k=>st.at λo e=>k it (by simp) o e
 item:=by
  intro X l hw j hc i S s t H E I F st G;subst l hw j;let(J,x,q,m):=G;let(A,r,p,Z):=I.list q;let(u,U,R):=r.get m;let(g,f1,f2,f3,f4,f5):=F it (by simp);refine wpAny_pyNext_list_item st p.isList (x:=u) (by simpa using U) λf n D=>?_;have y:Inv X S t H {s with heap:=f}:=I.turned (t':=s.toks) (λb o B e=>(D.2 b B).trans e) g f1 f3 f4 f5;let(o,e,c,d):=id n;exact{u,rfl,FZ (s:={s with heap:=f}) e c d (by decide) {x,H,y,R,{rfl,λM Y=>by rw[I.Yc Y q];exact m},n,λb B=>(F b B).1}}
 done:=by
  intro X l hw j hc i S s t H E I F st G;subst l hw j;let(J,q,m):=G;let(A,r,p,Z):=I.list q;let(g,f1,f2,f3,f4,f5):=F it (by simp);have L:=r.length;exact wpAny_pyNext_list_end (I.ok.hd hc) st p.isList (by simp;lia) λf C=>{rfl,I.turned (t':=s.toks) (λb o B e=>C b o B e) g f1 f3 f4 f5}
 self:=λ_ _ _ _ _ st h=>wpAny_pyIter_listiter st h
def BU{K:Φ}(a it:Ψ):Turn P w K tg (TU K a) [it] it (λi h=>h.IsTupleIter it a i) where
 mem:=by simp
 obj:=λi h st b B=>by
  let(o,e,c,d):=st
  grind
 keep:=λi h m st k=>st.at λo=>k it (by simp) o
 item:=by
  intro X j hw g hc i S s D H E I f st G;subst j hw g;let(C,x,q,n):=G;let(v,r,p,z):=I.tuple q;let(u,U,R):=r.get n;let(F,f1,f2,f3,f4,f5):=f it (by simp);refine wpAny_pyNext_tuple_item st (p) (x:=u) (by grind) λm l A=>?_;let(o,e,c,d):=id l;exact{u,rfl,FZ e c d (by rfl) {x,H,I.turned (λb o B=>(A.2 b B).trans) F f1 f3 f4 f5,R,{rfl,λY y=>by rw[I.XA y q];lia},l,λb B=>(f b B).1}}
 done:=by
  intro X j hw g hc i S s D H E I f st G;subst j hw g;let(C,q,n):=G;let(v,r,p,z):=I.tuple q;let(F,f1,f2,f3,f4,f5):=f it (by simp);have L:=r.length;exact wpAny_pyNext_tuple_end (I.ok.hd hc) st (p) (by grind) λm t=>{rfl,I.turned (t) F f1 f3 f4 f5}
 self:=λ_ _ _ _ _=>wpAny_pyIter_tupleiter
def By{K:Φ}(it:Ψ)(lo:Int)(n:Nat):Turn P w K tg (Sh lo n) [it] it (λi h=>IsRangeIter h it (lo+i*1) (n-i) 1) where
 mem:=by simp
 obj:=λi h st b B=>by
  have e:=by simpa using B
  subst e;exact⟨_,st,λv z=>by
   cases z⟩
 keep:=λi h c st k=>k it (by simp) _ st
 item:=by
  intro X l hw j hc i p s r H E I f st g;let(F,f1,f2,f3,f4,f5):=f it (by simp);refine(Walks.range (I.ok.hd hc) it lo 1 n).item i s _ _ g st λv c T m a q=>?_;let(t,rfl):=m;refine{_,rfl,FZ a rfl rfl (by rfl) {.int _,H,(I.turned (λb o B=>q b o<|by grind) F f1 f3 f4 f5),{t,?_},{rfl,rfl},a,λb B=>(f b B).1}};simp
 done:=by
  intro X l hw j hc i p s r H E I f st g;let(F,f1,f2,f3,f4,f5):=f it (by simp);exact wpAny_pyNext_range_end (I.ok.hd hc) st (by have:n<=i:=g;lia) λc d=>{rfl,I.turned (d) F f1 f3 f4 f5}
 self:=λ_ _ _ _ _=>wpAny_pyIter_rangeiter
def FL{lo:Int}{t u v:Tok}{k:Nat}(I:Inv X pins σ H s)(a:-(2^62)<=lo)(c:lo<2^62)(d:-(2^62)<=hi)(h4:hi<2^62)
  (q:R (Sh lo (hi-lo).toNat) H):wpAny (model X.prog X.w) X.A (pyIter<|.ref s.heap.objs.size) (Uu X pins σ tg R) E {s with heap:=s.heap.push {cls:=.type "range",data:=.fields #[.int lo t,.int hi u,.int 1 v]},toks:=k}:=by
 apply wpAny_pyIter_range (.new ..)<|small_one a c d h4;have i:Inv X pins σ H {s with heap:=s.heap.push {cls:=.type "range",data:=.fields #[.int lo t,.int hi u,.int 1 v]},toks:=k}:=I.kept λb o=>zU _;refine⟨(s.heap.push _).objs.size,[(s.heap.push _).objs.size],_,_,H,rfl,
  i.kept λb o=>zU _,By _ lo _,?_,λb B=>?_,q⟩
 .rw[(show lo+(0:Nat)*1=lo by lia),(show(hi-lo).toNat-(0:Nat)=Builtin.Range.rangeSize lo hi 1 by rw[rangeSize_one];split<;>lia)];exact zX _ rfl
 .have e:b=(s.heap.push {cls:=.type "range",data:=.fields #[.int lo t,.int hi u,.int 1 v]}).objs.size:=by grind
  subst e;exact i.W8 (yM _)<|i.VH.fresh<|yM _
def Qr(ta:TA):TI:=λb H R=>ta b H λv a=>∃j:Int,v=[.int j]/\-(2^62)<=j/\j<2^62/\R (Sh 0 j.toNat) a
def Fn(g:Gl X "range")(m:X.mg "range"=none)(A:PA X [a] ta)(hs:starEach [a] X.env=[(false,eval a X.env)]:=by rfl):PI X tg (.Call (.Name "range" p) [a] [] pos) (Qr ta):=by
 refineλP s c H R I h=>Call_<|fO I g m boot_range<|qQ (b0 (A pos P s c H _ I h) λu S z=>?_) hs rfl;let(v,d,i,r1,Q):=z;let(j,e,Q,q2,q):=Q;subst e;cases r1 with
 |cons r b =>
  cases b;let(t,rfl):=r;exact call_range_1<|FL i (by lia) (by lia) Q q2<|by simpa using q
def T7(wi:TI)(g:TG)(tb:TS):TS:=λD a H=>wi a H λJ d=>∃W:Nat->Nat->St->Hp->Prop,(∃m,W 0 m a d)/\∀i m a H,W i m a H ->
 (J.stop i H/\D.nx a H)\/(J.go i H/\∃N:St->Hp->Prop,(∀c b,N c b->∃M,M<m/\W (i+1) M c b)/\∀x b,J.yld i H x b->g x a b λX e=>tb {D with nx:=N,ct:=N,bk:=D.nx} X e)
def xn(fp:Γ Ψ)(h:ι):Γ (Ψ×Obj):=fp.filterMap λb=>(h.get? b).map λo=>(b,o)
def eS(H:b∈fp)(e:h.get? b=↑o):(b,o)∈xn fp h:=List.mem_filterMap.mpr {b,H,by rw[e];rfl}
def EF(P:p∈xn fp h):p.1∈fp/\h.get? p.1=↑p.2:=by
 let(b,H,e):=List.mem_filterMap.mp P;cases q:h.get? b with
 |none=>rw[q]at e;cases e
 |some o =>
  rw[q]at e;have E:(b,o)=p:=xD e;subst E;exact{H,q}
def Inv.pinned(I:Inv X pins σ H s)(F:∀b∈fp,di X pins H b)(O:∀b∈fp,∃o,s.heap.get? b=↑o/\∀v,o.data≠.cell v):Inv X (pins++xn fp s.heap) σ H s:=
 I.XI λp P=>(List.mem_append.mp P).elim (λz=>I.pin p<|yE _ z) λz=>by
  let(B,e):=EF z;let(f,f1,f2,_):=F _ B;let(o,E,d):=O _ B;rw[e]at E;cases E;exact{e,f,f1,f2,d}
def Inv.Wf(I:Inv X (pins++pl) σ H s):Inv X pins σ H s:=I.XI λp P=>I.pin p<|yE _<|qJ _ P
def Hs{pos:Pos}(P:PassesOwn (model X.prog X.w) X.A X.env X.xe)(hc:X.calm=true)(hi:PI X tg iter wi)(hg:PG X tg g)(B:qb X body tb)
  (hs:∀x,foldedSetIterable iter X.env x=pure x:=by intro _;rfl):PS X (.For tg iter body [] pos) (T7 wi g tb):=by
 refineλp s σ H D I h=>wpAny_For (b0 (hi p s σ H _ I h) λv s1 h1=>b0 h1 λitv s2 h2=>?_) hs;let(it,C,U,J,H2,e,I2,T,Yd,f2,W,(m0,w0),turn):=h2;subst e;have l:∀{k:Hp},(∀b∈C,k b=none)->∀b∈C,di X p k b:=λhn b B=>{hn b B,(f2 b B).2}
 refine codeAny_forLoop_any (λn O=>∃i j k,Inv X p j k O/\U i O.heap/\(∀b∈C,k b=none)/\W i n j k) ?_ m0 {0,σ,H2,I2,Yd,λb B=>(f2 b B).1,w0};rintro n Q ⟨i,Y,z,L,M,F,w3⟩;rcases turn i n Y z w3 with ⟨y,qn⟩|⟨go,N,hN,step⟩
 .refine jJ P<|b0 (T.done X rfl rfl rfl hc i p Q Y z X.xe L (l F) M y) λr s4 z=>?_;let(R,I4):=z;subst R;exact vN {Y,z,I4,qn}
 .refine jJ P<|b0 (T.item X rfl rfl rfl hc i p Q Y z X.xe L (l F) M go) λr s4 z=>?_;let(u,R,h4):=z;subst R;refine jJ P<|b0 h4 λ_ s5 ⟨x,K,I5,r5,y5,S,E⟩=>(jJ P<|b0 (hg _ s5 Y K x u _ (I5.pinned (l E)<|T.obj _ _ S) r5<|step x K y5) λ_ s6 ⟨G,H6,I6,q6⟩=>(jJ P<|b0 (B _ s6 G H6 _ I6 q6) λf s7 q=>?_));have again:∀{Z:St}{a:Hp},Inv X _ Z a s7->N Z a->∃m,m<n/\∃i j k,Inv X p j k s7/\U i s7.heap/\(∀b∈C,k b=none)/\W i m j k:=λ{Z a}c t=>by
   let(m',hm,w7):=hN Z a t;refine{m',hm,i+1,Z,a,c.Wf,T.keep _ _ _ S λb B o e=>(c.pin _<|yE _<|yE _<|eS B e).1,λb B=>?_,w7};let(o,e,d):=T.obj _ _ S b B;exact(c.pin _<|yE _<|yE _<|eS B e).2.1
  cases f with
  |next=>let(Z,a,c,t):=q;exact again c t
  |cont=>let(Z,a,c,t):=q;exact again c t
  |brk=>let(Z,a,c,q):=q;exact{Z,a,c.Wf,q}
  |ret v=>let(x7,Z,a,c,r7,q):=q;exact{x7,Z,a,c.Wf,r7,q}
abbrev R2:=V->V->Hp->VK->Prop
def il(X:Cx)(f:Θ->Θ->Sem Θ)(r:R2):Prop:=
 ∀(p:Γ (Ψ×Obj))(s:Ξ)(a:St)(H:Hp)(x y:V)(v u:Θ)(Q:VK),Inv X p a H s->RelV x v->RelV y u->r x y H Q ->
  wpAny (model X.prog X.w) X.A (f v u) (EP X p a Q) X.xe s
def Uk(X:Cx)(f:Θ->Sem Θ)(r:V->Hp->VK->Prop):Prop:=
 ∀(p:Γ (Ψ×Obj))(s:Ξ)(a:St)(H:Hp)(x:V)(v:Θ)(Q:VK),Inv X p a H s->RelV x v->r x H Q ->
  wpAny (model X.prog X.w) X.A (f v) (EP X p a Q) X.xe s
def gP(X:Cx)(f:Θ)(r:Γ V->Hp->VK->Prop):Prop:=
 ∀(p:Γ (Ψ×Obj))(s:Ξ)(a:St)(H:Hp)(x:Γ V)(u:Γ Θ)(Q:VK),Inv X p a H s->aG x u->r x H Q ->
  wpAny (model X.prog X.w) X.A (call f u) (EP X p a Q) X.xe s
def NO(r:R2)(ta tb:TE):TE:=λa H Q=>ta a H λx b=>tb a b λy c=>r x y c Q
def Vo(r:V->Hp->VK->Prop)(ta:TE):TE:=λb H Q=>ta b H λx a=>r x a Q
def rI(C:Int->Int->Prop)(g:Int->Int->V):R2:=λx y H Q=>∃i j,x=.int i/\y=.int j/\C i j/\Q (g i j) H
def Jh(g:Int->Int->V):R2:=λx y H Q=>∃i j,x=.int i/\y=.int j/\Q (g i j) H
def rU(g:Int->V):V->Hp->VK->Prop:=λx H Q=>∃i,x=.int i/\Q (g i) H
def Pq(g:PE X a ta)(B:PE X b tb){pins:Γ _}{σ:St}{R:V->V->Hp->Prop}(I:Inv X pins σ H s)
  (h:ta σ H λx d=>tb σ d λy c=>R x y c){Q:Θ->Ξ->Prop}{f:Θ->Θ->Sem Θ}
  (F:∀v u s2 x y c,Inv X pins σ c s2->RelV x v->RelV y u->R x y c->wpAny (model X.prog X.w) X.A (f v u) Q X.xe s2) :
  wpAny (model X.prog X.w) X.A (eval a X.env) (λv J=>wpAny (model X.prog X.w) X.A (eval b X.env) (λu P=>wpAny (model X.prog X.w) X.A (f v u) Q X.xe P) X.xe J) X.xe s:=by
 refine b0 (g pins s σ H _ I h) λv S z=>?_;let(x,d,i,r1,q):=z;refine b0 (B pins S σ d _ i q) λu s2 z=>?_;let(y,c,e,r,q2):=z;exact F v u s2 x y c e r1 r q2
def Co(o:il X (binaryOp op) r)(A:PE X a ta)(B:PE X b tb):PE X (.BinOp a op b pos) (NO r ta tb):=by
 exactλp s d H Q I h=>wpAny_BinOp<|Pq A B I h λv u S x y c i R Y=>o p S d c x y v u Q i R Y
def RK(o:Uk X (unaryOp op) r)(A:PE X a ta):PE X (.UnaryOp op a pos) (Vo r ta):=by
 exactλp s b H Q I h=>UnaryOp_ (b0 (A p s b H _ I h) λv S z=>by let(x,c,i,r1,q):=z;exact o p S b c x v Q i r1 q)
def TV{f:Θ->Θ->Sem Θ}{C:Int->Int->Prop}{g:Int->Int->Int}
  (r:∀i j t u s Q E,C i j->Q (.int (g i j) s.toks) {s with toks:=s.toks+1}->wpAny (model X.prog X.w) X.A (f (.int i t)<|.int j u) Q E s) :
  il X f (rI C λi j=>.int<|g i j):=by
 intro p s a H x y v u Q I R Y h;let(i,j,rfl,rfl,hc,q):=h;let(t,rfl):=R;let(T,rfl):=Y;exact r i j t T s _ _ hc {.int _,H,I.tok _,{_,rfl},q}
def Q6{f:Θ->Θ->Sem Θ}{g:Int->Int->Int}
  (r:∀i j t u s Q E,Q (.int (g i j) s.toks) {s with toks:=s.toks+1}->wpAny (model X.prog X.w) X.A (f (.int i t)<|.int j u) Q E s) :
  il X f (Jh λi j=>.int<|g i j):=by
 intro p s a H x y v u Q I R Y h;let(i,j,rfl,rfl,q):=h;let(t,rfl):=R;let(T,rfl):=Y;exact r i j t T s _ _ {.int _,H,I.tok _,{_,rfl},q}
def MB{f:Θ->Θ->Sem Θ}{g:Int->Int->θ}
  (r:∀i j t u s Q E,Q (.bool<|g i j) s->wpAny (model X.prog X.w) X.A (f (.int i t)<|.int j u) Q E s) :
  il X f (Jh λi j=>.bl<|g i j):=by
 intro p s a H x y v u Q I R Y h;let(i,j,rfl,rfl,q):=h;let(t,rfl):=R;let(T,rfl):=Y;exact r i j t T s _ _ {.bl _,H,I,rfl,q}
def J5(i j:Int):Prop:=0<j/\j<1073741824
def wW(i j:Int):Prop:=(-(2^64)<i/\i<2^64)\/(-(2^64)<j/\j<2^64)
def wW.ok(h:wW i j):IntMulOk i j:=by
 rcases h with ⟨H,a⟩|⟨H,a⟩
 .exact .of_left<|intBits_le_64 H a
 .exact .of_right<|intBits_le_64 H a
def Oy:il X (binaryOp .Add) (Jh λi j=>.int<|i+j):=Q6 λ_ _ _ _ _ _ _=>add_int
def FU:il X (binaryOp .Sub) (Jh λi j=>.int<|i-j):=Q6 λ_ _ _ _ _ _ _=>sub_int
def Nq:il X (binaryOp .Mult) (rI wW λi j=>.int<|i*j):=TV λ_ _ _ _ _ _ _ hc q=>mul_int q hc.ok
def Mc:il X (binaryOp .FloorDiv) (rI J5 λi j=>.int<|i/j):=TV λi j _ _ _ _ _ hc q=>by
 have H:=hc.1;have a:=hc.2;exact floordiv_int (by lia) (by rw[Int.fdiv_eq_ediv_of_nonneg i<|by lia];lia)<|.inl<|PyProof.noPylong_small<|by lia
def NM:il X (binaryOp .Mod) (rI (λ_ j=>0<j) λi j=>.int<|i%j):=TV λi j _ _ _ _ _ hc q=>by
 exact mod_int' (by lia) (by rw[Int.fmod_eq_emod_of_nonneg i<|by lia];lia)
def UO{f:Θ->Sem Θ}{g:Int->Int}
  (r:∀i t s Q E,Q (.int (g i) s.toks) {s with toks:=s.toks+1}->wpAny (model X.prog X.w) X.A (f<|.int i t) Q E s) :
  Uk X f (rU λi=>.int<|g i):=by
 intro p s a H x v Q I R h;let(i,rfl,q):=h;let(t,rfl):=R;exact r i t s _ _ {.int _,H,I.tok _,{_,rfl},q}
def N7:Uk X (unaryOp .USub) (rU λi=>.int<|-i):=UO λ_ _ _ _ _=>neg_int
def kg:V->V->θ
 |.VC,.VC=>true|.VC,.int _=>true|.int _,.VC=>true|.VC,.bl _=>true|.bl _,.VC=>true|.VC,.str _=>true|.str _,.VC=>true
 |.int _,.int _=>true|.bl _,.bl _=>true|.str _,.str _=>true|.byt _,.byt _=>true
 |.int _,.str _=>true|.str _,.int _=>true|.bl _,.str _=>true|.str _,.bl _=>true
 |_,_=>false
def U8:R2:=λx y H Q=>kg x y=true/\Q (.bl<|!decide (x=y)) H
def KZ:decide (V.int i=V.int j)=(i==j):=by
 rw[kW];simp
def Of:decide (V.bl i=V.bl j)=(i==j):=by
 rw[kW];simp
def Ka:decide (V.str i=V.str j)=(i==j):=by
 rw[kW];simp
def Mp:decide (V.byt i=V.byt j)=(i.toList==j.toList):=by
 rw[kW];simp
def cX(I:Inv X pins σ H s)(q:Q (.bl k) H)(e:k=U):EP X pins σ Q (.bool U) s:=by
 subst e;exact{.bl k,H,I,rfl,q}
def RV:il X (compareOp .NotEq) U8:=by
 intro p s a H x y v u Q I R r h;let(S,q):=h;cases x with
 |VC =>
  cases R;cases y with
  |VC=>cases r;exact PySem.EqNone.ne_none_none (cX I q<|by rfl)
  |bl j=>cases r;exact PySem.EqNone.ne_none_bool (cX I q<|by rfl)
  |int j=>let(T,rfl):=r;exact PySem.EqNone.ne_none_int (cX I q<|by rfl)
  |str j=>let(T,rfl):=r;exact PySem.EqNone.ne_none_str (cX I q<|by rfl)
  |_=>exact absurd (S) yZ
 |bl i =>
  cases R;cases y with
  |VC=>cases r;exact PySem.EqNone.ne_bool_none (cX I q<|by rfl)
  |bl j=>cases r;exact ne_bool (cX I q<|jB not Of)
  |str j=>let(T,rfl):=r;exact PySem.EqMixed.ne_bool_str (cX I q<|by rfl)
  |_=>exact absurd (S) yZ
 |int i =>
  let(t,rfl):=R;cases y with
  |VC=>cases r;exact PySem.EqNone.ne_int_none (cX I q<|by rfl)
  |int j=>let(T,rfl):=r;exact ne_int (cX I q<|jB not KZ)
  |str j=>let(T,rfl):=r;exact PySem.EqMixed.ne_int_str (cX I q<|by rfl)
  |_=>exact absurd (S) yZ
 |str i =>
  let(t,rfl):=R;cases y with
  |VC=>cases r;exact PySem.EqNone.ne_str_none (cX I q<|by rfl)
  |bl j=>cases r;exact PySem.EqMixed.ne_str_bool (cX I q<|by rfl)
  |int j=>let(T,rfl):=r;exact PySem.EqMixed.ne_str_int (cX I q<|by rfl)
  |str j=>let(T,rfl):=r;exact ne_str (cX I q<|jB not Ka)
  |_=>exact absurd (S) yZ
 |byt i =>
  let(t,rfl):=R;cases y with
  |byt j=>let(T,rfl):=r;exact W.ne_bytes (cX I q<|jB not Mp)
  |_=>exact absurd (S) yZ
 |_=>cases y<;>exact absurd (S) yZ
def RM:il X (compareOp .Lt) (Jh λi j=>.bl<|decide (i<j)):=MB λ_ _ _ _ _ _ _=>lt_int
def MC:il X (compareOp .LtE) (Jh λi j=>.bl<|decide (i<=j)):=MB λ_ _ _ _ _ _ _=>le_int
def QX:il X (compareOp .Gt) (Jh λi j=>.bl<|decide (j<i)):=MB λ_ _ _ _ _ _ _=>gt_int
def Q5:il X (compareOp .GtE) (Jh λi j=>.bl<|decide (j<=i)):=MB λ_ _ _ _ _ _ _ q=>ge_int q
def Nk:il X (compareOp .Is) (λx y H Q=>y=.VC/\Q (.bl<|decide (x=.VC)) H):=by
 intro p s a H x y v u Q I r R h;let(rfl,q):=h;cases R;refine is_none_gen<|cX I q ?_;cases x<;>(let(t,rfl):=r;rfl)
def Ko:il X (compareOp .IsNot) (λx y H Q=>y=.VC/\Q (.bl<|!decide (x=.VC)) H):=by
 intro p s a H x y v u Q I r R h;let(rfl,q):=h;cases R;refine isnot_none_gen<|cX I q ?_;cases x<;>(let(t,rfl):=r;rfl)
def isObj:HO->θ
 |.lst _=>true
 |.ins _ _ _=>true
 |_=>false
def tW(I:Inv X pins σ H s)(h:H a=↑o)(p:isObj o=true):∃ob,s.heap.get? a=↑ob/\ob.cls≠.type "tuple":=by
 cases o with
 |lst x =>
  obtain⟨_,E,n,_,e⟩:x.length<=sizeLine/\∃ (E:Γ Θ) (n:Nat),aG x E/\s.heap.get? a=↑_:=I.VH a _ h;exact{_,e,(by show Value.type _≠.type _;decide +kernel)}
 |ins C d fs =>
  let(_,_,_,e,_):=(I.VH a _ h)
  grind
 |_=>exact absurd (show false=true from p) yZ
def il.or(h:il X f r)(h':il X f U):il X f (λx y H Q=>r x y H Q\/U x y H Q):=by
 intro p s a H x y v u Q I R Y q;rcases q with q|q
 .exact h p s a H x y v u Q I R Y q
 .exact h' p s a H x y v u Q I R Y q
def gH(b:γ)(h:op≠.In:=by decide)(H:op≠.NotIn:=by decide):behindInMarks op b=false:=by
 have e:(op==.In)=false:=by grind
 cases b<;>simp[behindInMarks,e,(show(op==CmpOp.NotIn)=false by grind)]
def LK(o:il X (compareOp op) r)(A:PE X a ta)(B:PE X b tb)(m:behindInMarks op b=false):PE X (.Compare a [op] [b] pos) (NO r ta tb):=by
 exactλp s d H Q I h=>wpAny_Compare1 (Pq A B I h λv u S x y c i R Y=>o p S d c x y v u Q i R Y) m
def QZ(t:TE):TT:=λb H Q=>t b H λx a=>∃k,x=.bl k/\Q k a
def pW(o:il X (compareOp op) r)(A:PE X a ta)(B:PE X b tb)(M:behindInMarks op b=false):PT X (.Compare a [op] [b] pos) (QZ<|NO r ta tb):=by
 intro p s d H Q I h;refine wpAny_isTrue_Compare1 (b0 (A p s d H _ I h) λv S ⟨x,f,j,r1,q⟩=>b0 (B p S d f _ j q) λu w ⟨y,g,l,R,q2⟩ =>
  b0 (o p w d g x y v u _ l r1 R q2) λc C ⟨z,i,m,t,k,e,n⟩=>?_) M
 subst e;cases t;exact xW ⟨i,m,n⟩
def Gq(r R:R2)(ta tb t:TE):TE:=λa H Q=>ta a H λx c=>tb a c λy d=>r x y d λz b=>∃k,z=.bl k /\
 (if k=true then t a b λw e=>R y w e Q else Q (.bl false) b)
def HL(O:il X (compareOp op) r)(w:il X (compareOp U) r')(A:PE X a ta)(B:PE X b tb)(hc:PE X c tc)
  (M:lastMarks [op,U] [b,c]=false:=by with_unfolding_all rfl):PE X (.Compare a [op,U] [b,c] pos) (Gq r r' ta tb tc):=by
 intro p s f H Q I h;refine Compare_chain (b0 (A p s f H _ I h) λv S ⟨x,j,n,r1,C⟩=>chain_link (b0 (B p S f j _ n C) λu G ⟨y,l,o,R,q2⟩ =>
  b0 (O p G f l x y v u _ o r1 R q2) λd J ⟨z,g,i,E,k,e,q⟩=>?_)) M
 subst e;cases E;apply xW;cases k with
 |false=>exact ite_ff {.bl false,g,i,rfl,q}
 |true=>exact ite_tt<|chain_last (b0 (hc p J f g _ i q) λW K z=>by let(Z,m,t,F,D):=z;exact w p K f m y Z u W Q t R F D)
def oh:sizeLine<2^63:=by decide
def vals1(r:aG [x] us):∃u,us=[u]/\RelV x u:=by
 cases r with
 |cons r1 R=>cases R;exact{_,rfl,r1}
def vals2(r:aG [x,y] us):∃u w',us=[u,w']/\RelV x u/\RelV y w':=by
 cases r with
 |cons r1 R =>
  cases R with
  |cons a b=>cases b;exact{_,_,rfl,r1,a}
structure Cd(h:Heap)(x dx C:Addr)(mA:Str->Option Value):Prop where
 obj:h.get? x=↑(W.instObj C dx)
 ns:h.Ns1 dx mA
 ne:dx≠x
def EZ{h:ι}(n:h.Ns1 dx mA):∃d,h.get? dx=↑d/\∀name,W.lookIn name d=↑(mA name):=by
 let(o,s,p,O,H,hk,_,m):=n;refine{o,O,λname=>?_};have e:=m name;unfold nsFind findBy at e;rw[<-Array.find?_toList]at e;unfold W.lookIn;rw[H];dsimp only;split
 .rename_i y q;rw[q]at e;exact jB some e
 .rename_i q;rw[q]at e;have a:s.toList.any (·.refKey)=false:=by
   rw[List.any_eq_false];intro y Y;let(z,t,Q):=hk y<|Array.mem_toList_iff.mp Y;simp[DictEntry.refKey,Q]
  have A:¬s.toList.any (·.refKey)=true:=by rw[a];exact yZ
  rw[yN A];exact jB some e
def Cd.look(I:Cd h x dx C mA):∃o,W.InstAt h x (W.instObj C dx) C (↑o)/\∀name,W.lookIn name o=↑(mA name):=
 let ⟨o,H,l⟩:=EZ I.ns
 {o,{I.obj,rfl,rfl,H},l}
section
variable {K:Φ}
def JZ{e:θ}(X:K.In s.heap)(I:Cd s.heap x dx C mA)(g:W.plainGet K C name=true)(b:W.hasDictIn K C=true)
  (a:W.findIn K (.ref C) name=↑none)(c:mA name=↑v)(H:W.handedIn v=true)(h:Q v {s with toks:=s.toks+1}) :
  wpAny (model prog w) A (getAttr (.ref x) name e) Q E s:=by
 let(o,J,l):=I.look;exact W.get_value X J (W.plainGet_of g).1 (W.findObj_own b a rfl (by rw[l,c])) H h
def GQ(X:K.In s.heap)(I:Cd s.heap x dx C mA)(g:W.plainGet K C name=true)
  (H:W.findIn K (.ref C) name=↑(↑(.ref f)))(ht:W.isFn K (.ref f)=true)(v:mA name=none)(h:Q (.ref f,[.ref x]) s) :
  wpAny (model prog w) A (getMethod (.ref x) name pl) Q E s:=by
 let(o,J,l):=I.look;exact W.method_fn X J (W.plainGet_of g).1 (W.plainGet_of g).2 H (beq_iff_eq.mp ht) (by show(W.lookIn name o).map _=↑false;rw[l,v];rfl) h
def wq(X:K.In s.heap)(I:Cd s.heap x dx C mA)
  (hs:W.findIn K (.ref C) "__setattr__"=↑(↑(.builtin "object.__setattr__")))(p:W.plainOver K C=true)(ht:W.takerIn K C name=↑none)(f:W.hasDictIn K C=true)
  (hw:PySem.Within mA ns)(hsz:ns.length<=sizeLine)
  (h:∀h',Cd h' x dx C (λy=>if y=name then↑v else mA y)->Heap.SameBut dx s.heap h'->Q () {s with heap:=h',toks:=s.toks+2}) :
  wpAny (model prog w) A (setAttr (.ref x) name v) Q E s:=by
 let(o,J,l):=I.look;refine W.set_plain X J hs<|W.osa_open X J p ht λb=>?_;let(g,hc,d):=W.any_some f;refine zV<|zW<|zV<|zV<|wpAny_loadPart I.obj<|zV<|W.Looks.here (W.looks_clsIn X hc) ?_;rw[d];refine zW<|zV<|zW<|zV<|wpAny_nsSet1 I.ns λh' H Z=>?_;let(oD,c,e,P,a,D):=H.count<|.cons name v hw;exact zV<|wpAny_lookBehind P (by rw[a];exact pastItsLine_dict<|yD D<|by grind)<|zW<|h _ {(Z.2 _<|jM I.ne).trans I.obj,H,I.ne} Z
def II(X:K.In s.heap)(m:W.makesIn K C=true)
  (hi:W.findIn K (.ref C) "__init__"=↑(↑(.ref f)))(H:W.typeIn K (.ref f)=↑(.type "function"))
  (h:codeAny (model prog w) (A.under<|.builtin "type.__call__" {.ref C::vs,kw}) (.call (.ref f) {.ref (s.heap.objs.size+1)::vs,kw}) (W.InitBack (s.heap.objs.size+1) R)
   {s with heap:=(s.heap.push W.emptyDict).push (W.instObj C s.heap.objs.size)}) :
  codeAny (model prog w) A (.call (.ref C) {vs,kw}) R s:=by
 exact W.make_core (W.makes_of X m) (W.looks_findIn X hi) (λS=>W.bind_fn X S H) (.inl rfl) h
end
def iB(f:Str)(v:V):Γ (Str×V)->Γ (Str×V)
 |[]=>[(f,v)]
 | (g,x)::r=>if g=f then(g,v)::r else(g,x)::iB f v r
def oU(f g:Str)(v:V):∀fs ,(iB f v fs).lookup g=if g=f then↑v else fs.lookup g
 |[]=>by
  show List.lookup g [(f,v)]=_
  grind
 | (k,x)::r=>by
  have i:=oU f g v r;rw[show iB f v _=(if k=f then(k,v)::r else(k,x)::iB f v r)from rfl]
  grind
def n6(f:Str)(v:V):∀fs:Γ (Str×V),f∈(iB f v fs).map (·.1)/\∀g,g∈fs.map (·.1)->g∈(iB f v fs).map (·.1)
 |[]=>{by simp[iB],λg h=>by grind}
 | (k,x)::r=>by
  let(i,I):=n6 f v r;rw[show iB f v _=(if k=f then(k,v)::r else(k,x)::iB f v r)from rfl]
  grind
def o9(f:Str)(v:V):∀fs ,(iB f v fs).length<=fs.length+1
 |[]=>by simp[iB]
 | (k,x)::r=>by
  have i:=o9 f v r;rw[show iB f v _=(if k=f then(k,v)::r else(k,x)::iB f v r)from rfl]
  grind
def yb.some_of(r:yb (↑v) o):∃u,o=↑u/\RelV v u:=by
 cases o with
 |none=>exact(r).elim
 |some u=>exact{u,rfl,r}
def yb.none_of(r:yb none o):o=none:=by
 cases o with
 |none=>rfl
 |some u=>exact(r).elim
def Fi(r:RelV v u):W.handedIn u=true:=by
 cases v with
 |VC=>cases(r);rfl
 |bl b=>cases(r);rfl
 |int i=>let(t,e):=(r);cases e;rfl
 |str x=>let(t,e):=(r);cases e;rfl
 |byt b=>let(t,e):=(r);cases e;rfl
 |flt b=>let(t,e):=(r);cases e;rfl
 |ref a=>cases(r);rfl
 |ty n=>cases(r);rfl
def wb(v:mV P w H h)(e:H a=↑(.ins C dx fs)):∃m,Cd h a dx C m/\(∀f,yb (fs.lookup f)<|m f)/\PySem.Within m (fs.map (·.1))/\fs.length<=1000/\H dx=↑(.own a):=by
 let(d,z,N,ob,m,n,r,q):=(v a _ e)
 exact{m,⟨ob,n,N⟩,r,q,z,d}
structure sd(K:W.Frag)(C:Addr):Prop where
 pg:W.plainGet K C Str.empty=true
 hd:W.hasDictIn K C=true
 po:W.plainOver K C=true
 sa:W.findIn K (.ref C) "__setattr__"=↑(↑(.builtin "object.__setattr__"))
def sd.get{K:Φ}(c:sd K C)(f:Str):W.plainGet K C f=true:=c.pg
def eL(K:Φ)(C:Ψ)(f:Str):Prop:=W.findIn K (.ref C) f=↑none
def eL.ac9{K:Φ}(n:eL K C f):W.takerIn K C f=↑none:=by
 rw[W.takerIn,n];rfl
structure A3(K:W.Frag)(C:Addr)(m:Str)(f:Addr):Prop where
 at_:W.findIn K (.ref C) m=↑(↑(.ref f))
 fn:W.isFn K (.ref f)=true
 kp:W.keepIn K (.ref f)=true
def BR(I:Inv X pins σ H s)(e:H a=↑(.ins C dx fs))(c:sd X.K C)(n:eL X.K C f)(l:fs.lookup f=↑v)
  (h:∀u s',Inv X pins σ H s'->RelV v u->Q u s'):wpAny (model X.prog X.w) A (getAttr (.ref a) f b) Q E s:=by
 let(m,O,r,_,_,_):=wb I.VH e;let(u,U,R):=yb.some_of (by rw[<-l];exact r f);exact JZ I.WX O (c.get f) c.hd n U (Fi R)<|h u _ (I.tok _) R
def qu(I:Inv X pins σ H s)(e:H a=↑(.ins C dx fs))(c:sd X.K C)(k:A3 X.K C m g)(l:fs.lookup m=none)
  (h:Q (.ref g,[.ref a]) s):wpAny (model X.prog X.w) A (getMethod (.ref a) m pl) Q E s:=by
 let(M,O,r,_,_,_):=wb I.VH e;exact GQ I.WX O (c.get m) k.at_ k.fn (yb.none_of (by rw[<-l];exact r m)) h
def BO(I:Inv X pins σ H s)(e:H a=↑(.ins C dx fs))(c:sd X.K C)(n:eL X.K C f)(L:fs.length<1000)(R:RelV y u)
  (h:∀s',Inv X pins σ (upd H a<|.ins C dx<|iB f y fs) s'->Q () s'):wpAny (model X.prog X.w) A (setAttr (.ref a) f u) Q E s:=by
 let(m,O,r,i,_,k):=wb I.VH e;refine wq I.WX O c.sa c.po n.ac9 c.hd i (by rw[zD,qT];lia) λl d S=>h _ ?_;apply I.write (by rw[e];exact True.intro) (.inr k) (λb q B=>(S.2 b B).trans) (let ⟨o,_,_,j,_⟩:=d.ns;⟨o,j⟩);refine{by rw[ak O.ne];lia,?_,O.ne,d.obj,_,d.ns,λg=>?_,λg G=>?_}
 .have:=o9 f y fs;lia
 .rw[oU];by_cases q:g=f
  .rw[yL q,yL q];exact R
  grind
 .by_cases q:g=f
  .rw[q];exact(n6 f y fs).1
  .refine (n6 f y fs).2 g (i g λz=>G ?_)
   grind
def Inv.made(I:Inv X pins σ H s):Inv X pins σ (upd (upd H s.heap.objs.size<|.own<|s.heap.objs.size+1) (s.heap.objs.size+1)<|.ins C s.heap.objs.size [])
  {s with heap:=(s.heap.push W.emptyDict).push (W.instObj C s.heap.objs.size)}:=by
 have E:(s.heap.push W.emptyDict).get? s.heap.objs.size=↑W.emptyDict:=zX s.heap rfl;have a:((s.heap.push W.emptyDict).push<|W.instObj C s.heap.objs.size).get? (s.heap.objs.size+1)=↑(W.instObj C s.heap.objs.size):=by
  have:=zX (s.heap.push W.emptyDict) (o:=W.instObj C s.heap.objs.size) rfl;simp_all
 apply(I.laid (o:=.own _) (t':=s.toks) (λb u=>zU _) (yM _) {_,E}).laid (λb u=>zU _)<|Nat.le_of_eq<|xJ _ _;have n:s.heap.objs.size≠s.heap.objs.size+1:=yR<|kM _;exact{by rw[ak n,av],xV _,n,a,λ_=>none,(Heap.Ns1.of_empty {W.emptyDict,#[],_,E,rfl,(λe c=>absurd c<|by simp),λ_=>rfl}).at λo=>zU _,λ_=>True.intro,nofun}
def LY{env:Env}(b:attributeBase e f env (eval e env)=eval e env)
  (h:wpAny (model prog w) A (eval e env) (λo J=>wpAny (model prog w) A (getAttr o f true) Q E J) E s):wpAny (model prog w) A (eval (.Attribute e f pos) env) Q E s:=
 Attribute_any_ h (by rw[arm_eval_Attribute,b])
def JF(K:Φ)(ta:TE)(f:Str):TE:=λc H Q=>ta c H λx b=>∃a C d fs v,x=.ref a/\b a=↑(.ins C d fs)/\sd K C/\eL K C f/\fs.lookup f=↑v/\Q v b
def SU(K:Φ)(ta t:TE)(f:Str):TS:=λD b H=>t b H λy e=>ta b e λx c=>∃a C d fs,x=.ref a/\c a=↑(.ins C d fs)/\sd K C/\eL K C f/\fs.length<1000 /\
 D.nx b (upd c a<|.ins C d<|iB f y fs)
def wx(j:PE X e ta)(B:attributeBase e f X.env (eval e X.env)=eval e X.env):PE X (.Attribute e f pos) (JF X.K ta f):=by
 refineλp s k H Q I h=>LY B<|b0 (j p s k H _ I h) λu S z=>?_;let(x,b,i,R,a,C,D,fs,v,g,E,c,n,l,q):=z;subst g;obtain rfl:u=.ref a:=R;exact BR i E c n l λU m d r=>{v,b,d,r,q}
def NG(A:PE X o ta)(v:PE X value U)(hs:swapsWith value (↑(.Attribute o f pos')) pos.line X.env=pure false):PS X (.Assign [.Attribute o f pos'] value pos) (SU X.K ta U f):=by
 refineλp s b H D I h=>plainObj_wpAny_Assign_Attribute (b0 (v p s b H _ I h) λu S ⟨y,d,i,R,q⟩=>b0 (A p S b d _ i q) λO t z=>?_) hs;let(x,k,e,r,a,C,m,fs,j,E,c,n,l,q2):=z;subst j;obtain rfl:O=.ref a:=r;exact BO e E c n l R λw g=>{b,_,g,q2}
structure bT(k:Nat)(A:Around):Prop where
 hd:A.handled=none
 dp:A.depth+3*k+5<recursionLimit
 un:A.units+16*k+200<cLine
def bT.mono(r:bT k A)(h:j<=k):bT j A:={r.hd,by have:=r.dp;lia,by have:=r.un;lia}
def bT.deeper(r:bT (k+1) A)(env:Env):bT k (A.deeper env):=
 {r.hd,by have:=r.dp;show A.depth+1+3*k+5<_;lia,by have:=r.un;show A.units+3+16*k+200<_;lia}
def bT.in1(r:bT (k+1) A):bT k A.in1:=
 {r.hd,by have:=r.dp;grind,by have:=r.un;grind}
def Cf{A:ξ}{us:Γ Θ}:(A.under<|.builtin "type.__call__" {.ref C::us,kw}).depth=A.depth+1:=by
 rfl
def BZ{A:ξ}{us:Γ Θ}:(A.under<|.builtin "type.__call__" {.ref C::us,kw}).units=A.units+1:=by
 rfl
def bT.make(r:bT (k+1) A)(C:Ψ)(us:Γ Θ)(w:Γ _):bT k (A.under<|.builtin "type.__call__" {.ref C::us,w}):=
 {r.hd,by have:=r.dp;rw[Cf];lia,by have:=r.un;rw[BZ];lia}
def bT.depth(r:bT k A):A.depth<recursionLimit:=by have:=r.dp;lia
def bT.units(r:bT k A):A.units+64<cLine:=by have:=r.un;lia
def bT.abW(r:bT k A):A.units<cLine:=by have:=r.un;lia
def QT:TA:=λ_ H Q=>Q [] H
def QR(ta:TE)(t:TA):TA:=λa H Q=>ta a H λx b=>t a b λs c=>Q (x::s) c
def cf:PA X [] QT:=λ_ _ _ _ H Q I h=>kH {[],H,I,.nil,h}
def ba(A:PE X e te)(r:PA X es t)(hs:starEach (e::es) X.env=(false,eval e X.env)::starEach es X.env:=by rfl):PA X (e::es) (QR te t):=by
 intro P p s a H Q I h;rw[hs];exact jI (b0 (A p s a H _ I h) λu S z=>by let(x,b,i,r1,q):=z;exact(b0 (r P p S a b _ i q) λU g z=>by let(f,c,d,R,q2):=z;exact {x::f,c,d,.cons r1 R,q2}))
def Tt(t:TA):TE:=λb H Q=>t b H λx a=>x.length<=sizeLine/\∀p,a p=none->Q (.ref p) (upd a p<|.tup x)
def SL(t:TA):TE:=λb H Q=>t b H λx a=>x.length<=sizeLine/\∀p,a p=none->Q (.ref p) (upd a p<|.lst x)
def Gp{x1}(h:PA X es t):PE X (.Tuple es x1 pos) (Tt t):=by
 refineλp s d H Q I c=>wpAny_Tuple_spliced<|b0 (h pos p s d H _ I c) λU S ⟨x,a,i,r,z,q⟩=>{by rw[<-r.length];lia,({.ref S.heap.objs.size,upd a S.heap.objs.size _,i.laid (λb u=>zU _) (yM _) ?_,rfl,q _<|i.VH.fresh<|yM _})};exact{z,U,r,{_,zX _ rfl,rfl,_,rfl},_,zX _ rfl,rfl}
def B5(h:PA X es t):PE X (.List es pos) (SL t):=by
 refineλp s d H Q I c=>wpAny_List_spliced<|b0 (h pos p s d H _ I c) λU S ⟨x,a,i,r,z,q⟩=>{by rw[<-r.length];lia,({.ref S.heap.objs.size,upd a S.heap.objs.size _,i.laid (λb u=>zU _) (yM _) ?_,rfl,q _<|i.VH.fresh<|yM _})};exact{z,U,0,r,zX _ rfl}
abbrev Sp:=Γ V->Hp->VK->XK->Prop
abbrev JH:=Γ Env->Hp->Ξ->XK->Θ->Ξ->Prop
structure tH(P:Program)(w:World)(K:W.Frag)(mg:Str->Option Value)(base:Heap)(A:Around)(outer:List Env)(s:Shared)(H:Hp):Prop where
 frames:A.frames=↑outer
 mod:Mod K mg base
 bs:∀b o,base.get? b=↑o->s.heap.get? b=↑o/\H b=none
 ZE:base.objs.size<=s.heap.objs.size
 Wz:s.heap.FunFrames base outer
 frf:∀b∈iO outer,H b=none
 VH:mV P w H s.heap
 bare:AllBare s.gens
def CE(o:Γ Env)(P:ε)(w:δ)(H:Hp)(s:Ξ)(Q:VK)(u:Θ)(s':Ξ):Prop:=
 ∃v a,s'.os=s.os/\AllBare s'.gens/\Un (iO o) [] H a s.heap s'.heap/\mV P w a s'.heap/\RelV v u/\Q v a
def CR(CX:JH)(o:Γ Env)(P:ε)(w:δ)(H:Hp)(s:Ξ)(Q:VK)(E:XK)(r:Result)(s':Ξ):Prop:=
 match r with
 |.ok (.ret u)=>CE o P w H s Q u s'
 |.ok _=>False
 |.error e=>CX o H s E e s'
structure dE(P:Program)(w:World)(K:W.Frag)(mg:Str->Option Value)(base:Heap)(CX:JH)(k:Nat)(f:Addr)(fd:FuncData)(ps:List Str)(sp:Sp):Prop where
 len:∀vs H Q E,sp vs H Q E->vs.length=ps.length
 run:∀(A:ξ)(outer:Γ Env)(s:Ξ)(H:Hp)(args:Args)(us:Γ Θ)(vs:Γ V)(Q:VK)(E:XK),bT k A->tH P w K mg base A outer s H->BindsTo s fd args (ps.zip us)->aG vs us->sp vs H Q E ->
  codeAny (model P w) A (.call (.ref f) args) (CR CX outer P w H s Q E) s
def dE.mono{K:Φ}(F:dE P w K mg base CX j f fd ps sp)(h:j<=k) :
  dE P w K mg base CX k f fd ps sp:={F.len,λA o s H a u v Q E r=>F.run A o s H a u v Q E<|r.mono h}
def tH.make{K:Φ}(e:tH P w K mg base A outer s H)(C:Ψ)(us:Γ Θ)(k:Γ _) :
  tH P w K mg base (A.under<|.builtin "type.__call__" {.ref C::us,k}) outer s H:={by (exact e.frames),e.mod,e.bs,e.ZE,e.Wz,e.frf,e.VH,e.bare}
def Inv.abX(I:Inv X pins σ H s):tH X.prog X.w X.K X.mg X.base X.A X.stack s H:=
 {I.ok.frames,I.ok.mod,I.bs,yD I.ok.ZE I.sz,I.stack,I.WK,I.VH,I.bare}
def Inv.after(I:Inv X pins σ H s)(h:CE X.stack X.prog X.w H s Q u s'):EP X pins σ Q u s':=by
 let(v,a,o,b,n,c,r,q):=h;let(e,g,d,t,L):=s';obtain rfl:L=s.os:=o;exact{v,a,I.call n c b<|nofun,r,q}
def QK(sp:Sp)(X:Γ V)(E:XK)(t:TA):TE:=λb H Q=>t b H λv a=>sp (v++X) a Q E
def CV(C:Ψ)(m:Str)(sp:Sp)(X:Γ V)(E:XK)(ta:TE)(t:TA):TE:=λc H Q=>ta c H λx b=>∃a D fs,x=.ref a/\b a=↑(.ins C D fs)/\fs.lookup m=none /\
 t c b λv d=>sp (x::(v++X)) d Q E
def Rw(C:Ψ)(sp:Sp)(X:Γ V)(E:XK)(t:TA):TE:=λc H Q=>t c H λs a=>∀x d,a x=none->a d=none->d≠x ->
 sp (.ref x::(s++X)) (upd (upd a d<|.own x) x<|.ins C d []) (λv b=>v=.VC/\Q (.ref x) b) E
def Binds(K:Φ)(f:η)(ps:Γ Str)(ds:Γ Θ):Prop:=
 ∀(s:Ξ)(u:Γ Θ),K.In s.heap->(u++ds).length=ps.length->BindsTo s f {u,[]} (ps.zip<|u++ds)
def Binds.all{K:Φ}(h:∀us ,us.length=ps.length->bindArgs fd {us,[]}=pure (ps.zip us)):Binds K fd ps []:=λs us _ l=>by
 rw[qF]at l ⊢;exact .of_eq<|h us l
def cO(CX:JH)(X:Cx)(E:XK):Prop:=∀(p:Γ (Ψ×Obj))(a:St)(H:Hp)(s:Ξ)(e:Θ)(S:Ξ),Inv X p a H s->CX X.stack H s E e S->X.xe e S
def Ck(F:dE X.prog X.w X.K X.mg X.base CX k f fd ps sp)(a:bT k X.A)(b:Binds X.K fd ps ds)(d:aG U ds)(x:cO CX X E)
  (I:Inv X pins σ H s)(r:aG vs us)(h:sp (vs++U) H Q E):wpAny (model X.prog X.w) X.A (call (.ref f) us) (EP X pins σ Q) X.xe s:=by
 have R:=r.append d;refine vI<|jR (F.run X.A X.stack s H _ _ _ Q E a I.abX (b s us I.WX (by rw[<-R.length];exact F.len _ _ _ _ h)) R h) λr S q=>?_;cases r with
 |error e=>exact x pins σ H s e S I q
 |ok l =>
  cases l with
  |ret u=>exact I.after q
  |next=>exact False.elim q
  |brk=>exact False.elim q
  |cont=>exact False.elim q
def mH(F:dE X.prog X.w X.K X.mg X.base CX k f fd ps sp)(R:bT k X.A)(g:Gl X x)(m:X.mg x=↑(.ref f))(hk:W.keepIn X.K (.ref f)=true)(B:Binds X.K fd ps ds)(d:aG U ds)(j:cO CX X E)
  (b:PA X (e::es) t)(v:(x==("__debug__":Str))=false:=by decide)(c:starEach (e::es) X.env=(false,eval e X.env)::starEach es X.env:=by rfl)(a:(backTo pos<|starEach es X.env).any (·.1)=false:=by rfl) :
  PE X (.Call (.Name x p) (e::es) [] pos) (QK sp U E t):=λP s l H Q I h=>qX<|jg I g m (W.callWith_K I.ok.mod.kin hk (b0 (b pos P s l H _ I h) λu S z=>by let(o,n,i,r,q):=z;exact {i.WX,(Ck F R B d j i r q)}) c a) v
def vo{pl:Sem θ}(G:PE X o ta)(c:sd X.K C)(M:A3 X.K C m f)(F:dE X.prog X.w X.K X.mg X.base CX k f fd ps sp)(R:bT k X.A)(B:Binds X.K fd ps ds)(D:aG X1 ds)(J:cO CX X E)(z:PA X (e::es) t)
  (U:starEach (e::es) X.env=(false,eval e X.env)::starEach es X.env:=by rfl)(j:(backTo pos<|starEach es X.env).any (·.1)=false:=by rfl)
  (ht:eval (.Call (.Attribute o m apos) (e::es) [] pos) X.env=(do
   let v <- eval o X.env
   standAt apos.atName
   let (f,first) <- holding [v]<|getMethod v m pl
   callWith pos f first (backTo pos<|starEach (e::es) X.env) (backToKw pos<|keywordEach [] X.env)):=by rfl) :
  PE X (.Call (.Attribute o m apos) (e::es) [] pos) (CV C m sp X1 E ta t):=by
 refineλp s d H Q I h=>W.methodCall_KW (b0 (G p s d H _ I h) λu N z=>?_) ht;let(x,g,i,L,a,P,fs,y,n,l,q):=z;subst y;obtain rfl:u=.ref a:=L;apply qu i n c M l;exact W.callWith_K I.ok.mod.kin M.kp (b0 (z pos p N d g _ i q) λY T z=>by let(S,O,b,r,q2):=z;exact {b.WX,(Ck (vs:=.ref a::S) F R B D J b (.cons rfl r) q2)}) U j
def qv(g:PE X o ta)(c:sd X.K C)(M:A3 X.K C m f)(F:dE X.prog X.w X.K X.mg X.base CX k f fd ps sp)(r:bT k X.A)(B:Binds X.K fd ps ds)(d:aG U ds)(j:cO CX X E)
  (ht:eval (.Call (.Attribute o m apos) [] [] pos) X.env=(do
   let v <- eval o X.env
   standAt apos.atName
   let (f,first) <- holding [v]<|getMethod v m pl
   callWith pos f first (backTo pos<|starEach [] X.env) (backToKw pos<|keywordEach [] X.env)):=by rfl) :
  PE X (.Call (.Attribute o m apos) [] [] pos) (CV C m sp U E ta QT):=by
 refineλp s n H Q I h=>W.methodCall_KW (b0 (g p s n H _ I h) λu S z=>?_) ht;let(x,t,i,R,a,D,fs,b,e,l,q):=z;subst b;obtain rfl:u=.ref a:=R;apply qu i e c M l;exact W.callWith_K0 i.WX M.kp<|Ck (vs:=[.ref a]) F r B d j i (.cons rfl .nil) q
structure Mk(K:W.Frag)(C f:Addr):Prop where
 makes:W.makesIn K C=true
 init:W.findIn K (.ref C) "__init__"=↑(↑(.ref f))
 fn:W.isFn K (.ref f)=true
 kp:W.keepIn K (.ref C)=true
def FW(M:Mk X.K C f)(F:dE X.prog X.w X.K X.mg X.base CX k f fd ps sp)(m:bT (k+1) X.A)(B:Binds X.K fd ps ds)(D:aG U ds)
  (n:cO CX X E)(I:Inv X pins σ H s)(r:aG vs us)
  (h:∀x d,H x=none->H d=none->d≠x->sp (.ref x::(vs++U)) (upd (upd H d<|.own x) x<|.ins C d []) (λv c=>v=.VC/\Q (.ref x) c) E) :
  wpAny (model X.prog X.w) X.A (call (.ref C) us) (EP X pins σ Q) X.xe s:=by
 have a:=h _ s.heap.objs.size (I.VH.fresh<|Nat.le_succ _) (I.VH.fresh<|yM _)<|yR<|kM _;have i:=Inv.made (C:=C) I;have R:aG (V.ref (s.heap.objs.size+1)::(vs++U)) _:=.cons rfl (r.append D);have L:(.ref (s.heap.objs.size+1)::us++ds).length=ps.length:=by
  have e:=R.length;rw[F.len _ _ _ _ a]at e
  grind
 refine vI (II I.WX M.makes M.init (beq_iff_eq.mp M.fn) (jR (F.run _ X.stack _ _ _ _ _ _ E (m.make C us [])
  (i.abX.make C us []) (B _ _ i.WX L) R a) λr S q=>?_))
 cases r with
 |error e=>exact n pins σ _ _ e S i q
 |ok l =>
  cases l with
  |ret u =>
   let(v,b,g,p,j,o):=i.after q;subst j;exact{p,V.ref _,b,g,rfl,o}
  |next=>exact False.elim q
  |brk=>exact False.elim q
  |cont=>exact False.elim q
def KH(M:Mk X.K C f)(F:dE X.prog X.w X.K X.mg X.base CX k f fd ps sp)(R:bT (k+1) X.A)(g:Gl X x)(m:X.mg x=↑(.ref C))(B:Binds X.K fd ps ds)(d:aG U ds)(j:cO CX X E)
  (b:PA X (e::es) t)(v:(x==("__debug__":Str))=false:=by decide)(c:starEach (e::es) X.env=(false,eval e X.env)::starEach es X.env:=by rfl)(a:(backTo pos<|starEach es X.env).any (·.1)=false:=by rfl) :
  PE X (.Call (.Name x p) (e::es) [] pos) (Rw C sp U E t):=λP s l H Q I h=>qX<|jg I g m (W.callWith_K I.ok.mod.kin M.kp (b0 (b pos P s l H _ I h) λu S z=>by let(o,n,i,r,q):=z;exact {i.WX,(FW M F R B d j i r q)}) c a) v
structure aY(N P:List Str)(sc:Scope):Prop where
 kind:sc.kind=.function
 co:sc.isCoroutine=false
 gen:sc.isGenerator=false
 nd:N.Nodup
 pre:N.take P.length=P
 par:∀x∈P,sc.names.lookup x=↑.local \/ sc.names.lookup x=↑.cell
 abY:∀y∈sc.names,y.2≠.free
def uv{k:Str->Δ NameKind}:∀{b:Γ (Str×Θ)}{m:Str->Δ Θ},(∀v,(x,v)∉b)->bindL k b m x=m x
 |[],_,_=>rfl
 | (n,v)::r,m,h=>by
  unfold bindL;rw[uv λw hw=>h w<|zC _ hw];split
  .have:x≠n:=by rintro rfl;exact h v zE
   simp[this]
  .rfl
def uO{k:Str->Δ NameKind}:∀{b:Γ _}{m:Str->Δ Θ},(∀v,(x,v)∉b)->bindC k b m x=m x
 |[],_,_=>rfl
 | (n,v)::r,m,h=>by
  rw[bindC,uO λw hw=>h w<|zC _ hw];split<;>grind
def uc{k:Str->Δ NameKind}:∀{P:Γ Str}{vs:Γ Θ}{i:Nat}{m:Str->Δ Θ},P.Nodup->P[i]?=↑x->vs[i]?=↑v->k x=↑.local ->
  bindL k (P.zip vs) m x=↑v
 |[],_,_,_,_,h,_,_=>by simp at h
 |_::_,[],_,_,_,_,h,_=>by simp at h
 |p::P,w::vs,0,m,n,H,a,hk=>by
  simp at H a;subst H;subst a;show bindL k ((p,w)::P.zip vs) m p=_;rw[bindL,uv λv b=>(List.nodup_cons.mp n).1 (vQ b).1,yL hk];simp
 |p::P,w::vs,i+1,m,n,H,a,hk=>by
  show bindL k ((p,w)::P.zip vs) m x=_;exact uc (i:=i) (List.nodup_cons.mp n).2 (by simpa using H) (by simpa using a) hk
def uM{k:Str->Δ NameKind}:∀{P:Γ Str}{vs:Γ Θ}{i:Nat}{m:Str->Δ Θ},P.Nodup->P[i]?=↑x->vs[i]?=↑v->k x≠some .local ->
  bindC k (P.zip vs) m x=↑v
 |[],_,_,_,_,h,_,_=>by simp at h
 |_::_,[],_,_,_,_,h,_=>by simp at h
 |p::P,w::vs,0,m,n,H,a,hk=>by
  simp at H a;subst H;subst a;show bindC k ((p,w)::P.zip vs) m p=_;rw[bindC,uO λv b=>(List.nodup_cons.mp n).1 (vQ b).1,yN hk];simp
 |p::P,w::vs,i+1,m,n,H,a,hk=>by
  show bindC k ((p,w)::P.zip vs) m x=_;exact uM (i:=i) (List.nodup_cons.mp n).2 (by simpa using H) (by simpa using a) hk
def start(N:Γ Str)(vs:Γ V):St:=vs.map some++List.replicate (N.length-vs.length) none
def tJ(CX:JH)(P:ε)(w:δ)(K:Φ)(m:Str->Δ Θ)(base:ι)(N:Γ Str)(q:Str)(scope:ζ)(f:Ψ)(c:Θ)(A:ξ)(o:Γ Env)(s:Ξ)(H:Hp)(E:XK):Cx where
 prog:=P
 w:=w
 K:=K
 mg:=m
 base:=base
 A:=A.deeper<|envOfC q scope s.heap.objs.size f c
 N:=N
 VQ:=s
 VB:=H
 env:=envOfC q scope s.heap.objs.size f c
 outer:=o
 stack:=envOfC q scope s.heap.objs.size f c::o
 ex:=[]
 calm:=true
 fn:=λ_=>true
 pn:=[]
 xe:=λe S=>wpAny (model P w) (A.deeper<|envOfC q scope s.heap.objs.size f c) (leaving (envOfC q scope s.heap.objs.size f c) e) (λ_ a=>CX o H s E e a) (λb a=>CX o H s E b a) S
def qy{sc:ζ}{n:Nat}(h:sc.names.lookup x=↑.cell):∃c,(cellsFrom n sc.names []).lookup x=↑c:=by
 exact Option.isSome_iff_exists.mp<|W.cellsFrom_some sc.names n []<|.inl h
def uu{CX:JH}{K:Φ}{M:Str->Δ Θ}{ps:Γ Str}{scope:ζ}{C:Θ}{A:ξ}{o:Γ Env}{s:Ξ}{E:XK}{us:Γ Θ}{vs:Γ V}
  (S:aY N ps scope)(D:A.handled=none)(g:tH P w K M base A o s H)(L:vs.length=ps.length)(r:aG vs us)
  (x:InCallC s s.heap.objs.size (bindL (envOfC qual scope s.heap.objs.size f C).kindOf (ps.zip us) λ_=>none) (cellsFrom (s.heap.objs.size+1) scope.names []) (bindC (envOfC qual scope s.heap.objs.size f C).kindOf (ps.zip us) λ_=>none) s1) :
  Inv (tJ CX P w K M base N qual scope f C A o s H E) [] (start N vs) H s1:=by
 have F:ps.length<=N.length:=by have:=jB List.length S.pre;rw[jV]at this;lia
 let(t,T,rfl,hk):=x.done;have j:∀b:Ψ,b∉(tJ CX P w K M base N qual scope f C A o s H E).ex:=λb z=>absurd (show b∈([]:Γ Ψ)from z) (by simp);refine⟨{g.mod,S.kind,rfl,rfl,yM _,λy z c t d=>?_,λy Y=>?_,λy c _ h=>?_,λ_=>D,Around.frames_deeper g.frames,.inr {rfl,rfl},λb z=>absurd z<|j b,g.bs,g.ZE,λb _ _=>j b,λb z=>absurd z<|j b,g.Wz,g.frf},
  rfl,g.bare,Un.kept hk,{_,x.toInCall.ns,λi y v t d G=>?_},λy c h=>{_,x.cell y c h},g.VH.fresh<|yM _,λy c h=>?_,λp l=>absurd (show p∈([]:Γ (Ψ×Obj))from l)<|by simp,g.VH.kept hk,?_⟩
 .exact name_of_addr x.apart (jY t)<|jY d
 .have Y:scope.names.lookup y=↑.cell\/scope.names.lookup y=↑.free:=Y;rcases Y with Y|Y
  .exact qy Y
  .exact absurd rfl (S.abY _<|jY Y)
 .exact jS<|x.above y c<|jY h
 .have I:i<vs.length:=by
   unfold start at d;by_cases I:i<vs.length
   .exact I
   .rw[yT<|by simpa using I]at d;rw[yX]at d;split at d<;>cases d
  have B:vs[i]?=↑v:=by
   unfold start at d;rw[yS<|by simpa using I,zO]at d;cases e:vs[i]? with
   |none=>rw[e]at d;cases d
   |some a=>rw[e]at d;cases d;rfl
  let(u,U,R):=r.get B;have l:ps[i]?=↑y:=by
   rw[<-S.pre,List.getElem?_take_of_lt<|by lia];exact t
  have m:ps.Nodup:=by rw[<-S.pre];exact S.nd.sublist<|List.take_sublist _ _
  refine{u,R,?_};rcases S.par y (qB l)with k|k
  .exact .inl {k,uc m l U k}
  .let(c,e):=qy (n:=s.heap.objs.size+1) k;refine .inr {.inl k,c,e,?_};have q:=x.cell y c e;rwa[uM m l U (by show scope.names.lookup y≠_;rw[k];decide)]at q
 .exact g.VH.fresh<|jS<|x.above y c<|jY h
 .unfold start;show _=N.length;rw[zN,zD,xM];lia
def tT{K:Φ}{kV:Θ}
  {D:Array (Δ Θ)}{N ps:Γ Str}{sp:Sp}(lk:K.lookup f=↑{oc,od,.func<|W.fnOf name qual params body scope dV kV doc pm an U ct,D})(C:W.codeIn K U qual=true)(S:aY N ps scope)
  (l:∀vs H Q E,sp vs H Q E->vs.length=ps.length)
  (g:∀(A:ξ)(O:Γ Env)(s:Ξ)(H:Hp)(vs:Γ V)(Q:VK)(E:XK),bT k (A.deeper<|envOfC qual scope s.heap.objs.size f U)->sp vs H Q E ->
   ∃t,qb (tJ CX P w K mg base N qual scope f U A O s H E) body t/\t {nx:=λ_ H'=>Q .VC H',rt:=Q} (start N vs) H) :
  dE P w K mg base CX (k+1) f (W.fnOf name qual params body scope dV kV doc pm an U ct) ps sp:=by
 refine{l,λA O s H z us vs Q E R d G r p=>?_};have T:=l _ _ _ _ p;have X:K.In s.heap:=d.mod.kin.keeps λb o e=>(d.bs b o e).1;have m:s.heap.NoLimit:=d.mod.nolimit.keeps λb o e=>(d.bs b o e).1;have Z:∀y∈ps.zip us,scope.names.lookup y.1=↑.local \/ (scope.names.lookup y.1=↑.cell/\((cellsFrom (s.heap.objs.size+1) scope.names []).lookup y.1).isSome=true):=λz hy=>by
  let(n,v):=z
  rcases S.par n (vQ hy).1 with q|q
  .exact .inl q
  .exact .inr {q,W.cellsFrom_some _ _ _<|.inl q}
 refine codeAny_call_function R.depth (X _ _ lk) rfl S.co S.gen rfl (W.codeRec_of X C) (G _ _ _ _ ?_);refine wpAny_newFunctionEnv_cells S.kind Z λF M B x=>?_;subst M;refine{m.keeps x.toInCall.keep,codeAny_func ?_};let(t,ht,Y):=g A O s H vs Q E (R.deeper _) p;have I:Inv (tJ CX P w K mg base N qual scope f U A O s H E) [] (start N vs) H B:=uu S R.hd d T r x;refine xA (ht [] B (start N vs) H _ I Y) (λL j c=>?_) λe j c=>c;have fin:∀{a:St}{H':Hp}{v:V}{u:Θ},Inv (tJ CX P w K mg base N qual scope f U A O s H E) [] a H' j->RelV v u->Q v H'->CE O P w H s Q u j:=
  λ{a H' v u}J i q=>{v,H',J.os,J.bare,J.base,J.VH,i,q}
 cases L with
 |ret u =>
  let(v,a,H',J,i,q):=c;exact fin J i q
 |next =>
  let(a,H',J,q):=c;exact fin (v:=V.VC) (u:=Value.none) J rfl q
 |brk =>
  let(_,_,_,q):=c;exact False.elim q
 |cont =>
  let(_,_,_,q):=c;exact False.elim q
section
variable {id T:String}
def Su(r:Γ V->Hp->VK->Prop)(t:TA):TE:=λb H Q=>t b H λv a=>r v a Q
def kz(hc:gP X (.builtin id) r)(g:Gl X x)(m:X.mg x=none)(c:bootBuiltins x=↑(.builtin id))(A:PA X (e::es) t)(n:x≠"__name__":=by decide)(v:(x==("__debug__":Str))=false:=by decide)
  (E:starEach (e::es) X.env=(false,eval e X.env)::starEach es X.env:=by rfl)(W:(backTo pos<|starEach es X.env).any (·.1)=false:=by rfl):PE X (.Call (.Name x p) (e::es) [] pos) (Su r t):=by
 exactλP s a H Q I h=>qX<|fO I g m c (PyProof.Rows.callWith_builtin1 (b0 (A pos P s a H _ I h) λu S z=>by let(d,b,i,r1,q):=z;exact hc P S a b d u Q i r1 q) E W) n v
def uD(hc:gP X (.type T) r)(g:Gl X x)(m:X.mg x=none)(c:bootBuiltins x=↑(.type T))(A:PA X (e::es) t)(n:x≠"__name__":=by decide)(v:(x==("__debug__":Str))=false:=by decide)
  (E:starEach (e::es) X.env=(false,eval e X.env)::starEach es X.env:=by rfl)(W:(backTo pos<|starEach es X.env).any (·.1)=false:=by rfl):PE X (.Call (.Name x p) (e::es) [] pos) (Su r t):=by
 exactλP s a H Q I h=>qX<|fO I g m c (qQ (b0 (A pos P s a H _ I h) λu S z=>by let(d,b,i,r1,q):=z;exact hc P S a b d u Q i r1 q) E W) n v
end
end L2
namespace HT
open PySem PyProof.Rows
def lexLt:Γ Int->Γ Int->θ
 |[],[]=>false
 |[],_::_=>true
 |_::_,[]=>false
 |x::s,y::Y=>if x=y then lexLt s Y else decide (x<y)
def cy(x y:Int)(xs ys:Γ Int):lexLt (x::xs) (y::ys)=if x=y then lexLt xs ys else decide (x<y):=rfl
def tq:lexLt [] []=false:=rfl
def r9(y:Int)(ys:Γ Int):lexLt [] (y::ys)=true:=rfl
def sD(x:Int)(xs:Γ Int):lexLt (x::xs) []=false:=rfl
def Hm(A:ξ)(s:Ξ)(a:Int)(t:Tok)(c:Int)(u:Tok):∃e,SeqAt.EqAt A s (.int a t) (.int c u) e/\(e=true↔a=c):=
 {(a==c),SeqAt.EqAt.int_int a t c u,by simp}
section
open PySem.SeqAt
open PySem.AutoSeq1 (wpAny_loadPart')
open PySem.MeetsSeq PySem.MeetsSeq2 PySem.MeetsSeq3
end
def Lc(ht:IsTup s.heap t vs.toArray)(B:IsTup s.heap b ws.toArray)(v:vs≠[])
  (g:ws=[]->Q (.ref t) s)(i:ws≠[]->Q (.ref s.heap.objs.size) {s with heap:=s.heap.push {cls:=.type "tuple",data:=.seq (vs++ws).toArray}})
  (hsz:vs.length+ws.length<=sizeLine):wpAny (model prog w) A (binaryOp .Add (.ref t)<|.ref b) Q E s:=by
 let((cls,c,d,l),o,hc,n,j):=ht;let((f,D,a,z),Z,Y,N,H):=B;subst hc j Y H;have e:vs.toArray++ws.toArray=(vs++ws).toArray:=by simp
 by_cases hw:ws=[]
 .exact wK {_,o,rfl} {_,Z,rfl} noFill_tuple_add seq_tuple_add vL vG (vD _ _)
   (tuple_addW1 t b vs.toArray ws.toArray n N c D l z (by simpa using v)<|by grind) {o,Z,g hw}
 .refine wK {_,o,rfl} {_,Z,rfl} noFill_tuple_add seq_tuple_add vL vG (vD _ _)
   (tuple_addW2 t b vs.toArray ws.toArray n N c D l z (by simpa using v) (by simpa using hw)<|by omega) {o,Z,?_}
  rw[e];exact i hw
def e8(n d:Nat):Δ Int->Nat
 |none=>d
 |some v=>if v<0 then(v+(n:Int)).toNat else min v.toNat n
def zm(n d:Nat):e8 n d none=d:=rfl
def C8(n d k:Nat):e8 n d (↑k)=min k n:=by
 rfl
def Ol(n d:Nat)(H:d<=n)(o:Δ Int):e8 n d o<=n:=by
 cases o with
 |none=>exact H
 |some v =>
  show(if v<0 then(v+n).toNat else min v.toNat n)<=n
  grind
def CC(v:Int)(n d:Nat):(if v<0 then max (v+n) 0 else min v n)=e8 n d (↑v):=by
 show(if v<0 then max _ 0 else min v n)=(if v<0 then(v+n).toNat else min v.toNat n)
 grind
def Bu(lo hi:Δ Int)(n:Nat):Builtin.Slice.sliceAdjust lo hi 1 n=((e8 n 0 lo:Int),(e8 n n hi:Int)):=by
 apply Prod.ext
 .cases lo with
  |none=>rfl
  |some v=>exact CC v n 0
 .cases hi with
  |none=>rfl
  |some v=>exact CC v n n
def BM(i j:Nat):Builtin.Slice.slicePlaces (i) j 1=j-i:=by
 unfold Builtin.Slice.slicePlaces;simp ;lia
def sF(p:IsPart v o)(h:Q o s):wpAny (model prog w) A (Builtin.Slice.slicePartIndex v) Q E s:=by
 cases p with
 |none=>exact slicePart_none h
 |int i t=>exact slicePart_int h
def iG{vl:Θ}{lo hi:Δ Int}{n:Nat}{Q:Int×Int×Nat->Ξ->Prop}(hs:s.heap.IsSliceOf sl vl U .none)(pl:IsPart vl lo)(p:IsPart U hi)
  (h:Q (e8 n 0 lo,1,e8 n n hi-e8 n 0 lo) s):wpAny (model prog w) A (Builtin.Slice.sliceApplied (.ref sl)<|pure n) Q E s:=by
 let(o,Z,H,Y):=hs;refine zV<|zV<|qS Z Y rfl (zV<|qS Z Y rfl (zV<|qS Z Y rfl (zW<|zV<|slicePart_none<|zV<|sF pl<|zV<|sF p<|zV<|zW ?_)));show wpAny _ _ (match Builtin.Slice.sliceAdjust lo hi 1 (n)with|(lo,hi)=>pure (lo,(1:Int),Builtin.Slice.slicePlaces lo hi 1)) _ _ s;rw[Bu lo hi n];show wpAny _ _ (pure _) _ _ s;rw[BM];exact zW h
def HD(xs:Array Θ)(i k:Nat):((List.range k).filterMap λ(m:Nat)=>xs[((i:Int)+(m:Int)*1).toNat]?).toArray=((xs.toList.drop i).take k).toArray:=by
 have e:(λ(m:Nat)=>xs[((i:Int)+(m:Int)*1).toNat]?)=λm=>xs[i+m]?:=by
  funext m;have:((i:Int)+(m:Int)*1).toNat=i+m:=by lia
  rw[this]
 rw[e];have:=pick_run xs i k;rw[List.filterMap_map]at this;have E:((λx=>xs[x]?) ∘ λx=>i+x)=λm=>xs[i+m]?:=rfl;rw[E]at this;rw[this]
def mS{items:Array Θ}{vl:Θ}{lo:Δ Int}(ht:IsTup s.heap t items)(hs:s.heap.IsSliceOf sl vl U .none)(pl:IsPart vl lo)(p:IsPart U hi)
  (hw:¬(e8 items.size 0 lo=0/\e8 items.size items.size hi=items.size))
  (h:Q (.ref s.heap.objs.size) {s with heap:=s.heap.push {cls:=.type "tuple",data:=.seq ((items.toList.drop<|e8 items.size 0 lo).take<|e8 items.size items.size hi-e8 items.size 0 lo).toArray}})
  (hsz:items.size<=sizeLine):wpAny (model prog w) A (getItem (.ref t)<|.ref sl) Q E s:=by
 have Y:sizeOk (.seq ((items.toList.drop<|e8 items.size 0 lo).take<|e8 items.size items.size hi-e8 items.size 0 lo).toArray):=by
  show((items.toList.drop<|e8 items.size 0 lo).take<|e8 items.size items.size hi-e8 items.size 0 lo).toArray.size<=sizeLine;rw[zH,jV,qH,wA];lia
 have j:e8 items.size items.size hi<=items.size:=Ol _ _ (yM _) hi;let(O,Z,S,y):=id hs;have H:s.TypeIs (.ref sl) "slice":={O,Z,S}
 unfold getItem
 try with_reducible refine xX ?_
 first|refine zV (zW ?_)|skip
 refine zV<|wpAny_sequenceKey ht.typeIs (by decide) ?_;refine zV (qC (name:=Str.ofString "__getitem__") ht.typeIs jE
  (qU jE ht.typeIs entry_tuple_getitem ?_<|args_tuple_getitem _ _))
 show wpAny _ _ (Builtin.Tuple.tupleItemsOf (.ref t) >>= _) _ _ s;refine zV<|tupleItemsOf_ ht ?_;refine zV<|wI H ?_;rw[yL<|by decide];refine zV<|iG hs pl p ?_;have o:¬((((e8 items.size 0 lo:Nat):Int)==0&&(1:Int)==1&&(e8 items.size items.size hi-e8 items.size 0 lo)==items.size)=true):=by
  intro q;rw[zF,zF]at q;have a:((e8 items.size 0 lo:Nat):Int)=0:=eq_of_beq q.1.1;have q2:e8 items.size items.size hi-e8 items.size 0 lo=items.size:=eq_of_beq q.2;exact hw {by lia,by lia}
 show wpAny _ _ (if(((e8 items.size 0 lo:Nat):Int)==0&&(1:Int)==1&&(e8 items.size items.size hi-e8 items.size 0 lo)==items.size)=true then _ else _) _ _ s;rw[yN o,HD]
 first
  |exact zV (m:=Builtin.Tuple.tupleExact _) (qL (zW {_,rfl,zW h}) Y)
  |exact zV (m:=Builtin.Tuple.tupleExact _) (qL (zV<|zW<|zW {_,rfl,zW h}) Y)
  |exact zV (zV (m:=Builtin.Tuple.tupleExact _)<|qL (zW<|zW {_,rfl,zW h}) Y)
  |exact zV<|zV (m:=Builtin.Tuple.tupleExact _)<|qL (zW {_,rfl,zW h}) Y
end HT
namespace L2
open PySem PySem.Spec PyProof.Rows
abbrev TO:=St->Hp->(Δ Int->Hp->Prop)->Prop
def PO(X:Cx)(e:Δ γ)(t:TO):Prop:=
 ∀(p:Γ (Ψ×Obj))(s:Ξ)(a:St)(H:Hp)(Q:Δ Int->Hp->Prop),Inv X p a H s->t a H Q ->
  wpAny (model X.prog X.w) X.A (evalPart e X.env) (λu S=>∃o b,Inv X p a b S/\IsPart u o/\Q o b) X.xe s
def LW:TO:=λ_ H Q=>Q none H
def QO(t:TE):TO:=λb H Q=>t b H λx a=>∃i,x=.int i/\Q (↑i) a
def intsAre_of:∀{us:Γ Θ},aG (ns.map V.int) us->IntsAre us ns:=by
 induction ns with
 |nil=>intro us r;cases r;exact .nil
 |cons n ns i =>
  intro us r;cases r with
  |cons r1 R =>
   let(t,e):=r1;subst e;exact .cons n t<|i R
section
variable {lo hi:Δ γ}
def Kx:PO X none LW:=by
 exactλp s a H Q I h=>zW {none,H,I,.none,h}
def Lb(h:PE X e te):PO X (↑e) (QO te):=by
 refineλp s d H Q I hw=>b0 (h p s d H _ I hw) λu S z=>?_;let(x,a,b,r1,c):=z;let(i,rfl,q):=c;let(t,rfl):=r1;exact{↑i,a,b,.int i t,q}
def MQ(X:Cx)(r:V->Δ Int->Δ Int->Hp->VK->Prop):Prop:=
 ∀(p:Γ (Ψ×Obj))(s:Ξ)(a:St)(H:Hp)(x:V)(v vl u:Θ)(l i:Δ Int)(S:Ψ)(Q:VK),Inv X p a H s->RelV x v->s.heap.IsSliceOf S vl u .none->IsPart vl l->IsPart u i->r x l i H Q ->
  ∃T id,typeLookup (.type T) "__getitem__"=pure (↑(.builtin id))/\s.TypeIs v T/\wpAny (model X.prog X.w) X.A (getItem v<|.ref S) (EP X p a Q) X.xe s
def MQ.or(h:MQ X r)(h':MQ X r'):MQ X (λx lo hi H Q=>r x lo hi H Q\/r' x lo hi H Q):=by
 intro p s a H x v vl U lo hi L Q I R S l u q;rcases q with q|q
 .exact h p s a H x v vl U lo hi L Q I R S l u q
 .exact h' p s a H x v vl U lo hi L Q I R S l u q
def Vm(r:V->Δ Int->Δ Int->Hp->VK->Prop)(te:TE)(T t:TO):TE:=λa H Q=>te a H λx b=>T a b λl c=>t a c λu d=>r x l u d Q
def Hr(R:MQ X r)(E:PE X e te)(L:PO X lo tl)(U:PO X hi th):PE X (.Subscript e (.Slice lo hi none p2) pos) (Vm r te tl th):=by
 refineλp s a H Q I h=>Subscript_<|b0 (E p s a H _ I h) λv S ⟨x,c,i,r1,q⟩=>(wpAny_Slice<|b0 (L p S a c _ i q) λvl n ⟨l,d,g,P,q2⟩=>b0 (U p n a d _ g q2) λw o z=>?_);let(u,f,j,k,m):=z;apply zW;let(T,id,t,ht,G):=R p _ a f x v vl w l u o.heap.objs.size Q (j.kept λb ob=>zU _) r1 (.new ..) P k m;exact tail_any ht t G (by rfl)
def NR(xs:Γ V)(lo hi:Δ Int):Γ V:=(xs.drop<|HT.e8 xs.length 0 lo).take<|HT.e8 xs.length xs.length hi-HT.e8 xs.length 0 lo
def yx(xs:Γ V)(lo hi:Δ Int):(NR xs lo hi).length<=xs.length:=by
 unfold NR;rw[jV,qH];lia
def T4(K:Φ):V->Δ Int->Δ Int->Hp->VK->Prop:=λx l i H Q=>∃a s,x=.ref a/\gm K H a s /\
 ¬(HT.e8 s.length 0 l=0/\HT.e8 s.length s.length i=s.length)/\∀p,H p=none->Q (.ref p) (upd H p<|.tup<|NR s l i)
def N8:MQ X (T4 X.K):=by
 intro p s e H x v vl U l i L Q I R c P u h;let(a,S,rfl,d,hw,q):=h;cases R;let(E,r,ht,z):=I.tuple d;have n:E.toArray.size=S.length:=by exact r.length.symm
 refine{"tuple",_,PyProof.Rows.slot_tuple_getitem.lookup,ht.typeIs,(HT.mS ht c P u (by grind) ?_ (by rw[n];exact z))};rw[n];refine{.ref s.heap.objs.size,_,I.laid (λb ob=>zU _) (yM _) ?_,rfl,q _<|I.VH.fresh<|yM _};exact{yD (yx S l i) z,_,(r.drop _).take _,.new _ _}
def QQ(K:Φ):R2:=λx y H Q=>∃a b X s,x=.ref a/\y=.ref b/\gm K H a X/\gm K H b s/\X≠[]/\X.length+s.length<=sizeLine /\
 (s=[]->Q (.ref a) H)/\(s≠[]->∀p,H p=none->Q (.ref p) (upd H p<|.tup<|X++s))
def aG.W5(r:aG xs us):us=[]↔xs=[]:=by
 cases r with
 |nil=>simp
 |cons _ _=>simp
def Kl:il X (binaryOp .Add) (QQ X.K):=by
 intro p s e H x y v u Q I R Y h;let(a,b,S,d,rfl,rfl,A,B,c,Z,q,q2):=h;cases R;cases Y;let(E,r1,P,_):=I.tuple A;let(W,r,p2,_):=I.tuple B;refine HT.Lc P p2 (λz=>c<|r1.W5.mp z) (λz=>{.ref a,H,I,rfl,q<|r.W5.mp z}) (λz=>({.ref s.heap.objs.size,_,I.laid (λb ob=>zU _) (yM _) ?_,rfl,q2 (λw=>z<|r.W5.mpr w) _<|I.VH.fresh<|yM _})) (by rw[<-r1.length,<-r.length];lia);exact{by rw[zN];exact Z,_,r1.append r,.new _ _}
end
def Fy(n:Nat)(i:Int):Δ Nat:=if 0<=i then(if i<n then↑i.toNat else none)else if -(n:Int)<=i then↑(i+n).toNat else none
def tw(xs:Γ α)(i:Int):Δ α:=(Fy xs.length i).bind λj=>xs[j]?
def CN(h:Fy n i=↑j):seqIndex? i n=↑j/\j<n/\-(n:Int)<=i/\i<n:=by
 unfold Fy at h;by_cases a:0<=i
 .rw[yL a]at h;by_cases H:i<n
  .rw[yL H]at h;have e:i.toNat=j:=xD h;exact{by rw[seqIndex_of a H,e],by lia,by lia,H}
  .rw[yN H]at h;cases h
 .rw[yN a]at h;by_cases H:-(n:Int)<=i
  .rw[yL H]at h;have e:(i+n).toNat=j:=xD h;exact{by rw[seqIndex_neg (by lia) H,e],by lia,H,by lia}
  .rw[yN H]at h;cases h
def u6(h:tw xs i=↑v):∃j,seqIndex? i xs.length=↑j/\xs[j]?=↑v/\j<xs.length/\-(xs.length:Int)<=i/\i<xs.length:=by
 unfold tw at h;cases e:Fy xs.length i with
 |none=>rw[e]at h;cases h
 |some j =>
  rw[e]at h;let(H,a,b,c):=CN e;exact⟨j,H,h,a,b,c⟩
def xj{α:Type}{xs:Γ α}{j:Nat}{v:α}(h:xs[j]?=↑v):tw xs (j:Int)=↑v:=by
 have H:j<xs.length:=(List.getElem?_eq_some_iff.mp h).1;have e:Fy xs.length (j:Int)=↑j:=by
  unfold Fy;rw[yL<|by lia,yL<|by lia];simp
 unfold tw;rw[e];exact h
def mY(b:γ):Prop:=∀o i,subscripted b false o i=operate [o,i] (getItem o i)
def Jr(X:Cx)(r:R2):Prop:=
 ∀(E e:γ)(p:Γ (Ψ×Obj))(s:Ξ)(a:St)(H:Hp)(x y:V)(v u:Θ)(Q:VK),Inv X p a H s->RelV x v->RelV y u->r x y H Q ->
  subscripted e false v u=operate [v,u] (getItem v u)->wpAny (model X.prog X.w) X.A (subscriptTail E e v u) (EP X p a Q) X.xe s
def Uo(X:Cx)(id:String)(r:V->Γ V->Hp->VK->Prop):Prop:=
 ∀(p:Γ (Ψ×Obj))(s:Ξ)(a:St)(H:Hp)(x:V)(S:Γ V)(v:Θ)(u:Γ Θ)(Q:VK),Inv X p a H s->RelV x v->aG S u->r x S H Q ->
  wpAny (model X.prog X.w) X.A (call (.builtin id) (v::u)) (EP X p a Q) X.xe s
section
def Jr.or(h:Jr X r)(h':Jr X U):Jr X (λx y H Q=>r x y H Q\/U x y H Q):=by
 intro E e p s a H x y v u Q I R Y q S;rcases q with q|q
 .exact h E e p s a H x y v u Q I R Y q S
 .exact h' E e p s a H x y v u Q I R Y q S
def G1(R:Jr X r)(A:PE X a ta)(B:PE X b tb)(hs:mY b):PE X (.Subscript a b pos) (NO r ta tb):=by
 exactλp s e H Q I h=>Subscript_<|Pq A B I h λv u S x y c i d Y q=>R a b p S e c x y v u Q i d Y q<|hs _ _
def Rq(K:Φ):R2:=λx y H Q=>∃p s i v,x=.ref p/\y=.int i/\iw K H p s/\tw s i=↑v/\Q v H
def Qj(K:Φ):R2:=λx y H Q=>∃p s i v,x=.ref p/\y=.int i/\gm K H p s/\tw s i=↑v/\Q v H
def Qp:R2:=λx y H Q=>∃z i c,x=.str z/\y=.int i/\z.length<=sizeLine/\tw z.cps.toList i=↑c/\Q (.str {#[c]}) H
def Kz:Jr X (Rq X.K):=by
 intro E e P s c H x y v u Q I o Y h S;let(p,C,i,z,rfl,rfl,n,m,q):=h;cases o;let(t,rfl):=Y;let(d,r,l,Z):=I.list n;let(j,a,f,B,g,k):=u6 m;let(w,W,R):=r.get f;have L:=r.length;have N:=oh;have fin:EP X P c Q w s:={z,H,I,R,q}
 by_cases b:0<=i
 .have J:i.toNat=j:=by
   rw[seqIndex_of b k]at a;exact xD a
  exact item_listR l.isList b (by lia) (by rw[J];simpa using W) fin S
 .have J:(i+(d.toArray.size:Int)).toNat=j:=by
   rw[seqIndex_neg (by lia) g]at a;rw[zH,<-L];exact xD a
  exact subscriptTail_builtinR (x:=w) l.isList.typeIs slot_list_getitem.lookup
   (wpAny_getItem_list_neg (Q:=λr A=>r=w/\EP X P c Q r A) l.isList (by lia) (by rw[zH]<;>lia) (by lia) (by rw[J];simpa using W) {rfl,fin}) S
def se:Jr X (Qj X.K):=by
 intro E e P s a H x y v u Q I g Y h S;let(p,B,i,z,rfl,rfl,f,d,q):=h;cases g;let(t,rfl):=Y;let(m,r,l,Z):=I.tuple f;let(j,b,c,n,o,A):=u6 d;let(w,W,R):=r.get c;have L:=r.length;have N:=oh;have fin:EP X P a Q w s:={z,H,I,R,q}
 exact subscriptTail_builtinR (x:=w) l.typeIs slot_tuple_getitem.lookup
  (getItem_tuple (j:=j) (Q:=λr k=>r=w/\EP X P a Q r k) l (by lia) (by lia) (by rw[zH,<-L];exact b) (by simpa using W) {rfl,fin}) S
def Ox:Jr X Qp:=by
 intro E e p s m H x y v u Q I r R h S;let(z,i,c,rfl,rfl,Z,a,q):=h;let(t,rfl):=r;let(T,rfl):=R;let(j,b,d,f,g,k):=u6 a;have l:z.cps.toList.length=z.length:=by rfl
 have n:=oh;exact tail_any (typeIs_str s z t) slot_str_getitem.lookup (getItem_str (by
  grind) (by grind) {.str _,H,I.tok _,{_,rfl},q}) S
def UD(K:Φ):R2:=λx y H Q=>Rq K x y H Q\/Qj K x y H Q\/Qp x y H Q
def BV:Jr X (UD X.K):=Kz.or<|se.or Ox
def Bl(E:Γ Θ)(n j:Nat)(u:Θ):Obj.mapSeq (·.setIfInBounds j u) {cls:=.type "list",data:=.seq E.toArray n}={cls:=.type "list",data:=.seq (E.set j u).toArray n}:=by
 simp[Obj.mapSeq]
def Inv.lst(I:Inv X pins σ H s)(h:H p=↑(.lst xs)) :
  ∃ (E:Γ Θ) (n:Nat),aG xs E/\s.heap.get? p=some {cls:=.type "list",data:=.seq E.toArray n}/\xs.length<=sizeLine:=by
 let(z,E,n,r,e):=I.VH p _ h;exact{E,n,r,e,z}
def Inv.ab1{ys:Γ V}{E its':Γ Θ}{n N:Nat}{f:Obj->Obj}(I:Inv X pins σ H s)(h:H p=↑(.lst xs))
  (o:s.heap.get? p=some {cls:=.type "list",data:=.seq E.toArray n})(F:f {cls:=.type "list",data:=.seq E.toArray n}={cls:=.type "list",data:=.seq its'.toArray N})(r:aG ys its')(z:ys.length<=sizeLine)(t:Nat) :
  Inv X pins σ (upd H p<|.lst ys) {s with heap:=s.heap.update p f,toks:=t}:=by
 have e:(s.heap.update p f).get? p=some {cls:=.type "list",data:=.seq its'.toArray N}:=by
  rw[Heap.get?_update_self f o (by rw[F]<;>rfl),F]
 refine I.write (x:=p) (e:=p) (by rw[h];trivial) (.inl rfl) (λb u B q=>(xN _ _<|jM B).trans q) {_,e} ?_;exact{z,its',N,r,e}
def Qw:V->V->V->Hp->(Hp->Prop)->Prop:=λo i v H Q=>∃p x k j,o=.ref p/\i=.int k/\H p=↑(.lst x)/\Fy x.length k=↑j/\Q (upd H p<|.lst<|x.set j v)
def set_list:Ry X Qw:=by
 intro P s w H o i v B A u Q I g R m h;let(p,x,k,j,rfl,rfl,f,J,q):=h;cases g;let(t,rfl):=R;let(E,n,r,O,z):=I.lst f;let(a,y,d,e):=CN J;have l:=r.length;have N:=oh;have b:Inv X P w (upd H p<|.lst<|x.set j v) {s with heap:=s.heap.update p (Obj.mapSeq (·.setIfInBounds j u))}:=
  I.ab1 f O (Bl E n j u) (r.set m j) (by rw[yC];exact z) s.toks
 by_cases c:0<=k
 .have hk:k.toNat=j:=by
   rw[seqIndex_of c e]at a;exact xD a
  exact W.ki_setAt O c (by lia) (by rw[zH,<-l];exact e) (by rw[hk];exact{_,b,q})
 .have hk:(k+(E.toArray.size:Int)).toNat=j:=by
   rw[seqIndex_neg (by lia) d]at a;rw[zH,<-l];exact xD a
  exact W.ki_setBack O (by lia) (by rw[zH,<-l];exact d) (by lia) (by rw[hk];exact{_,b,q})
def mL:gP X (.builtin "len") (λxs H Q=>∃p ys,xs=[.ref p]/\(iw X.K H p ys\/gm X.K H p ys)/\Q (.int ys.length) H):=by
 intro P s b H xs U Q I r h;let(p,ys,rfl,a,q):=h;let(u,rfl,x):=vals1 r;cases x;have N:=oh;rcases a with a|a
 .let(E,R,l,z):=I.list a;have n:=R.length;exact Calls.call_len_list l.isList (by simp?[zH]<;>lia) {.int ys.length,H,I.tok _,{s.toks+1,by rw[zH,n]},q}
 .let(E,R,l,z):=I.tuple a;have n:=R.length;exact len_tuple l (by simp?[zH]<;>lia) {.int ys.length,H,I.tok _,{s.toks+1,by rw[zH,n]},q}
def tP:gP X (.type "tuple") (λxs H Q=>∃p ys,xs=[.ref p]/\((iw X.K H p ys/\∀l,H l=none->Q (.ref l) (upd H l<|.tup ys))\/(gm X.K H p ys/\Q (.ref p) H))):=by
 intro P s d H xs U Q I r h;let(p,ys,rfl,h):=h;let(u,rfl,x):=vals1 r;cases x;rcases h with ⟨c,q⟩|⟨c,q⟩
 .let(E,R,L,z):=I.list c;have n:=R.length;refine call_tuple_list L.isList (λa k=>?_) (by grind);have i:Inv X P d H {s with heap:=a}:=I.kept k;exact{.ref a.objs.size,_,(i.laid (λb o=>zU _) (yM _) ({z,E,R,.new _ _}):Inv X P d (upd H a.objs.size<|.tup ys) _),rfl,q _<|i.VH.fresh<|yM _}
 .let(E,R,L,z):=I.tuple c;exact call_tuple_same L {.ref p,H,I,rfl,q}
def Uc(K:Φ)(T:String)(x:V)(H:Hp):Prop:=match x with
 |.str _=>T="str"
 |.int _=>T="int"
 |.ref p=>(T="list"/\∃s,iw K H p s)\/(T="tuple"/\∃s,gm K H p s) \/
   (T="dict"/\((∃v,H p=↑(.dK v))\/∃v,H p=↑(.dT v)))\/(T="set"/\∃S n,H p=↑(.set S n))
 |_=>False
def GF(I:Inv X pins σ H s)(r:RelV x v)(y:Uc X.K T x H) :
  s.TypeIs v T/\∀a,v=.ref a->∃ob,s.heap.get? a=↑ob/\ob.dict=none:=by
 cases x with
 |str z =>
  let(t,rfl):=r;cases(show T="str"from y);exact{typeIs_str s z t,λ_ e=>nomatch e}
 |int i =>
  let(t,rfl):=r;cases(show T="int"from y);exact{typeIs_int s i t,λ_ e=>nomatch e}
 |ref p =>
  cases r;rcases y with ⟨rfl,u,q⟩|⟨rfl,u,q⟩|⟨rfl,hk⟩|⟨rfl,S,n,hk⟩
  .let(g,_,l,_):=I.list q;refine{l.isList.typeIs,λa e=>?_};cases e;let(o,n,e,c,d,_):=l;exact{o,e,d}
  .rcases q with q|⟨o,g,n,hk,hc,d,_⟩
   .let(_,_,_,(o,j,b,_),o2,k,m):=q.ok I.VH;exact{⟨o,j,b⟩,λa e=>by cases e;exact{o2,k,m}}
   .exact{{o,I.WX p o hk,hc},λa e=>by cases e;exact{o,I.WX _ o hk,d}}
  .have z:∃o,s.heap.get? p=↑o/\o.ExactDict:=by
    rcases hk with ⟨f,hk⟩|⟨f,hk⟩
    .let(_,_,_,_,o,_,_,e,E,_):=I.VH p _ hk;exact{o,e,E}
    .let(_,_,o,_,_,e,E,_):=I.VH p _ hk;exact{o,e,E}
   let(o,e,E):=z;refine{{o,e,E.1},λa b=>?_};cases b;exact{o,e,E.2.1}
  .let(o,_,_,_,e,E,_):=I.VH p _ hk;refine{{o,e,E.1},λa b=>?_};cases b;exact{o,e,E.2.1}
 |_=>exact False.elim y
def RI(K:Φ)(T:String)(r:V->Γ V->Hp->VK->Prop)(t:TE):TE:=λb H Q=>t b H λx a=>Uc K T x a/\r x [] a Q
def Uw(K:Φ)(T:String)(r:V->Γ V->Hp->VK->Prop)(o:TE)(t:TA):TE:=λb H Q=>o b H λx a=>Uc K T x a/\t b a λs c=>r x s c Q
variable {T id:String}
def Gz(pa:PlainAttrs T)(t:Slot T name id)(y:typeOf (.builtin id)=pure (.type "method_descriptor"))(m:Uo X id r)(O:PE X o to)
  (W:attributeBase o name X.env (eval o X.env)=eval o X.env:=by rfl)(c:(apos.endLine==cpos.line)=true:=by rfl):PE X (.Call (.Attribute o name apos) [] [] cpos) (RI X.K T r to):=by
 refineλp s a H Q I h=>wpAny_Call_method0_late W c<|b0 (O p s a H _ I h) λv S z=>?_;let(x,b,i,r1,Y,q):=z;let(d,e):=GF i r1 Y;exact{T,id,pa,t,y,d,e,Calls.callWith_builtin rfl (PySem.evalArgs_none<|m p S a b x [] v [] Q i r1 .nil q)}
def ni(pa:PlainAttrs T)(S:Slot T name id)(y:typeOf (.builtin id)=pure (.type "method_descriptor"))(m:Uo X id r)(O:PE X o to)(l:PA X (e::es) t)
  (W:attributeBase o name X.env (eval o X.env)=eval o X.env:=by rfl)
  (w:((backTo cpos<|starEach (e::es) X.env).all (λx=>!x.1)&&(backToKw cpos<|keywordEach [] X.env).all (λx=>x.1.isSome)
   &&decide ((e::es).length+([]:Γ Keyword).length+(if([]:Γ Keyword).isEmpty then 0 else 1)<30))=true:=by rfl)
  (g:(apos.endLine==cpos.line)=true:=by rfl)(hs:starEach (e::es) X.env=(false,eval e X.env)::starEach es X.env:=by rfl)(a:(backTo cpos<|starEach es X.env).any (·.1)=false:=by rfl) :
  PE X (.Call (.Attribute o name apos) (e::es) [] cpos) (Uw X.K T r to t):=by
 intro p s b H Q I h;refine wpAny_Call_method_late W w g rfl (b0 (O p s b H _ I h) λv n ⟨x,c,i,r1,Y,q⟩=>?_);let(j,k):=GF i r1 Y;refine{T,id,pa,S,y,j,k,?_};have A:=l cpos p n b c _ i q;rw[hs]at A ⊢;refine Calls.callWith_builtin (by show(false||(backTo cpos<|starEach es X.env).any (·.1))=false;rw[a]<;>rfl)<|Calls.evalArgs_plain ?_;exact b0 A λU u ⟨z,d,f,R,q2⟩=>m p u b d x z v U Q f r1 R q2
/- xs.append(e),list.index on a adb tuple .. are Uo facts of 06m -/
end
def Mt(X:Cx)(id:String)(r:V->Γ V->Hp->VK->Prop):Prop:=
 ∀(p:Γ (Ψ×Obj))(s:Ξ)(a:St)(H:Hp)(x:V)(S:Γ V)(v:Θ)(u:Γ Θ)(Q:VK),Inv X p a H s->RelV x v->aG S u->r x S H Q ->
  wpAny (model X.prog X.w) X.A (call (.builtin id) (v::u)) (EP X p a Q) X.xe s
def aG.one(h:aG [x] us):∃u,us=[u]/\RelV x u:=by
 cases h with|cons r t=>cases t;exact{_,rfl,r}
def aG.two(h:aG [x,y] us):∃u v,us=[u,v]/\RelV x u/\RelV y v:=by
 cases h with|cons r t=>let(v,rfl,q):=aG.one t;exact{_,_,rfl,r,q}
def aG.zero:∀{us:Γ Θ},aG [] us->us=[]
 |_,.nil=>rfl
def aG.dropLast(h:aG xs us):aG xs.dropLast us.dropLast:=by
 induction h with
 |nil=>exact .nil
 |cons r t i =>
  cases t with
  |nil=>exact .nil
  |cons q T=>exact .cons r i
def aG.rep(h:aG xs us):∀k ,aG (List.replicate k xs).flatten (List.replicate k us).flatten
 |0=>.nil
 |k+1=>by
  exact aG.append h<|.rep h k
def Bj(l:Γ α):l.eraseIdx (l.length-1)=l.dropLast:=by
 simp
def foldl_rep(E:Γ Θ):∀(k:Nat)(acc:Γ Θ),
  List.foldl (λx1 x=>x1++x) acc.toArray (List.replicate k E.toArray)=(acc++(List.replicate k E).flatten).toArray
 |0,acc=>by simp
 |k+1,acc=>by
  have e:acc.toArray++E.toArray=(acc++E).toArray:=by simp
  have a:(acc++E)++(List.replicate k E).flatten=acc++(List.replicate (k+1) E).flatten:=by
   rw[xE,List.flatten_cons,List.append_assoc]
  rw[<-a,<-foldl_rep E k<|acc++E,<-e,xE,yI]
section
variable {xs ys zs:Γ V}
def Inv.aaS{E its':Γ Θ}{n:Nat}{f:Array Θ->Array Θ}{t':Nat}(I:Inv X pins σ H s)(a:H l=↑(.lst xs))
  (e:s.heap.get? l=some {cls:=.type "list",data:=.seq E.toArray n})(F:f E.toArray=its'.toArray)(v:aG ys its')(z:ys.length<=sizeLine) :
  Inv X pins σ (upd H l<|.lst ys) {s with heap:=s.heap.update l<|Obj.mapSeq f,toks:=t'}:=by
 have q:=PySem.IsL.update e f;rw[F]at q;apply I.write (by rw[a];exact trivial) (.inl rfl) (λB u b=>(xN s.heap _<|jM b).trans) {_,q};exact{z,its',_,v,q}
def Inv.ab3{t':Nat}(I:Inv X pins σ H s)(v:aG ys VE)(z:ys.length<=sizeLine) :
  Inv X pins σ (upd H s.heap.objs.size<|.lst ys) {s with heap:=s.heap.push {cls:=.type "list",data:=.seq VE.toArray},toks:=t'}:=
 I.laid (λ_ _=>zU _) (yM _) {z,VE,0,v,zX _ rfl}
def Inv.fresh(I:Inv X pins σ H s):H s.heap.objs.size=none:=I.VH.fresh<|yM _
def Inv.ZR(I:Inv X pins σ H s)(a:H l=↑(.lst xs)):xs.length<=sizeLine/\∃ (E:Γ Θ) (n:Nat),aG xs E/\xs.length=E.length/\s.heap.get? l=some {cls:=.type "list",data:=.seq E.toArray n}:=by
 let(z,E,n,r,e):=I.VH l _ a;exact{z,E,n,r,r.length,e}
def Ii(h:n<=sizeLine):Builtin.List.listTooLong n=false:=by
 unfold Builtin.List.listTooLong
 grind
end
def K8:V->Γ V->Hp->VK->Prop:=λx v H Q=>∃l s y,x=.ref l/\v=[y]/\H l=↑(.lst s)/\s.length<sizeLine/\Q .VC (upd H l<|.lst<|s++[y])
def oE:Mt X "list.append" K8:=by
 intro p s f H x S v U Q I c b h;let(l,d,y,rfl,rfl,a,Z,q):=h;cases c;let(u,rfl,R):=b.one;let(z,E,n,r,L,e):=I.ZR a;refine qV F.slot_list_append {_,e,rfl} F.entry_list_append (F.args_list_append_2 _ _) (PySem.list_append l E.toArray n u<|by grind) {e,({.VC,_,I.aaS a e (by simp) (r.append<|.cons R .nil) ?_,rfl,q})}
 grind
def Mw:V->Γ V->Hp->VK->Prop:=λx v H Q=>∃l b s zs,x=.ref l/\v=[.ref b]/\H l=↑(.lst s)/\H b=↑(.lst zs)/\s.length+zs.length<=sizeLine/\Q .VC (upd H l<|.lst<|s++zs)
def Ez:Mt X "list.extend" Mw:=by
 intro p s o H x k v S Q I i g h;let(l,b,m,zs,rfl,rfl,c,B,j,q):=h;cases i;let(u,rfl,U):=g.one;cases U;let(z,E,n,r,L,e):=I.ZR c;let(z2,W,N,R,f,d):=I.ZR B;have Z:E.toArray.size+W.toArray.size<=sizeLine:=by rw[zH,zH];lia
 have a:¬(!E.toArray.isEmpty&&Builtin.List.listTooLong (E.toArray.size+W.toArray.size))=true:=by
  rw[Ii Z,kX];exact yZ
 refine qV F.slot_list_extend {_,e,rfl} F.entry_list_extend (F.args_list_extend_2 _ _)
  (AutoSeq1.list_extend_list_list_0 l E.toArray n b W.toArray N a (by rw[zH];lia)<|by lia) {e,d,?_}
 refine{.VC,_,I.aaS (its':=E++W) c e (by simp) (r.append R) ?_,rfl,q};rw[zN];lia
def TH:V->Γ V->Hp->VK->Prop:=λx v H Q=>∃l s y,x=.ref l/\v=[]/\H l=↑(.lst s)/\s[s.length-1]?=↑y/\Q y (upd H l<|.lst s.dropLast)
def GW:Mt X "list.pop" TH:=by
 intro p s j H x g v f Q I d c h;let(l,i,y,rfl,rfl,a,b,q):=h;cases d;have S:=c.zero;subst S;let(z,E,n,r,L,e):=I.ZR a;let(u,U,R):=r.get b;have Y:E.toArray[E.toArray.size-1]?=↑u:=by
  show E.toArray[E.length-1]?=↑u;rw[<-Array.getElem?_toList,<-L];exact U
 refine qV F.slot_list_pop {_,e,rfl} F.entry_list_pop (F.args_list_pop_1 _) (MeetsSeq.list_pop_last l E.toArray n u Y (by rw[zH];lia)) {e,?_};refine{y,_,I.aaS (its':=E.dropLast) a e ?_ r.dropLast ?_,R,q}
 .show E.toArray.eraseIdxIfInBounds (E.toArray.size-1)=E.dropLast.toArray;rw[zH,List.eraseIdxIfInBounds_toArray,Bj]
 .rw[List.length_dropLast];lia
def len_rep(xs:Γ α)(k:Nat):(List.replicate k xs).flatten.length=k*xs.length:=by
 simp
end L2
namespace Att
open PySem PySem.W PySem.Calls PyProof.Rows
variable {n:Nat}
def W0:∀ns vs,WellAll P h vs (ns.map WData.int)->IntsAre vs ns:=by
 intro ns
 induction ns with
 |nil =>
  intro vs w;cases w;exact .nil
 |cons n ns i =>
  intro vs w;cases w with
  |cons a b =>
   cases a;exact .cons _ _<|i _ b
def Zm{l:OpenLaw}(N:l.most=↑n){P:Params}{h:ι}{args:Γ WData}{v:Γ Θ}
  (T:l.row.toRowW.claim.pre args=true)(L:WellAll P h v args) :
  ∃a vs ns,v=[Value.ref a]/\args=[WData.list<|ns.map WData.int]/\h.get? a=some {cls:=.type "list",data:=.seq vs.toArray}/\IntsAre vs ns/\ns.length<=n:=by
 have hc:l.pre.holds [] _=true:=(pre_splitW T).2;let(d,r,rfl,c,e):=hasAllW_cons<|(pre_splitW T).1;obtain rfl:=hasAllW_nil e;let(x,rfl,f):=hasW_list c;let(ns,rfl):=items_int f;have H:ns.length<=n:=by
  have b:(WTm.not<|.lt (.lit<|.int n)<|.len<|.arg 0).holds [] {args:=[.list<|ns.map .int]}=true:=by
   have b:=(holds_andW hc).1
   grind
  have i:=condW_of b<|w_not<|w_lt w_lit<|w_len_list<|w_arg rfl
  grind
 cases L with
 |cons w g =>
  cases g;cases w with
  |list o W=>exact{_,_,ns,rfl,rfl,o,W0 ns _ W,H}
def Zn(l:OpenLaw)(args:Γ WData):l.row.toRowW.claim.post args (.bool true) args=true:=
 postW_of
  (by rfl)
  (w_eq_bool (w_res rfl) w_lit) rfl
def Ye{l:OpenLaw}{q:ε}{e:Γ Str}{XP:(Str->Δ Θ)->ι->Prop}{YP:δ->ι->Prop}{d:DefRec}
  (N:l.most=↑n)(F:d.params.defaults=[])
  (C:∀w Q J m b fa o p D c a vs ns,
   Ground q e [] XP w Q m b J.heap->YP w J.heap ->
   J.heap.get? fa=↑o->o.data=.func (docDef d.name d.params d.body d.scope p D c)->J.heap.CodeRec D d.name->m d.name=↑(.ref fa) ->
   J.heap.get? a=some {cls:=.type "list",data:=.seq vs.toArray}->IntsAre vs ns->ns.length<=n->J.gens=#[] ->
   codeAny (model l.prog w) callerA (.call (.ref fa) {[.ref a],[]}) (λr s'=>r=.ok (.ret<|.bool true)/\OldK J.heap s'.heap/\s'.os=J.os/\AllBare s'.gens) J) :
  WalkO q e XP YP l.row.toRowW d [] (λf vs=>PySem.call f vs):=by
 intro w Q J m b G Y fa o p D c j kV z x R i g y S v I T X E L O;obtain rfl:j=.none:=Dflts.none i F;obtain rfl:kV=.none:=Dflts.noKw i;let(a,vs,ns,rfl,rfl,A,s,H):=Zm N T L;refine enter_call<|jR (C w Q J m b fa o p D c a vs ns G Y z (fd_plain x) R g A s H y) λr s' B=>?_;let(rfl,k,t,u):=B;exact{.inl {.bool true,.bool true,[],rfl,λ_=>rfl,.bool true,Zn l _,λ_=>{.nil,nofun}},k,t,u}
section
variable {K:Frag}
end
end Att
namespace L2
open PySem PySem.Spec PyProof.Rows
variable {B:Prop}
def tU:∀{vs:Γ Θ}{ns:Γ Int},IntsAre vs ns->aG (ns.map V.int) vs
 |_,_,.nil=>.nil
 |_,_,.cons n t h=>.cons {t,rfl}<|tU h
abbrev tI:JH:=λ_ _ _ _ _ _=>False
abbrev E0:XK:=λ_ _ _=>False
def o8:cO tI X E0:=λ_ _ _ _ _ _ _ h=>h.elim
structure yg(K:W.Frag)(x qual:Str)(st:Stmt)(f:Addr)(fd:FuncData):Prop where
 ex:∃ (oc:Θ) (od:Δ Ψ) (kV doc pm:Θ) (an:Δ Ψ) (VY ct:Θ) (XJ:Array (Δ Θ)),
  fd=W.fnOf x qual (eE st) (aP st) (ah st) .none kV doc pm an VY ct/\K.lookup f=↑{oc,od,.func fd,XJ}/\W.codeIn K VY qual=true
 kp:W.keepIn K (.ref f)=true
section
variable {K:Φ}
def yg.binds{st:Ω}(F:yg K x qual st f fd)
  (h:∀kV d p a Y c us,us.length=ps.length->bindArgs (W.fnOf x qual (eE st) (aP st) (ah st) .none kV d p a Y c) {us,[]}=pure (ps.zip us)):Binds K fd ps []:=by
 let(o,O,kV,d,p,a,Y,c,X,rfl,l,R):=F.ex;exact .all<|h kV d p a Y c
def oI{st:Ω}{kV:Θ}(l:K.lookup f=↑{oc,od,.func<|W.fnOf x qual (eE st) (aP st) (ah st) .none kV doc pm an U ct,XJ})
  (c:W.codeIn K U qual=true)(k:W.keepIn K (.ref f)=true):yg K x qual st f (W.fnOf x qual (eE st) (aP st) (ah st) .none kV doc pm an U ct):={{oc,od,kV,doc,pm,an,U,ct,XJ,rfl,l,c},k}
end
def lJ{A B:Prop}(h:B):if false=true then A else B:=by
 rw[yN yZ];exact h
def mZ{A B:Prop}(h:A):if true=true then A else B:=by
 rw[yL rfl];exact h
def az(H H':Hp):Prop:=∀b o,H b=↑o->H' b=↑o
def az.refl(H:Hp):az H H:=λ_ _ h=>h
def az.trans(a:az H U)(b:az U H2):az H H2:=λc o h=>b c o<|a c o h
def az.free(e:az H H')(h:H' l=Option.none):H l=Option.none:=by
 cases q:H l with
 |none=>rfl
 |some o =>
  rw[e l o q]at h;lia
def az.seq{K:Φ}(e:az H H')(h:iw K H a xs):iw K H' a xs:=by
 rcases h with (h|⟨o,h⟩)|h
 .exact .inl<|.inl<|e _ _ h
 .exact .inl<|.inr {o,e _ _ h}
 .exact .inr h
def bX:∀s n acc,cellsFrom n s acc=cellsFrom n s []++acc
 |[],_,_=>rfl
 | (e,k)::r,n,acc=>by
  unfold cellsFrom;split
  .rw[bX r _ _,bX r _ [(e,n)]];simp
  .exact bX r n acc
def jl:∀{l m:Γ (Str×α)},(l++m).lookup x=↑c->l.lookup x=↑c\/(l.lookup x=none/\m.lookup x=↑c)
 |[],_,h=>.inr {rfl,h}
 | (k,v)::r,m,h=>by
  have i:=@jl α x c r m;rw[xF,yB]at h;rw[yB];cases e:x==k with
  |true=>rw[e]at h;exact .inl h
  |false=>rw[e]at h;exact i h
def pN:∀{l m:Γ (Str×α)},l.lookup x=↑c->(l++m).lookup x=↑c
 |[],_,h=>by grind
 | (k,v)::r,m,h=>by
  grind
def oo:∀{l m:Γ (Str×α)},l.lookup x=none->(l++m).lookup x=m.lookup x
 |[],_,_=>rfl
 | (k,v)::r,m,h=>by
  grind
def gK:∀s n x c,(x,c)∈cellsFrom n s []->(x,NameKind.cell)∈s
 |[],_,_,_,h=>by cases h
 | (e,k)::r,n,x,c,h=>by
  unfold cellsFrom at h;split at h
  .rw[bX]at h;rcases List.mem_append.mp h with h|h
   .exact zC _<|gK r _ x c h
   grind
  .exact zC _<|gK r n x c h
def fV(env:Env):Γ (Str×NameKind)->Γ (Str×Ψ)->Γ (Str×Ψ)
 |[],a=>a
 | (n,k)::r,a=>if k==.free then fV env r ((n,(env.cells.lookup n).getD 0)::a)else fV env r a
def lW(env:Env):∀s acc,(∀x∈s,x.2=.free->∃c,env.cells.lookup x.1=↑c) ->
  (forIn s acc λ(p:Str×NameKind)cs=>if p.2==.free then(do let a <- cellOf env p.1;pure<|.yield ((p.1,a)::cs))else pure (.yield cs))=pure (fV env s acc)
 |[],acc,_=>rfl
 | (n,k)::r,acc,h=>by
  rw[List.forIn_cons];have H:=λx X=>h x<|zC _ X;unfold fV;by_cases hk:k=.free
  .let(c,hc):=h _ zE hk;subst hk;have e:cellOf env n=pure c:=by
    rw[cellOf,hc]
   have W:=hc;simp?[beq_self_eq_true,xH,e,pure_bind,W,qG];exact lW env r _ H
  .simp?[(show(k==NameKind.free)=false by grind),yO,qN,pure_bind];exact lW env r _ H
def ma{env:Env}(h:∀x∈scope.names,x.2=.free->∃c,env.cells.lookup x.1=↑c):closureFor scope env=pure (fV env scope.names []):=by
 have:=lW env scope.names [] h;exact(bind_pure _).trans this
def lr{env:Env}:∀{s:Γ _}{acc:Γ _},(∀x∈s,x.2=.free->∃c,env.cells.lookup x.1=↑c)->(∀x c,(x,c)∈acc->env.cells.lookup x=↑c) ->
  ∀x c,(x,c)∈fV env s acc->env.cells.lookup x=↑c
 |[],acc,_,a,x,c,m=>a x c m
 | (n,k)::r,acc,h,a,x,c,m=>by
  unfold fV at m;have H:=λx X=>h x<|zC _ X;split at m
  .let(C,hc):=h _ zE (show k=.free by grind);refine lr H (λy d Y=>?_) x c m
   grind
  .exact lr H a x c m
def gn{env:Env}:∀{s:Γ (Str×NameKind)}{acc:Γ (Str×Ψ)}{x:Str},(s.lookup x=↑.free\/∃c,acc.lookup x=↑c)->∃c,(fV env s acc).lookup x=↑c
 |[],acc,x,h=>by
  rcases h with h|h
  .cases h
  .exact h
 | (n,k)::r,acc,x,h=>by
  unfold fV;split
  .apply gn;rcases h with h|⟨c,h⟩
   .rw[yB]at h;cases e:x==n with
    |true=>exact .inr {_,by rw[yB,e]}
    |false=>rw[e]at h;exact .inl h
   .refine .inr ?_;rw[yB];cases e:x==n with
    |true=>exact{_,rfl}
    |false=>exact⟨c,h⟩
  .rename_i hk;apply gn;rcases h with h|h
   .rw[yB]at h;cases e:x==n with
    |true =>
     rw[e]at h;cases h;exact absurd rfl hk
    |false=>rw[e]at h;exact .inl h
   .exact .inr h
def mT{env:Env}:∀{s:Γ (Str×NameKind)}{x:Str}{k:NameKind},s.lookup x=↑k ->
  (s.map λ(n,k)=>if(k==NameKind.free&&env.scope.kind==.function&&env.kindOf n==some .cell)then(n,NameKind.cell)else(n,k)).lookup x=↑(if(k==NameKind.free&&env.scope.kind==.function&&env.kindOf x==some .cell)then NameKind.cell else k)
 |[],_,_,h=>by cases h
 | (n,k)::r,x,K,h=>by
  have i:=@mT env r x K;rw[zI];dsimp only;cases H:x==n with
  |true =>
   have e:x=n:=by simpa using H
   subst e;rw[yB,H]at h;cases h;split<;>simp[yB, *]
  |false =>
   rw[yB,H]at h;have i:=i h;split
   .rw[yB,H];exact i
   .rw[yB,H];exact i
def ph{env:Env}:∀{s:Γ (Str×NameKind)}{x:Str},s.lookup x=none ->
  (s.map λ(n,k)=>if(k==NameKind.free&&env.scope.kind==.function&&env.kindOf n==some .cell)then(n,NameKind.cell)else(n,k)).lookup x=none
 |[],_,h=>rfl
 | (n,k)::r,x,h=>by
  have i:=@ph env r x;rw[zI];dsimp only;cases H:x==n with
  |true=>rw[yB,H]at h;cases h
  |false =>
   rw[yB,H]at h;split
   .rw[yB,H];exact i h
   .rw[yB,H];exact i h
def fJ(X:Cx)(scope:ζ)(C:Ψ):Env:=
 {scope:=relabel scope X.env,locals:=C,globals:=X.env.globals,cells:=cellsFrom (C+1) scope.names<|fV X.env scope.names [],qual:=X.env.qual,func:=none,code:=X.env.code,frame:=X.env.frame,builtins:=X.env.builtins}
def aW(X:Cx)(scope:ζ)(N:Γ Str)(fp:Γ Ψ)(s:Ξ)(H:Hp):Cx:=
 {X with N:=N,VQ:=s,VB:=H,env:=fJ X scope s.heap.objs.size,outer:=X.stack,ex:=fp,fn:=λx=>decide (scope.names.lookup x=↑.cell),pn:=[],xe:=λ_ _=>False}
def BC{M:Model}{A:ξ}{E:Θ->Ξ->Prop}{g:Ψ}{cl:Γ (Str×Ψ)}{q:Str}{env:Env}
  (H:∀h',h'.Ns s.heap.objs.size (λ_=>none)->(∀b o,s.heap.get? b=↑o->h'.get? b=↑o)->CellsOk h' (s.heap.objs.size+1) (cellsFrom (s.heap.objs.size+1) scope.names []) ->
   Q {scope:=scope,locals:=s.heap.objs.size,globals:=g,cells:=cellsFrom (s.heap.objs.size+1) scope.names cl,qual:=q,func:=none,code:=env.code,frame:=env.frame,builtins:=env.builtins} {s with heap:=h'}) :
  wpAny M A (newFunctionEnv scope g cl [] q none .none<|↑env) Q E s:=by
 refine zV<|wpAny_alloc<|zV<|wpAny_layCells _ (λn k c=>by rfl) _ _ _ _ ?_;have O:=cellsFrom_ok scope.names (s.heap.push {cls:=.type "dict",data:=.dict #[]}) (s.heap.objs.size+1) [] {nofun,.nil} (by simp);rw[xJ]at O;rw[xJ ..];exact zV<|zW<|zW<|H _ ((Heap.Ns.new s.heap _).keeps<|pushCells_keeps _ _) (λb o e=>pushCells_keeps _ _ b o<|zU _ e) O
section
variable {X:Cx}{pins:Γ (Ψ×Obj)}{σ σ':St}{H:Hp}{s:Ξ}{fp:Γ Ψ}{scope:ζ}{N:Γ Str}{h4:ι}
def ky(o:X.Ok)(W:∀x∈scope.names,x.2=.free->X.env.kindOf x.1=↑.cell\/X.env.kindOf x.1=↑.free):∀x∈scope.names,x.2=.free->∃c,X.env.cells.lookup x.1=↑c:=
 λx H hk=>o.has _<|W x H hk
def oA(h:scope.names.lookup x=↑k):(fJ X scope C).kindOf x=↑k\/(k=.free/\(fJ X scope C).kindOf x=↑.cell):=by
 have q:(fJ X scope C).kindOf x=↑_:=(mT (env:=X.env) h)
 rw[q];split
 .rename_i hc;have:k=.free:=by
   simp  at hc
   grind
  exact .inr {this,rfl}
 simp
def lO(h:(fJ X scope C).kindOf x=↑k):scope.names.lookup x=↑k\/(k=.cell/\scope.names.lookup x=↑.free):=by
 cases e:scope.names.lookup x with
 |none =>
  have q:(fJ X scope C).kindOf x=none:=ph (env:=X.env) e;rw[q]at h;cases h
 |some K =>
  rcases oA (X:=X) (C:=C) e with q|⟨q,Q⟩
  .rw[q]at h;cases h;exact .inl rfl
  .rw[Q]at h;cases h;subst q;exact .inr {rfl,rfl}
def F0(I:Inv X pins σ H s)(J:∀b∈fp,di X pins H b)(L:∀b∈fp,b<s.heap.objs.size)(hk:scope.kind=.function)
  (P:∀x∈scope.names,x.2=.free->X.env.kindOf x.1=↑.cell\/X.env.kindOf x.1=↑.free)
  (X2:h4.Ns s.heap.objs.size (λ_=>none))(A:∀b o,s.heap.get? b=↑o->h4.get? b=↑o)(Z:CellsOk h4 (s.heap.objs.size+1) (cellsFrom (s.heap.objs.size+1) scope.names []))
  (D:∀{x:Str},(x,NameKind.cell)∈scope.names->(x,NameKind.free)∈scope.names->False)(E:∀(i:Nat)(x:Str)(v:V),N[i]?=↑x->σ'[i]?=↑(↑v)->scope.names.lookup x=↑.free/\∃j:Nat,X.N[j]?=↑x/\σ[j]?=↑(↑v))(r:σ'.length=N.length)(t':Nat) :
  Inv (aW X scope N fp s H) [] σ' H {s with heap:=h4,toks:=t'}:=by
 have WY:=ky I.ok P;have g:∀x c,(fV X.env scope.names []).lookup x=↑c->X.env.cells.lookup x=↑c:=λx c e=>lr WY (λ_ _ z=>by cases z) x c<|mem_of_lookup e;have l:∀x c,(fJ X scope s.heap.objs.size).cells.lookup x=↑c->(x,c)∈cellsFrom (s.heap.objs.size+1) scope.names []\/X.env.cells.lookup x=↑c:=λx c e=>by
  have e:(cellsFrom (s.heap.objs.size+1) scope.names<|fV X.env scope.names []).lookup x=↑c:=e;rw[bX]at e;rcases jl e with q|⟨_,q⟩
  .exact .inl<|mem_of_lookup q
  .exact .inr<|g x c q
 have O:∀x c,X.env.cells.lookup x=↑c->c<s.heap.objs.size:=λx c e=>let ⟨_,q⟩:=I.cell x c e;q.lt;have w:∀x c,(x,c)∈cellsFrom (s.heap.objs.size+1) scope.names []->s.heap.objs.size<c:=λx c e=>(Z.empty x c e).2;refine⟨{I.ok.mod,?_,I.ok.glob,I.ok.blt,yM _,?_,?_,?_,I.ok.hd,I.ok.frames,.inl rfl,?_,I.bs,yD I.ok.ZE I.sz,?_,?_,I.stack,I.WK},rfl,I.bare,Un.kept A,{_,X2,?_},?_,I.VH.fresh<|yM _,?_,
  λp hp=>absurd (show p∈([]:Γ (Ψ×Obj))from hp)<|by simp,I.VH.kept A,r⟩
 .show (relabel scope X.env).kind=_;exact hk
 .intro x y c F G;rcases l x c F with a|a<;>rcases l y c G with b|b
  .exact name_of_addr Z.apart a b
  .exact absurd (wL (w x c a)<|O y c b)<|qE _
  .exact absurd (wL (w y c b)<|O x c a)<|qE _
  .exact I.ok.inj x y c a b
 .intro x t;show ∃c,(cellsFrom (s.heap.objs.size+1) scope.names<|fV X.env scope.names []).lookup x=↑c;refine Option.isSome_iff_exists.mp<|W.cellsFrom_some _ _ _ ?_;rcases t with t|t
  .rcases lO t with q|⟨_,q⟩
   .exact .inl q
   .exact .inr<|Option.isSome_iff_exists.mpr<|gn<|.inl q
  .rcases lO t with q|⟨q,_⟩
   .exact .inr<|Option.isSome_iff_exists.mpr<|gn<|.inl q
   .cases q
 .intro x c f e;have f:scope.names.lookup x=↑.cell:=yQ f;have e:(cellsFrom (s.heap.objs.size+1) scope.names<|fV X.env scope.names []).lookup x=↑c:=e;let(Q,U):=qy (n:=s.heap.objs.size+1) f;rw[bX,pN U]at e;cases e;exact jS<|w x c<|mem_of_lookup U
 .intro b B;refine{yR<|L b B,λx c e z=>?_};rcases l x c e with a|a
  .exact absurd (wL (w x c a) (by rw[z];exact L b B))<|qE _
  .exact (J b B).2.2.2.2.1 x c a z
 .intro b o e B;let(f0,f1,f2,f3,f4,f5):=J b B;rcases f3 with z|z
  .exact I.ok.X8 b o e z
  .exact absurd (zP (zY (I.ok.bs b o e).1) z)<|qE _
 .intro b B hz;let(f0,f1,f2,f3,f4,f5):=J b B;rcases List.mem_cons.mp (I.YC b hz)with z|z
  .exact f1 z
  .exact f2 z
 .intro i x v F G e3;let(Y,j,hj,hv):=E i x v F G;have T:(x,NameKind.free)∈scope.names:=mem_of_lookup Y;let(m,hn,hl):=I.loc;have kx:=P _ T rfl;let(u,ru,lk):=hl j x v hj hv<|kx.elim (λk=>.inr<|.inl k) λk=>.inr<|.inr k;refine{u,ru,.inr {?_,?_}}
  .rcases oA (X:=X) (C:=s.heap.objs.size) Y with q|⟨_,q⟩
   .exact .inr q
   .exact .inl q
  .rcases lk with ⟨k,_⟩|⟨_,c,ec,ic⟩
   .have k:X.env.kindOf x=↑.local:=k;rcases kx with K|K<;>· rw[k]at K;cases K
   .let(Q,U):=gn (env:=X.env) (acc:=[])<|.inl Y;have R:=g x Q U;rw[ec]at R;cases R;refine{c,?_,ic.keeps A};show(cellsFrom (s.heap.objs.size+1) scope.names<|fV X.env scope.names []).lookup x=↑c;rw[bX];cases S:(cellsFrom (s.heap.objs.size+1) scope.names []).lookup x with
    |none=>rw[oo S];exact U
    |some d =>
     have M:=gK _ _ _ _<|mem_of_lookup S;exact(D M T).elim
 .intro x c e;rcases l x c e with a|a
  .exact{_,(Z.empty x c a).1}
  .let(v,q):=I.cell x c a;exact{v,q.keeps A}
 .intro x c e;rcases l x c e with a|a
  .exact I.VH.fresh<|jS<|w x c a
  .exact I.VV x c a
end
abbrev zx(ifs:Γ γ)(env:Env):Sem θ:=forIn ifs true λc r=>if r=true then do let o <- isTrue c env<|eval c env;pure (ForInStep.yield o)else pure (ForInStep.yield r)
def Qc(X:Cx)(ifs:Γ γ)(t:TT):Prop:=
 ∀(p:Γ (Ψ×Obj))(s:Ξ)(a:St)(H:Hp)(Q:θ->Hp->Prop),Inv X p a H s->t a H Q->wpAny (model X.prog X.w) X.A (zx ifs X.env) (TP X p a Q) X.xe s
def Kq:Qc X [] (λ_ H Q=>Q true H):=λ_ _ _ H _ I h=>wpAny_tests_nil {H,I,h}
def JE(h:PT X c t):Qc X [c] t:=λp s a H Q I q=>wpAny_tests_one<|h p s a H Q I q
def vt{R:Result->Ξ->Prop}{elt t iter:γ}{ifs:Γ γ}{scope:ζ}{pos:Pos}{acc:Θ}{env:Env}(I:Nat->Ξ->Prop)
  (turn:∀n s,I n s->wpAny (model prog w) A (pyNext it) (λr J=>match r with
   |none=>R (.ok .next) J
   |some v=>wpAny (model prog w) A (letOwnedTupleGo t it v) (λ_ N=>wpAny (model prog w) A (assign t env v) (λ_ P =>
     wpAny (model prog w) A (zx ifs env) (λo Z =>
      if o=true then wpAny (model prog w) A (eval elt env) (λx U =>
       wpAny (model prog w) A (call (.builtin "list.append") [acc,x]) (λ_ b=>∃m,m<n/\I m b) (λ_ _=>False) U) (λ_ _=>False) Z
      else ∃m,m<n/\I m Z) (λ_ _=>False) P) (λ_ _=>False) N) (λ_ _=>False) J) (λ_ _=>False) s)
  (n:Nat)(h:I n s) :
  codeAny (model prog w) A (.compLoop (.ListComp elt [{t,iter,ifs,0}] scope pos) 0 it acc env) R s:=by
 refine codeAny_loop rfl I (λn s c=>?_) n h;apply wpAny_noted;rw[compTurn_list];refine zV<|vC<|zV<|xA (turn n s c) (λr J a=>?_) λ_ _ H=>H.elim;cases r with
 |none=>exact zW a
 |some v =>
  refine zV<|xA a (λ_ N i=>(zV<|xA i (λ_ P C=>zV<|xA C (λo Z k=>?_) λ_ _ H=>H.elim) λ_ _ H=>H.elim)) λ_ _ H=>H.elim;cases o with
  |false=>exact zW {rfl,k}
  |true =>
   exact zV<|zV<|xA k (λx U D=>zV<|xA D (λ_ b E=>zW<|zW ⟨rfl,E⟩) λ_ _ H=>H.elim) λ_ _ H=>H.elim
def DZ(X:Cx)(pins:Γ (Ψ×Obj))(σ:St)(Q:VK)(acc:Θ)(C:Ψ)(r:Result)(s5:Ξ):Prop:=
 ∃ (D:Ψ) (H:Hp) (m:Str->Δ Θ),acc=.ref D/\r=.ok .next/\Inv X pins σ H s5/\s5.heap.Ns C m/\di X pins H C/\Q (.ref D) H
def FI(J:It)(g:TG)(tt:TT)(te:TE)(D:Ψ)(a:St)(j:Hp)(Q:VK):Prop:=
 ∃W:Nat->Nat->St->Hp->Prop,(∃m,W 0 m a j)/\∀i m f H,W i m f H ->
  (J.stop i H/\Q (.ref D) H)\/(J.go i H/\∀x c,J.yld i H x c->g x f c λX k=>tt X k λb d =>
   if b=true then te X d λv e=>∃y,e D=↑(.lst y)/\y.length<sizeLine/\∃M,M<m/\W (i+1) M X (upd e D<|.lst<|y++[v])
   else ∃M,M<m/\W (i+1) M X d)
section
variable {X:Cx}{pins:Γ (Ψ×Obj)}{σ σ':St}{H:Hp}{s:Ξ}{scope:ζ}{N:Γ Str}
 {tg iter elt:γ}{ifs:Γ γ}{pos:Pos}{g:TG}{tt:TT}{te:TE}
def tZ(hc:X.calm=true)(I:Inv X pins σ H s)(T:Turn X.prog X.w X.K tg J fp it tn)(st:tn 0 s.heap)(hf:∀b∈fp,di X pins H b)(hk:scope.kind=.function)
  (WL:∀x∈scope.names,x.2=.free->X.env.kindOf x.1=↑.cell\/X.env.kindOf x.1=↑.free)(ab5:∀{x:Str},(x,NameKind.cell)∈scope.names->(x,NameKind.free)∈scope.names->False)
  (ab6:∀(i:Nat)(x:Str)(v:V),N[i]?=↑x->σ'[i]?=↑(↑v)->scope.names.lookup x=↑.free/\∃j:Nat,X.N[j]?=↑x/\σ[j]?=↑(↑v))(Z:σ'.length=N.length)
  (hY:∀fp s H,PG (aW X scope N fp s H) tg g/\Qc (aW X scope N fp s H) ifs tt/\PE (aW X scope N fp s H) elt te)
  (hrd:∀D,H D=none->FI J g tt te D σ' (upd H D<|.lst []) Q){E:Θ->Ξ->Prop} :
  wpAny (model X.prog X.w) X.A (newList []) (λacc ZT=>wpAny (model X.prog X.w) X.A (newFunctionEnv scope X.env.globals (fV X.env scope.names []) [] X.env.qual none .none<|↑X.env) (λZU aaU =>
   codeAny (model X.prog X.w) X.A (.compStart (.ListComp elt [{tg,iter,ifs,0}] scope pos) 0 (.ref it) acc {ZU with scope:=relabel scope X.env}) (DZ X pins σ Q acc ZU.locals) aaU) E ZT) E s:=by
 refine qL ?_;have W6:=λb B=>let ⟨o,e,_⟩:=T.obj _ _ st b B;zY e;have U:=I.ab3 (t':=s.toks) .nil<|xV _;let(W,(m0,w0),turn):=hrd _ I.fresh;generalize e3:{s with heap:=s.heap.push _,toks:=s.toks}=S at U;have e3h:S.heap=s.heap.push {cls:=.type "list",data:=.seq [].toArray}:=by rw[<-e3]
 generalize hH3:upd H s.heap.objs.size _=G at U w0 turn;have We:s.heap.objs.size<S.heap.objs.size:=by simp_all
 generalize s.heap.objs.size=D at *;have f3:∀b∈fp,di X pins G b:=λb B=>by
  let(f0,f):=hf b B;refine{?_,f};rw[<-hH3,ak<|yR<|W6 b B];lia
 have ZN:=T.keep _ _ _ st λb _ o=>(λb o e=>by rw[e3h];exact zU _ e:∀b o,s.heap.get? b=↑o->S.heap.get? b=↑o) b o;refine BC λh4 X2 C ZI=>?_;have I4:=F0 U f3 (λb B=>wL (W6 b B) We) hk WL X2 C ZI ab5 ab6 Z S.toks;let(hg,htt,hte):=hY fp S G;have P:∀b∈fp,∀a ,a b=none->di _ [] a b:=λb B a hn=>by
  refine{hn,(I4.ok.exf b B).1,I4.ok.YB b B,.inl B,(I4.ok.exf b B).2,λp hp=>?_};cases hp
 have loop:codeAny (model X.prog X.w) X.A (.compLoop (.ListComp elt [{tg,iter,ifs,0}] scope pos) 0 (.ref it) (.ref D)<|fJ X scope S.heap.objs.size) (DZ X pins σ Q (.ref D) S.heap.objs.size) {S with heap:=h4}:=by
  refine vt (λn s'=>∃i σ' a,Inv _ [] σ' a s'/\tn i s'.heap/\(∀b∈fp,a b=none)/\W i n σ' a) ?_ m0
   {0,σ',G,I4,T.keep _ _ _ ZN λb _ o=>C b o,λb B=>(f3 b B).1,w0}
  rintro n s5 ⟨i,c,t,I5,st5,Y,w5⟩;rcases turn i n c t w5 with ⟨stop,q⟩|⟨go,step⟩
  .refine b0 (T.done (aW X scope N fp S G) rfl rfl rfl hc i [] s5 c t _ I5 (λb B=>P b B t<|Y b B) st5 stop) λr s6 z=>?_;let(hr,M):=z;subst hr;let(m,hn6,_):=M.loc;refine{D,t,m,rfl,rfl,U.ZM M.os M.base M.VH M.bare λb B=>?_,hn6,(λa hn=>U.W8 (yM _) hn:∀a,a S.heap.objs.size=none->di X pins a S.heap.objs.size) t M.free,q};let(f0,f1,f2,f4,f5,f6):=f3 b B;exact{f4,f1,f5,f6}
  .refine b0 (T.item (aW X scope N fp S G) rfl rfl rfl hc i [] s5 c t _ I5 (λb B=>P b B t<|Y b B) st5 go) λr s6 z=>?_;let(u,hr,h6):=z;subst hr;refine b0 h6 λ_ s7 z=>?_;let(x,H7,I7,r7,y7,F,fr7):=z;have again:∀{pl:Γ (Ψ×Obj)}{l:St}{L:Hp}{R:Ξ}{n':Nat},Inv (aW X scope N fp S G) _ l L R->W _ n' l L->∃i σ' a,Inv _ [] σ' a R/\tn i R.heap/\(∀b∈fp,a b=none)/\W i n' σ' a:=λ{pl l L R n'}O w9=>by
    refine{i+1,l,L,O.Wf,T.keep _ _ _ F λb B o e=>(O.pin _<|yE _<|yE _<|eS B e).1,λb B=>?_,w9};let(o,e,d):=T.obj _ _ F b B;exact(O.pin _<|yE _<|yE _<|eS B e).2.1
   refine b0 (hg _ s7 c H7 x u _ (I7.pinned (λb B=>P b B H7<|fr7 b B)<|T.obj _ _ F) r7<|step x H7 y7) λ_ s8 z=>?_;let(k,H8,I8,q8):=z;refine b0 (htt _ s8 k H8 _ I8 q8) λok R z=>?_;let(L,O,q9):=z;cases ok with
   |false =>
    let(m',hm,w9):=q9;exact{m',hm,again (pl:=[]) O w9}
   |true =>
    refine b0 (hte _ R k L _ O q9) λy R8 z=>?_;let(v,H10,I10,r10,ys,afI,hz,m',hm,w10):=z;refine b0 (oE _ R8 k H10 (.ref D) _ _ _ (λ_=>W _ m' k) I10 rfl (.cons r10 .nil) {D,ys,v,rfl,rfl,afI,hz,w10}) λ_ s11 z=>?_;let(_,H11,I11,_,w11):=z;exact{m',hm,again (pl:=[]) I11 w11}
 exact codeAny_compStart_list loop<|T.self _ 0 _ _ _ (T.keep _ _ _ ZN λb _ o=>C b o) loop
end
def Jb(wi:TI)(g:TG)(tt:TT)(te:TE)(Wt:St->St):TE:=λb H Q=>wi b H λJ a=>∀D,a D=none->FI J g tt te D (Wt b) (upd a D<|.lst []) Q
structure iQ(X:Cx)(scope:Scope)(N:List Str)(Wt:St->St):Prop where
 kind:scope.kind=.function
 free:∀x∈scope.names,x.2=.free->X.env.kindOf x.1=↑.cell\/X.env.kindOf x.1=↑.free
 dup:∀{x:Str},(x,NameKind.cell)∈scope.names->(x,NameKind.free)∈scope.names->False
 loc:∀x∈scope.names,x.2=.local -> scope.names.lookup x.1=↑.local
 cap:∀(σ:St)(i:Nat)(x:Str)(v:V),N[i]?=↑x->(Wt σ)[i]?=↑(↑v)->scope.names.lookup x=↑.free/\∃j:Nat,X.N[j]?=↑x/\σ[j]?=↑(↑v)
 len:∀σ:St,(Wt σ).length=N.length
section
variable {X:Cx}{scope:ζ}{N:Γ Str}{Wt:St->St}{tg iter elt:γ}{ifs:Γ γ}{pos:Pos}{wi:TI}{g:TG}{tt:TT}{te:TE}
def KD(hc:X.calm=true)(S:iQ X scope N Wt)(hi:PI X tg iter wi)
  (y:∀fp s H,PG (aW X scope N fp s H) tg g/\Qc (aW X scope N fp s H) ifs tt/\PE (aW X scope N fp s H) elt te)
  (hs:∀x,foldedSetIterable iter X.env x=pure x:=by intro _;rfl):PE X (.ListComp elt [{tg,iter,ifs,0}] scope pos) (Jb wi g tt te Wt):=by
 refineλp s a H Q I h=>wpAny_comprehension_free rfl hs (ma<|ky I.ok S.free) S.kind S.loc (b0 (hi p s a H _ I h) λv G j=>b0 j λw K k=>?_);let(it,fp,P,J,C,e,i,T,Y,f2,R):=k;subst e;refine b0 (tZ hc i T Y f2 S.kind S.free S.dup (S.cap a) (S.len a) y R) λA L l=>b0 l λZ M n=>(jR n λr O t=>?_)
 let(D,c,m,rfl,rfl,d,u,fC,q):=t;refine{m,u,λE z=>?_};let(f,f1,F,f3,f4,f5):=fC;exact{.ref D,c,d.turned (λb o B=>(z.2 b B).trans) f f1 f3 f4 f5,rfl,q}
def J4(hc:X.calm=true)(S:iQ X scope N Wt)(hi:PI X tg iter wi)
  (hY:∀fp s H,PG (aW X scope N fp s H) tg g/\Qc (aW X scope N fp s H) ifs tt/\PE (aW X scope N fp s H) elt te)
  (R:X.N.Nodup)(Y:X.N[i]?=↑y)(f:X.env.scope.names.lookup y=↑.local)
  (W:swapsWith (.ListComp elt [{tg,iter,ifs,0}] scope pos) (↑(.Name y py)) U.line X.env=pure true)
  (hs:∀x,foldedSetIterable iter X.env x=pure x:=by intro _;rfl):PS X (.Assign [.Name y py] (.ListComp elt [{tg,iter,ifs,0}] scope pos) U) (Gn (Jb wi g tt te Wt)<|yr i):=by
 intro p s c H D I h;rw[exec_Assign_Name_used _ _ _ _ W];refine zV<|vC<|zV ?_;show wpAny _ X.A (do let _ <- comprehension (.ListComp elt [{tg,iter,ifs,0}] scope pos) scope X.env _ (newList []) false (eval iter X.env)<|↑(assign (.Name y py) X.env)) _ _ s;refine zV (xA (wpAny_comprehension_free (use:=↑(assign (.Name y py) X.env)) (Q:=λ_ j=>SP X p D .next j) rfl hs (ma<|ky I.ok S.free) S.kind S.loc
  (b0 (hi p s c H _ I h) λv s1 K=>b0 K λitv s2 L=>?_)) (λ_ j hq=>zW<|zW hq) λ_ _ e=>e)
 let(it,fp,tn,J,H2,e,l,T,u,f2,rd):=L;subst e;refine b0 (tZ (iter:=iter) (pos:=pos) (E:=X.xe) hc l T u f2 S.kind S.free S.dup (S.cap c) (S.len c) hY rd) λC s3 M=>b0 M λB s4 O=>?_;refine jR O λr s5 P=>?_;let(d,k,m,rfl,rfl,n,hn,fC,q):=P;show wpAny _ X.A (assign (.Name y py) X.env<|.ref d) _ _ _;refine wpAny_assign_Name<|oH (v:=.ref d) n R Y (.inl f) rfl (λs6 t z=>?_) (.inr f);let(a,sa,ha):=z;let(F,f1,G,f3,f4,f5):=fC;have Z:B.locals≠a:=by
  rcases ha with z|z
  .rw[z];exact f1
  .exactλw=>f4 y a z w.symm
 refine{m,hn.sameBut sa Z,λh' sb=>?_};exact{_,k,t.turned (t':=s6.toks) (λb o hb e=>(sb.2 b hb).trans e) F f1 f3 f4 f5,q}
end
abbrev Tc(X:Cx)(q:Str)(scope:ζ)(f c L:Ψ):Env:=W.envX q scope L f (.ref c)<|fV X.env scope.names []
def pz(X:Cx)(A:ξ)(q:Str)(scope:ζ)(N:Γ Str)(f c:Ψ)(s:Ξ)(H:Hp):Cx where
 prog:=X.prog
 w:=X.w
 K:=X.K
 mg:=X.mg
 base:=X.base
 A:=A.deeper<|Tc X q scope f c s.heap.objs.size
 N:=N
 VQ:=s
 VB:=H
 env:=Tc X q scope f c s.heap.objs.size
 outer:=X.stack
 stack:=Tc X q scope f c s.heap.objs.size::X.stack
 ex:=[]
 fn:=λ_=>false
 calm:=true
 pn:=[]
 xe:=λ_ _=>False
def KY(I:Inv X pins σ H s)(T:A.handled=none)(Q:A.frames=↑X.stack)(S:iQ X scope N Wt)(D:∀x∈scope.names,x.2≠.cell)(g:N[0]?=↑p)(hp:scope.names.lookup p=↑.local)(R:N.Nodup)(r:RelV v u)
  (M:h1.Ns s.heap.objs.size (λx=>[(p,u)].reverse.lookup x))(W:∀b o,s.heap.get? b=↑o->h1.get? b=↑o)(t':Nat) :
  Inv (pz X A qual scope N f c s H) [] ((Wt σ).set 0<|↑v) H {s with heap:=h1,toks:=t'}:=by
 have J:=ky I.ok S.free;have C:∀x c,(fV X.env scope.names []).lookup x=↑c->X.env.cells.lookup x=↑c:=λx c e=>lr J (λ_ _ z=>by cases z) x c<|mem_of_lookup e;have n:∀b:Ψ,b∉(pz X A qual scope N f c s H).ex:=λb z=>absurd (show b∈([]:Γ Ψ)from z) (by simp);refine⟨{I.ok.mod,S.kind,rfl,rfl,yM _,λx y d E a=>I.ok.inj x y d (C x d E)<|C y d a,λx l=>?_,λx d z=>?_,λ_=>T,Around.frames_deeper Q,.inr {rfl,rfl},λb z=>absurd z<|n b,I.bs,yD I.ok.ZE I.sz,λb _ _=>n b,λb z=>absurd z<|n b,I.stack,I.WK},
  rfl,I.bare,Un.kept W,{_,M,λi x w E a e3=>?_},λx d e=>?_,I.VH.fresh<|yM _,λx d e=>I.VV x d<|C x d e,λq hq=>absurd (show q∈([]:Γ (Ψ×Obj))from hq)<|by simp,I.VH.kept W,?_⟩
 .rcases l with l|l
  .exact absurd rfl (D _<|mem_of_lookup (show scope.names.lookup x=↑.cell from l))
  .exact gn<|.inl l
 .cases z
 .cases i with
  |zero =>
   have E:N[0]?=↑x:=E;rw[g]at E;cases E;have L:0<(Wt σ).length:=by rw[S.len];exact(List.getElem?_eq_some_iff.mp g).1
   rw[vM L]at a;cases a;exact{u,r,.inl {hp,by simp}}
  |succ i =>
   have B:(Wt σ)[i+1]?=↑(↑w):=by
    rwa[kP<|by lia]at a
   let(Y,j,Z,hv):=S.cap σ (i+1) x w E B;have hm:(x,NameKind.free)∈scope.names:=mem_of_lookup Y;let(m,hn,L):=I.loc;have G:=S.free _ hm rfl;let(u',ru,lk):=L j x w Z hv<|G.elim (λk=>.inr<|.inl k) λk=>.inr<|.inr k;refine{u',ru,.inr {.inr Y,?_}};rcases lk with ⟨k,_⟩|⟨_,O,P,ic⟩
   .have k:X.env.kindOf x=↑.local:=k;rcases G with K|K<;>· rw[k]at K;cases K
   .let(t,U):=gn (env:=X.env) (acc:=[])<|.inl Y;have F:=C x t U;rw[P]at F;cases F;exact{O,U,ic.keeps W}
 .let(w,q):=I.cell x d<|C x d e;exact{w,q.keeps W}
 .rw[yC];exact S.len σ
def IM(I:Inv X pins σ H s)(R:bT (k+1) A)(m:A.frames=↑X.stack)(S:iQ X scope N Wt)(C:∀x∈scope.names,x.2≠.cell)
  (g:N[0]?=↑p)(P:scope.names.lookup p=↑.local)(D:N.Nodup)(Z:scope.isCoroutine=false)(a:scope.isGenerator=false)
  (F:s.heap.get? f=↑(W.kla_obj name qual params body scope (fV X.env scope.names []) pm c U))(d:H c=↑(.Y0 qual))(n:bindArgs (W.kla_fn name qual params body scope (fV X.env scope.names []) pm (.ref c) U) {[u],[]}=pure [(p,u)])
  (r:RelV v u)(Y:PE (pz X A qual scope N f c s H) body te)(q:te ((Wt σ).set 0<|↑v) H Q) :
  wpAny (model X.prog X.w) A (call (.ref f) [u]) (EP X pins σ Q) (λ_ _=>False) s:=by
 refine vI<|W.kla_callFunE R.depth F rfl Z a rfl (I.VH c _ d) ?_;rw[n];refine zW<|wpAny_newFunctionEnv C (λy t=>?_) (λK l B=>{(I.nolimit.fresh _ B),(W.kla_codeExpr<|xA (Y [] _ _ H Q (KY I R.hd m S C g P D r l (λb o e=>B.extBut b o (yR<|zY e)<|zU _ e) _) q) (λw G ⟨J,j,i,E,z⟩=>(⟨J,j,I.ZM i.os i.base i.VH i.bare<|nofun,E,z⟩)) λe G=>False.elim)}) S.kind
 .rw[List.mem_singleton.mp t];lia
def Bt{pos:Pos}(l:Γ Θ)(h:TriplesOk l)(e:codeAmong pos' (l++[rawInt pos.line,rawInt pos.col,c])=↑v):codeAmong pos' l=↑v\/v=c:=by
 fun_induction TriplesOk l with
 |case1 =>
  simp?[xO,codeAmong,rawInt]at e;split at e
  .cases e;exact .inr rfl
  .cases e
 |case2 a t b u x r i =>
  simp?[xF,codeAmong]at e ⊢;split at e
  .rename_i hc;rw[yL hc];exact .inl e
  .rename_i hc;rw[yN hc];exact i h e
 |case3 l H d=>exact h.elim
def IG(I:Inv X pins σ H s)(S:iQ X scope N Wt)(hq:X.env.qual++"<lambda>"=qual)(Y3:X.env.code=.ref c)(C:W.CodeHd X.base c P)(T:H P=↑(.tab qual))(hB:Sj X.mg X.base)
  (y:defaultsOf params X.env=([],[]))
  (h:∀(f a:Ψ)(pm Y:Θ)(s':Ξ)(H':Hp),Inv X pins σ H' s'->s'.heap.get? f=↑(W.kla_obj "<lambda>" qual params body scope (fV X.env scope.names []) pm a Y)->H' f=none->H' a=↑(.Y0 qual)->az H H'->di X pins H' f->(∀b,H' b≠none->H b≠none\/H' b=↑(.Y0 qual))->Q (.ref f) s') :
  wpAny (model X.prog X.w) X.A (eval (.Lambda params body scope U) X.env) Q X.xe s:=by
 have WY:=ma<|ky I.ok S.free;have l:=C.keeps I.bk;have hg:s.heap.Ns mainGlobals X.mg:=by
  let(o,es,ep,e,r):=I.ok.mod.glob;exact{o,es,ep,I.bk _ _ e,r}
 have m:X.base.get? P=none:=by
  cases e:X.base.get? P with
  |none=>rfl
  |some o=>rw[(I.bs P o e).2]at T;grind
 let(M,G,ht,ZI):=I.VH P _ T;have B:s.heap.BuiltinsAt X.mg P:=by
  let(bm,o,b1,b2,b3,E,b5):=hB;exact{bm,o,b1,b2,b3,(λz=>by rw[z,m]at E;cases E),I.bk _ _ E,b5}
 refine W.kla_eval y ?_;rw[hq];cases J:codeAmong U M.toList with
 |some cv =>
  let(a,rfl,WU):=ZI U cv J;refine W.kla_makeFunctionHit WY I.ok.glob hg Y3 l G ht J B λY i O k Z=>?_;have x:H i.objs.size=none:=I.VH.fresh Z;exact h _ a _ Y _ H (I.kept (t':=O) λb o e=>zU _<|k b o e) (zX _ rfl) x WU (.refl _) (I.W8 Z x) λb z=>.inl z
 |none =>
  have K:mainGlobals≠P:=λz=>by
   let(o,es,ep,e,r):=I.ok.mod.glob;rw[z,m]at e;cases e
  refine W.kla_makeFunction WY I.ok.glob hg Y3 l G ht J K B λa Y i O hx j Y1 R p=>?_;have x:H a=none:=I.VH.fresh j;have Z:s.heap.objs.size<=i.objs.size:=jS<|qY j Y1;have k:∀b o,b≠P->s.heap.get? b=↑o->(i.push<|W.kla_obj "<lambda>" qual params body scope (fV X.env scope.names []) ((X.mg "__name__").getD .none) a Y).get? b=↑o:=λb o B e=>zU _<|hx b o B e;have hPc:P≠a:=λz=>by grind
  have up:∀b u,H b=↑u->upd H a (.Y0 qual) b=↑u:=λb u e=>by rw[ak<|aM e x];lia
  have un:Un X.fs [] H (upd H a<|.Y0 qual) s.heap (i.push<|W.kla_obj "<lambda>" qual params body scope (fV X.env scope.names []) ((X.mg "__name__").getD .none) a Y):=by
   refine{λb o e n _ _=>k b o (λz=>by rw[z,T]at n;cases n) e,λb o e n _ _=>{o.slots,k b o (λz=>by rw[z,T]at n;cases n) e},λb o e n _=>?_,λb o e _=>?_,λb xs e=>up b _ e,λb o u e=>up b _ e,{λb u e _=>up b u e,λb q ps' e z=>?_}}
   .rw[ak<|yR<|zP (zY e) j];lia
   .by_cases B:b=P
    .subst B;exact{_,zU _ p}
    .exact{o,k b o B e}
   .by_cases B:b=P
    .subst B;rw[G]at z;cases z;exact{_,zU _ p}
    simp_all
  have VH:mV X.prog X.w (upd H a<|.Y0 qual) (i.push<|W.kla_obj "<lambda>" qual params body scope (fV X.env scope.names []) ((X.mg "__name__").getD .none) a Y):=by
   intro b u e;by_cases g:b=a
   .subst g;rw[av]at e;cases e;let(c0,oc,vs,t,e0,e1,r):=R;exact{c0,oc,vs,t,e0,zU _ e1,r}
   .rw[ak g]at e;by_cases B:b=P
    .subst B;rw[T]at e;cases e;refine{_,zU _ p,?_,λL v hv=>?_}
     .have:=TriplesOk_snoc U.line U.col (.ref a) M.toList ht;simpa using this
     .rcases Bt M.toList ht (by simpa using hv)with z|z
      .let(c0,z1,z2):=ZI L v z;exact{c0,z1,up _ _ z2}
      .exact{a,z,av}
    .exact (I.VH b u e).Wa (λd o D eo=>k d o (by
      rcases D with rfl|D
      .exact B
      .exact (λ{b u}e VZ z=>by grind:∀{b:Ψ}{u:HO},H b=↑u->(∀q,u≠.tab q)->b≠P) D λq z=>by cases z) eo) (λd D=>up d _ D) λd o D _=>up d _ D
  have F:upd H a (.Y0 qual) i.objs.size=none:=by
   rw[ak<|jH Y1];exact I.VH.fresh Z
  refine h _ a _ Y _ _ (I.un (t':=O) un VH) (zX _ rfl) F av up (I.W8 Z F) λb z=>?_;by_cases g:b=a
  .subst g;exact .inr av
  .rw[ak g]at z;exact .inl z
end L2
namespace Dl
open PySem L2 PySem.Spec PyProof.Rows
abbrev D:=PyData
abbrev iK(ns:Γ Int):D:=.tuple<|ns.map PyData.int
def pI(K:Φ)(H:Hp):Γ (D×D)->Γ (Γ tN×Ψ×Θ)->Prop
 |[],x=>x=[]
 |p::l,x=>∃s n t b r,p=(iK s,.int n)/\x=(s.map Sum.inl,b,.int n t)::r/\gm K H b (s.map V.int)/\pI K H l r
mutual
def Rep(K:Φ)(H:Hp):D->V->Prop
 |.none,v=>v=.VC
 |.bool b,v=>v=.bl b
 |.int i,v=>v=.int i
 |.str x,v=>v=.str x
 |.tuple d,v=>∃a s,v=.ref a/\gm K H a s/\ar K H d s
 |.list d,v=>∃a s,v=.ref a/\iw K H a s/\ar K H d s
 |.dict l,v=>∃a X,v=.ref a/\H a=↑(.dT X)/\pI K H l X
def ar(K:Φ)(H:Hp):Γ D->Γ V->Prop
 |[],s=>s=[]
 |d::S,s=>∃v r,s=v::r/\Rep K H d v/\ar K H S r
end
def aB{K:Φ}(e:az H H')(h:gm K H a xs):gm K H' a xs:=by
 rcases h with (h|⟨o,h⟩)|h
 .exact .inl<|.inl<|e _ _ h
 .exact .inl<|.inr {o,e _ _ h}
 .exact .inr h
def pI.mono{K:Φ}{H H':Hp}(e:az H H'):∀{l:Γ (D×D)}{xs:Γ (Γ tN×Ψ×Θ)},pI K H l xs->pI K H' l xs
 |[],_,h=>h
 |p::l,_,⟨s,n,t,b,r,a,c,d,f⟩=>{s,n,t,b,r,a,c,aB e d,pI.mono e f}
mutual
theorem Rep.mono{K:Φ}{H H':Hp}(e:az H H'):∀{d:D}{v:V},Rep K H d v->Rep K H' d v
 |.none,_,h=>h
 |.bool _,_,h=>h
 |.int _,_,h=>h
 |.str _,_,h=>h
 |.tuple S,_,h=>by
  simp?[Rep]at h ⊢;let(a,s,rfl,q,r):=h;exact{a,s,rfl,aB e q,ar.mono e r}
 |.list S,_,h=>by
  simp?[Rep]at h ⊢;let(a,s,rfl,q,r):=h;exact{a,s,rfl,e.seq q,ar.mono e r}
 |.dict l,_,h=>by
  simp?[Rep]at h ⊢;let(a,x,b,c,f):=h;exact{a,x,b,e _ _ c,f.mono e}
theorem ar.mono{K:Φ}{H H':Hp}(e:az H H'):∀{ds:Γ D}{vs:Γ V},ar K H ds vs->ar K H' ds vs
 |[],_,h=>h
 |d::ds,_,h=>by
  simp?[ar]at h ⊢;let(v,r,rfl,a,b):=h;exact{v,r,rfl,Rep.mono e a,ar.mono e b}
end
section
variable {K:Φ}
def ar.nil:ar K H [] []:=by rfl
def ar.cons(a:Rep K H d v)(b:ar K H ds vs):ar K H (d::ds) (v::vs):=by
 exact{v,vs,rfl,a,b}
def ar.cons_inv(h:ar K H (d::ds) vs):∃v r,vs=v::r/\Rep K H d v/\ar K H ds r:=by exact h
def ar.nil_inv(h:ar K H [] vs):vs=[]:=by exact h
def ar.length:∀{ds:Γ D}{vs:Γ V},ar K H ds vs->vs.length=ds.length
 |[],_,h=>by rw[h.nil_inv];rfl
 |d::ds,_,h=>by let(v,r,rfl,_,b):=h.cons_inv;simp[ar.length b]
def ar.get:∀{ds:Γ D}{vs:Γ V}{i:Nat}{v:V},ar K H ds vs->vs[i]?=↑v->∃d,ds[i]?=↑d/\Rep K H d v
 |[],_,i,v,h,e=>by rw[h.nil_inv]at e;simp at e
 |d::ds,_,i,v,h,e=>by
  let(j,r,rfl,a,b):=h.cons_inv;cases i with
  |zero=>simp at e;subst e;exact{d,rfl,a}
  |succ i=>simp at e;let(c,f,g):=ar.get b e;exact{c,by simpa using f,g}
def ar.getD:∀{ds:Γ D}{vs:Γ V}{i:Nat}{d:D},ar K H ds vs->ds[i]?=↑d->∃v,vs[i]?=↑v/\Rep K H d v
 |[],_,i,d,h,e=>by simp at e
 |d::ds,_,i,j,h,e=>by
  let(g,r,rfl,a,b):=h.cons_inv;cases i with
  |zero=>simp at e;subst e;exact{g,rfl,a}
  |succ i=>simp at e;let(v,c,f):=ar.getD b e;exact{v,by simpa using c,f}
def ar.append:∀{ds es:Γ D}{vs us:Γ V},ar K H ds vs->ar K H es us->ar K H (ds++es) (vs++us)
 |[],_,_,_,h,g=>by rw[h.nil_inv];exact g
 |d::ds,_,_,_,h,g=>by let(v,r,rfl,a,b):=h.cons_inv;exact ar.cons a<|ar.append b g
def ar.take:∀{ds:Γ D}{vs:Γ V}n,ar K H ds vs->ar K H (ds.take n) (vs.take n)
 |[],_,n,h=>by rw[h.nil_inv];simp[ar]
 |d::ds,_,0,h=>by rfl
 |d::ds,_,n+1,h=>by let(v,r,rfl,a,b):=h.cons_inv;exact ar.cons a<|ar.take n b
def ar.drop:∀{ds:Γ D}{vs:Γ V}n,ar K H ds vs->ar K H (ds.drop n) (vs.drop n)
 |[],_,n,h=>by rw[h.nil_inv];simp[ar]
 |d::ds,_,0,h=>h
 |d::ds,_,n+1,h=>by let(v,r,rfl,a,b):=h.cons_inv;exact ar.drop n b
end
structure bc(HF H VD H':Hp):Prop where
 hh:az H H'
 ff:az HF VD
 fh:az VD H'
 nw:∀a o,VD a=↑o->HF a=↑o\/H a=none
def bc.refl(s:az HF H):bc HF H HF H:={.refl _,.refl _,s,λ_ _=>.inl}
def bc.trans(a:bc HF H VG U)(b:bc VG U VU H2):bc HF H VU H2:=
 {a.hh.trans b.hh,a.ff.trans b.ff,b.fh,λx o e=>(b.nw x o e).elim (a.nw x o) λz=>.inr<|a.hh.free z}
def eJ(h:H p=none):az H (upd H p o):=λb u e=>by rw[ak<|aM e h];lia
def bc.new(s:az HF H)(h:H p=none):bc HF H (upd HF p o) (upd H p o):=by
 have f:HF p=none:=s.free h;refine{eJ h,eJ f,λb u e=>?_,λb u e=>?_}
 .by_cases B:b=p
  .subst B;rw[av]at e ⊢;exact e
  .rw[ak B]at e ⊢;exact s b u e
 .by_cases B:b=p
  .subst B;exact .inr h
  .rw[ak B]at e;exact .inl e
def bc.own(s:az HF H)(h:H p=none):bc HF H HF (upd H p o):=
 {eJ h,.refl _,λb u e=>by rw[ak<|aM (s b u e) h];exact s b u e,λ_ _=>.inl}
def bc.freeze(g:bc HF H VG U)(h:H p=none)(a:U p=↑o)(f:VG p=none):bc HF H (upd VG p o) U:=
 ⟨g.hh,g.ff.trans<|eJ f,λb u e=>by
  by_cases B:b=p
  .subst B;rw[av]at e;rw[a,<-e]
  .rw[ak B]at e;exact g.fh b u e,λb u e=>by
  by_cases B:b=p
  .subst B;exact .inr h
  .rw[ak B]at e;exact g.nw b u e⟩
def ka:Γ Str:=["ways_of","turned_order","fairest"]
def cx(K:Φ)(HF:Hp):Prop:=∀(f:Ψ)(o:Θ)(O:Δ Ψ)(d:η)(s:Array (Δ Θ))(c P:Ψ),K.lookup f=↑{o,O,.func d,s}->d.qualname∈ka->d.code=.ref c->W.codeHdIn K c P=true->HF P=↑(.tab<|d.qualname++".<locals>."++"<lambda>")
def cx.mono{K:Φ}(h:cx K HF)(e:az HF VD):cx K VD:=λf o O F s c P a b d q=>e _ _<|h f o O F s c P a b d q
abbrev Env:=Γ<|Δ D
structure cu(K:W.Frag)(HF:Hp)(ρ:Env)(σ:L2.St):Prop where
 get:∀(i:Nat)(d:D),ρ[i]?=↑(↑d)->∃v,σ[i]?=↑(↑v)/\Rep K HF d v
 len:ρ.length<=σ.length
 tb:cx K HF
def cu.mono{K:Φ}(h:cu K HF ρ σ)(e:az HF VD):cu K VD ρ σ:={λi d q=>let ⟨v,a,b⟩:=h.get i d q;{v,a,b.mono e},h.len,h.tb.mono e}
def tD(K:Φ)(f:Env->Δ D):TE:=λe H Q=>∃F c d,az F H/\cu K F c e/\f c=↑d/\∀v a b,bc F H b a->Rep K b d v->Q v a
def DE(X:Cx)(e:γ)(f:Env->Δ D):Prop:=PE X e<|tD X.K f
def tF(K:Φ)(f:Env->Δ (Γ D)):TE:=λe H Q=>∃F c d,az F H/\cu K F c e/\f c=↑d /\
 ∀a s b v,bc F H v b->H a=none->v a=none->b a=↑(.lst s)->ar K v d s->Q (.ref a) b
def DF(X:Cx)(e:γ)(f:Env->Δ (Γ D)):Prop:=PE X e<|tF X.K f
def MH(K:Φ)(f:Env->Δ θ):TT:=λd H Q=>∃F c b,az F H/\cu K F c d/\f c=↑b/\∀a D,bc F H D a->Q b a
def DT(X:Cx)(e:γ)(f:Env->Δ θ):Prop:=PT X e<|MH X.K f
def SX(K:Φ)(f:Env->Δ (Γ D)):TA:=λc H Q=>∃F b d,az F H/\cu K F b c/\f b=↑d/\∀s a v,bc F H v a->ar K v d s->Q s a
def DA(X:Cx)(es:Γ γ)(f:Env->Δ (Γ D)):Prop:=PA X es<|SX X.K f
def aF(h:PE X e t)(i:∀σ H Q,t' σ H Q->t σ H Q):PE X e t':=λp s σ H Q I q=>h p s σ H Q I<|i σ H Q q
def rO(h:PT X e t)(i:∀σ H Q,t' σ H Q->t σ H Q):PT X e t':=λp s σ H Q I q=>h p s σ H Q I<|i σ H Q q
def hJ(h:PA X e t)(i:∀σ H Q,t' σ H Q->t σ H Q):PA X e t':=λP p s σ H Q I q=>h P p s σ H Q I<|i σ H Q q
def bs(h:x.bind f=↑b):∃a,x=↑a/\f a=↑b:=by
 cases x with
 |none=>cases h
 |some a=>exact{a,rfl,h}
def DF.de(h:DF X e f):DE X e (λρ=>(f ρ).map PyData.list):=aF h λk H Q z=>by
 let(c,ρ,d,sm,o,b,q):=z;have b:(f ρ).map PyData.list=↑d:=b;cases E:f ρ with
 |none=>grind
 |some s =>
  rw[E]at b;obtain rfl:PyData.list s=d:=xD b;exact{c,ρ,s,sm,o,E,λa v j D g A F i r=>q _ _ _ (g.freeze A i F)<|{a,v,rfl,.inl<|.inl av,r.mono<|eJ F}}
def ae(i:Nat):Env->Δ D:=λa=>(a[i]?).getD none
def PY(i:Nat)(n:X.N[i]?=↑x)(g:nW X.env.scope x)(D:(x==("__debug__":Str))=false:=by decide)(R:(x==("__classdict__":Str))=false:=by decide):DE X (.Name x pos) (ae i):=
 aF (bQ n g D R) λj H Q z=>by
  let(F,c,d,sm,E,f,q):=z;have f:(c[i]?).getD none=↑d:=f;cases e:c[i]? with
  |none=>rw[e]at f;cases f
  |some o =>
   rw[e]at f;have f:o=↑d:=f;subst f;let(v,a,b):=E.get i d e;exact{v,a,q v H F (.refl sm) b}
def fC(d:D):Env->Δ D:=λ_=>↑d
def NP{i j pos}:DE X (.Constant (.int i) j pos) (fC<|.int i):=aF IQ λb H Q z=>by let(F,a,d,sm,e,f,q):=z;cases f;exact q _ H F (.refl sm) (by rfl)
def Q4{b j pos}:DE X (.Constant (.bool b) j pos) (fC<|.bool b):=aF HG λc H Q z=>by let(F,a,d,sm,e,f,q):=z;cases f;exact q _ H F (.refl sm) (by rfl)
def Nu{j pos}:DE X (.Constant .none j pos) (fC .none):=aF OU λb H Q z=>by let(F,a,d,sm,e,f,q):=z;cases f;exact q _ H F (.refl sm) (by rfl)
def Pe{x j pos}:DE X (.Constant (.str x) j pos) (fC<|.str x):=aF Hj λb H Q z=>by let(F,a,d,sm,e,f,q):=z;cases f;exact q _ H F (.refl sm) (by rfl)
def LX(g:Gl X x)(m:X.mg x=↑(.int i t))(D:(x=="__debug__")=false:=by decide):DE X (.Name x pos) (fC<|.int i):=
 aF (Ll (v:=.int i) g m {t,rfl} D) λb H Q z=>by let(F,a,d,sm,e,f,q):=z;cases f;exact q _ H F (.refl sm) (by rfl)
def fy(K:Φ)(r:R2)(g:D->D->Δ D):Prop:=∀F H x y c e d Q,az F H->Rep K F x c->Rep K F y e->g x y=↑d->(∀v a b,bc F H b a->Rep K b d v->Q v a)->r c e H Q
def f2(g:D->D->Δ D)(f1 f2:Env->Δ D):Env->Δ D:=λa=>(f1 a).bind λx=>(f2 a).bind λy=>g x y
def K6{X:Cx}{fa fb:Env->Δ D}(R:fy X.K r g):∀σ H Q,tD X.K (f2 g fa fb) σ H Q->NO r (tD X.K fa) (tD X.K fb) σ H Q:=λσ H Q z=>by
 let(F,b,d,sm,e,f,q):=z;let(x,n,f):=bs f;let(y,Y,m):=bs f;exact{F,b,x,sm,e,n,λp t k G r1=>{k,b,y,G.fh,e.mono G.ff,Y,λs i U a o=>R U i x y p s d Q a.fh (r1.mono a.ff) o m λv c j l=>q v c j<|(G.trans a).trans l}}
def Ac(o:il X (binaryOp op) r)(R:fy X.K r g)(H:DE X a fa)(B:DE X b fb):DE X (.BinOp a op b pos) (f2 g fa fb):=aF (Co o H B)<|K6 R
def Pi(o:il X (compareOp op) r)(R:fy X.K r g)(H:DE X a fa)(B:DE X b fb)(m:behindInMarks op b=false):DE X (.Compare a [op] [b] pos) (f2 g fa fb):=aF (LK o H B m)<|K6 R
def ye(C:Int->Int->Prop)[∀i j,Decidable<|C i j](g:Int->Int->D):D->D->Δ D
 |.int i,.int j=>if C i j then↑(g i j)else none
 |_,_=>none
def Hh{K:Φ}{C:Int->Int->Prop}[∀i j,Decidable<|C i j]{gi:Int->Int->Int}:fy K (rI C λi j=>.int<|gi i j) (ye C λi j=>.int<|gi i j):=by
 intro F H x y v a d Q sm r1 r g q;cases x<;>cases y<;>simp?[ye]at g<;>try grind
 rename_i i j;by_cases hc:C i j
 .rw[yL hc]at g;cases g;exact{i,j,r1,r,hc,q _ H F (.refl sm)<|by rfl}
 grind
def A4{K:Φ}{gi:Int->Int->Int}:fy K (Jh λi j=>.int<|gi i j) (ye (λ_ _=>True) λi j=>.int<|gi i j):=by
 intro F H x y v a d Q sm r1 r g q;cases x<;>cases y<;>simp[ye]at g<;>try cases g
 rename_i i j;exact{i,j,r1,r,q _ H F (.refl sm)<|by rfl}
def sE{K:Φ}{gi:Int->Int->θ}:fy K (Jh λi j=>.bl<|gi i j) (ye (λ_ _=>True) λi j=>.bool<|gi i j):=by
 intro F H x y v a d Q sm r1 r g q;cases x<;>cases y<;>simp[ye]at g<;>try cases g
 rename_i i j;exact{i,j,r1,r,q _ H F (.refl sm)<|by rfl}
noncomputable instance (i j:Int):Decidable (wW i j):=by unfold wW;infer_instance
noncomputable instance (i j:Int):Decidable (J5 i j):=by unfold J5;infer_instance
section
variable {X:Cx}{a b c:γ}{fa fb fc:Env->Δ D}{pos:Pos}{rest:Γ γ}
def vp(fa fb:Env->Δ D):Env->Δ D:=λa=>(fa a).bind fun|.bool true=>fb a|.bool false=>↑(.bool false)|_=>none
def Vl(fa fb:Env->Δ D):Env->Δ D:=λa=>(fa a).bind fun|.bool true=>↑(.bool true)|.bool false=>fb a|_=>none
def Rk:D->Δ D|.bool b=>↑(.bool<|!b)|_=>none
def TM(fa:Env->Δ D):Env->Δ D:=λa=>(fa a).bind Rk
def Np{op}(h:DE X a fa):DE X (.BoolOp op [a] pos) fa:=N6 h
def O2(A:DE X a fa)(B:DE X (.BoolOp .And (b::rest) pos) fb):DE X (.BoolOp .And (a::b::rest) pos) (vp fa fb):=aF (Nn A B) λo H Q z=>by
 let(F,i,d,sm,e,f,q):=z;let(x,m,f):=bs f;refine{F,i,x,sm,e,m,λn l c G r1=>?_};cases x<;>try cases f
 rename_i k;refine{k,r1,?_};cases k with
 |true=>exact mZ {c,i,d,G.fh,e.mono G.ff,f,λv j D g=>q v j D<|G.trans g}
 |false=>cases f;exact lJ<|q _ l c G<|by rfl
def gB:D->Δ θ|.bool b=>↑b|_=>none
def fB(f:Env->Δ D):Env->Δ θ:=λa=>(f a).bind gB
def Hz:∀σ H(Q:θ->Hp->Prop),MH X.K (fB f) σ H Q->tD X.K f σ H λx a=>∃c,x=.bl c/\Q c a:=λσ H Q z=>by
 let(b,i,k,sm,e,F,q):=z;let(x,d,F):=bs F;refine{b,i,x,sm,e,d,λv a G g r1=>?_};cases x<;>try cases F
 simp?[Rep]at r1;exact{_,r1,q a G g}
def PZ(h:DE X a f)(e:∀whole,isTrue a X.env whole=(do let v <- whole;standAt a.pos;holding [v]<|truthy v):=by intro _;rfl):DT X a (fB f):=rO (Ik h e) Hz
def j6(o:il X (compareOp op) r)(R:fy X.K r g)(A:DE X a fa)(B:DE X b fb)(m:behindInMarks op b=false):DT X (.Compare a [op] [b] pos) (fB<|f2 g fa fb):=
 rO (pW o A B m) λc H Q h=>K6 R c H _<|Hz c H Q h
def gU(fa fb:Env->Δ θ):Env->Δ θ:=λa=>(fa a).bind fun|true=>fb a|false=>↑false
def qo(fa fb:Env->Δ θ):Env->Δ θ:=λa=>(fa a).bind fun|true=>↑true|false=>fb a
def eO(fa:Env->Δ θ):Env->Δ θ:=λa=>(fa a).map (!·)
variable {ta tb:Env->Δ θ}
def DW(X:Cx)(e:γ)(f:Env->Δ θ):Prop:=PW X e<|MH X.K f
def AX(h:PW X e t)(i:∀σ H Q,t' σ H Q->t σ H Q):PW X e t':=λw p s σ H Q I q=>h w p s σ H Q I<|i σ H Q q
def DW.dt(h:DW X a ta):DT X a ta:=PW.pt h
def JA(H:DT X a ta):DW X (.BoolOp .And [a] pos) ta:=Le H
def NK(H:DT X a ta):DW X (.BoolOp .Or [a] pos) ta:=BA H
def GY(A:DT X a ta)(B:DW X (.BoolOp .And (b::rest) pos) tb):DW X (.BoolOp .And (a::b::rest) pos) (gU ta tb):=AX (Om A B) λl H Q z=>by
 let(F,c,d,sm,e,f,q):=z;let(x,k,f):=bs f;refine{F,c,x,sm,e,k,λj v G=>?_};cases x with
 |true=>exact mZ {v,c,d,G.fh,e.mono G.ff,f,λi D g=>q i D<|G.trans g}
 |false=>cases f;exact lJ<|q j v G
def MJ(A:DT X a ta)(B:DW X (.BoolOp .Or (b::rest) pos) tb):DW X (.BoolOp .Or (a::b::rest) pos) (qo ta tb):=AX (HK A B) λl H Q z=>by
 let(F,c,d,sm,e,f,q):=z;let(x,k,f):=bs f;refine{F,c,x,sm,e,k,λj v G=>?_};cases x with
 |false=>exact lJ {v,c,d,G.fh,e.mono G.ff,f,λi D g=>q i D<|G.trans g}
 |true=>cases f;exact mZ<|q j v G
def NQ(A:DT X a ta):DT X (.UnaryOp .Not a pos) (eO ta):=rO (Gu A) λi H Q z=>by
 let(F,b,d,sm,o,f,q):=z;have f:(ta b).map (!·)=↑d:=f;cases e:ta b with
 |none=>rw[e]at f;cases f
 |some k=>rw[e]at f;cases f;exact{F,b,k,sm,o,e,λc G g=>q c G g}
def ME(t:Env->Δ θ)(fa fb:Env->Δ D):Env->Δ D:=λa=>(t a).bind fun|true=>fa a|false=>fb a
def RZ(hc:DT X c ta)(A:DE X a fa)(B:DE X b fb):DE X (.IfExp c a b pos) (ME ta fa fb):=aF (rV hc A B) λm H Q z=>by
 let(F,i,d,sm,o,f,q):=z;let(x,k,f):=bs f;refine{F,i,x,sm,o,k,λl j G=>?_};cases x with
 |true=>exact mZ {j,i,d,G.fh,o.mono G.ff,f,λv e D g=>q v e D<|G.trans g}
 |false=>exact lJ {j,i,d,G.fh,o.mono G.ff,f,λv e D g=>q v e D<|G.trans g}
def me(g g':D->D->Δ D)(fa fb fc:Env->Δ D):Env->Δ D:=λa=>(fa a).bind λx=>(fb a).bind λy=>(g x y).bind fun|.bool true=>(fc a).bind λz=>g' y z|.bool false=>↑(.bool false)|_=>none
def KR(B:fy X.K r g)(Y:fy X.K r' g'):∀σ H Q,tD X.K (me g g' fa fb fc) σ H Q->Gq r r' (tD X.K fa) (tD X.K fb) (tD X.K fc) σ H Q:=λσ H Q z=>by
 let(F,i,d,sm,e,f,q):=z;let(x,C,f):=bs f;let(y,E,f):=bs f;let(z,Z,f):=bs f;refine{F,i,x,sm,e,C,λL N t a r1=>{t,i,y,a.fh,e.mono a.ff,E,λm o U b R=>B U o x y L m z _ b.fh (r1.mono b.ff) R Z λO p j l I=>?_}};cases z<;>try cases f
 rename_i k;refine{k,I,?_};have G:=(a.trans b).trans l;cases k with
 |false=>cases f;exact lJ (q _ p j G<|by rfl)
 |true =>
  let(w,hw,A):=bs f;exact mZ {j,i,w,G.fh,e.mono G.ff,hw,λM s W c J=>Y W s y w m M d Q c.fh (R.mono<|l.ff.trans c.ff) J A λv n D u=>q v n D<|(G.trans c).trans u}
def IT(o:il X (compareOp op) r)(R:fy X.K r g)(x:il X (compareOp U) r')(Y:fy X.K r' g')(H:DE X a fa)(B:DE X b fb)(hc:DE X c fc)
  (m:lastMarks [op,U] [b,c]=false:=by with_unfolding_all rfl):DE X (.Compare a [op,U] [b,c] pos) (me g g' fa fb fc):=aF (HL o x H B hc m)<|KR R Y
def ag:Env->Δ (Γ D):=λ_=>↑[]
def aa(f:Env->Δ D)(g:Env->Δ (Γ D)):Env->Δ (Γ D):=λa=>(f a).bind λx=>(g a).map (x::·)
def BF:DA X [] ag:=hJ cf λb H Q z=>by let(F,a,d,sm,e,f,q):=z;cases f;exact q [] H F (.refl sm) .nil
def v9(j:DE X e f)(hs:DA X es g)(W:starEach (e::es) X.env=(false,eval e X.env)::starEach es X.env:=by rfl):DA X (e::es) (aa f g):=
 hJ (ba j hs W) λn H Q z=>by
  let(i,a,d,sm,o,F,q):=z;let(x,k,F):=bs F;cases E:g a with
  |none=>grind
  |some s =>
   rw[E]at F;cases F;exact{i,a,x,sm,o,k,λm l v G r1=>{v,a,s,G.fh,o.mono G.ff,E,λS c U b r=>q _ c U (G.trans b)<|ar.cons (r1.mono b.ff) r}}
variable {es:Γ γ}{fs:Env->Δ (Γ D)}
def small(ds:Γ D):Δ (Γ D):=if ds.length<=sizeLine then↑ds else none
def eV{ds es:Γ D}(h:small ds=↑es):es=ds/\ds.length<=sizeLine:=by
 unfold small at h;split at h
 .cases h;exact{rfl,‹_›}
 .cases h
def bg(g:Env->Δ (Γ D)):Env->Δ D:=λa=>(g a).bind λd=>(small d).map PyData.tuple
def gO(g:Env->Δ (Γ D)):Env->Δ (Γ D):=λa=>(g a).bind small
def NV{x1}(h:DA X es fs):DE X (.Tuple es x1 pos) (bg fs):=aF (Gp h) λc H Q z=>by
 let(F,a,d,sm,o,f,q):=z;let(s,x,f):=bs f;cases e:small s with
 |none=>grind
 |some E =>
  rw[e]at f;cases f;let(rfl,Z):=eV e;exact{F,a,_,sm,o,x,λv b G g r1=>{by rw[r1.length];lia,λp P=>q _ _ _ (g.trans<|.new g.fh P)<|{p,v,rfl,.inl<|.inl av,r1.mono<|eJ<|g.fh.free P}}}
def NX(h:DA X es fs):DF X (.List es pos) (gO fs):=aF (B5 h) λc H Q z=>by
 let(F,a,d,sm,e,f,q):=z;let(s,x,f):=bs f;let(rfl,Z):=eV f;exact{F,a,_,sm,e,x,λv b G g r1=>{by rw[r1.length];lia,λp P=>q p v _ G (g.trans<|.own g.fh P) (g.hh.free P) (g.fh.free P) av r1}}
def aN:D->D->Δ D
 |.tuple d,.int i=>tw d i
 |.list d,.int i=>tw d i
 |_,_=>none
def nG{K:Φ}(r:ar K HF ds vs)(h:tw ds i=↑d):∃v,tw vs i=↑v/\Rep K HF d v:=by
 unfold tw at h ⊢;rw[r.length];let(j,H,h):=bs h;let(v,a,b):=r.getD h;exact{v,by rw[H];exact a,b}
def PQ{K:Φ}:fy K (UD K) aN:=by
 intro F H x y e f d Q sm r1 c g q;cases x<;>cases y<;>simp[aN]at g<;>try grind
 .let(a,S,rfl,s,r):=r1;let(v,b,R):=nG r g;exact .inl {a,S,_,v,rfl,c,sm.seq s,b,q v H F (.refl sm) R}
 .let(a,S,rfl,s,r):=r1;let(v,b,R):=nG r g;exact .inr<|.inl {a,S,_,v,rfl,c,aB sm s,b,q v H F (.refl sm) R}
def Qt(H:DE X a fa)(B:DE X b fb)(hs:mY b:=by intro _ _;rfl):DE X (.Subscript a b pos) (f2 aN fa fb):=aF (G1 BV H B hs)<|K6 PQ
def sj{h:ι}:∀{ns:Γ Int}{us:Γ Θ},aG (ns.map V.int) us->∃as,ReadsAll h us (ns.map PyData.int) as
 |[],_,r=>by cases r;exact{_,.nil}
 |n::ns,_,r=>by
  rw[zI]at r ⊢;cases r with
  |cons a b =>
   let(t,rfl):=a;let(as,q):=sj b;exact{_,.cons (.int n t) q}
def ua{pins:Γ (Ψ×Obj)}{σ:L2.St}{H HF:Hp}{s:Ξ}(I:Inv X pins σ H s)(sm:az HF H):∀{l:Γ (D×D)}{xs:Γ (Γ tN×Ψ×Θ)},pI X.K HF l xs ->
  ∃as bs,ReadsAll s.heap ((xs.map<|entryOfKey<|tupleKind<|eH X.prog X.w).map (·.key)) (l.map (·.1)) as/\ReadsAll s.heap ((xs.map<|entryOfKey<|tupleKind<|eH X.prog X.w).map (·.val)) (l.map (·.2)) bs
 |[],_,h=>by
  cases(show _=[]from h);exact{_,_,.nil,.nil}
 |p::l,_,⟨S,n,t,b,r,a,c,d,e⟩=>by
  subst a c;let(as,bs,q,q2):=ua I sm e;let(E,v,(o,O,hc,N,f),_):=I.tuple<|aB sm d;let(C,Q):=sj (h:=s.heap) v;exact{_,_,.cons (.tuple O hc f<|by simpa using Q) q,.cons (.int n t) q2}
mutual
theorem cY{pins:Γ (Ψ×Obj)}{σ:L2.St}{H HF:Hp}{s:Ξ}(I:Inv X pins σ H s)(sm:az HF H):∀{d:D}{v:V}{u:Θ},Rep X.K HF d v->RelV v u->∃as,Reads s.heap u d as
 |.none,_,_,h,r=>by simp?[Rep]at h;subst h;cases r;exact{_,.none}
 |.bool b,_,_,h,r=>by simp?[Rep]at h;subst h;cases r;exact{_,.bool b}
 |.int i,_,_,h,r=>by simp?[Rep]at h;subst h;let(t,rfl):=r;exact{_,.int i t}
 |.str i,_,_,h,r=>by simp?[Rep]at h;subst h;let(t,rfl):=r;exact{_,.str i t}
 |.tuple j,_,_,h,r=>by
  simp?[Rep]at h;let(a,k,rfl,S,R):=h;cases r;let(g,f,(o,O,hc,n,c),_):=I.tuple<|aB sm S;let(as,q):=oQ I sm R f;exact{as,.tuple O hc c<|by simpa using q}
 |.list j,_,_,h,r=>by
  simp?[Rep]at h;let(a,k,rfl,S,R):=h;cases r;let(g,f,p,_):=I.list<|sm.seq S;let(o,O,hc,n,c):=p.isList;let(as,q):=oQ I sm R f;exact{_,.list O hc c<|by simpa using q}
 |.dict l,_,_,h,r=>by
  simp?[Rep]at h;let(a,m,rfl,e,dr):=h;cases r;let(_,_,o,y,P,O,x,c,E,_):=(show dX X.prog X.w H s.heap a (.dT m)from I.VH a _<|sm _ _ e)
  let(as,bs,Q,q2):=ua I sm dr;exact{_,.dict O x.1 c (by rw[E];exact Q) (by rw[E];exact q2)}
theorem oQ{pins:Γ (Ψ×Obj)}{σ:L2.St}{H HF:Hp}{s:Ξ}(I:Inv X pins σ H s)(sm:az HF H):∀{ds:Γ D}{vs:Γ V}{us:Γ Θ},ar X.K HF ds vs->aG vs us->∃as,ReadsAll s.heap us ds as
 |[],_,_,h,r=>by rw[h.nil_inv]at r;cases r;exact{_,.nil}
 |d::ds,_,_,h,r=>by
  let(v,c,rfl,a,b):=h.cons_inv;cases r with
  |cons r R =>
   let(as,q):=cY I sm a r;let(bs,p):=oQ I sm b R;exact{_,.cons q p}
end
def Rn(K:Φ)(g:D->D->Δ θ):R2:=λv a H Q=>∃F x y k,az F H/\Rep K F x v/\Rep K F y a/\g x y=↑k/\Q (.bl k) H
def lb{K:Φ}:fy K (Rn K g) (λx y=>(g x y).map PyData.bool):=by
 intro F H x y v a d Q sm r1 r G q;have G:(g x y).map PyData.bool=↑d:=G;cases e:g x y with
 |none=>rw[e]at G;cases G
 |some k=>rw[e]at G;cases G;exact{F,x,y,k,sm,r1,r,e,q _ H F (.refl sm)<|by simp[Rep]}
def Ra(x y:D):Δ θ:=if SeqAt.shaped x=true/\SeqAt.shaped y=true then↑(PyData.eqv x y)else none
def NH(x y:D):Δ θ:=if SeqAt.shaped x=true/\SeqAt.shaped y=true then↑(!PyData.eqv x y)else none
def wX(u:X.A.units+64<cLine):il X (compareOp .Eq) (Rn X.K Ra):=by
 intro p s f H v e U d Q I c Y h;let(F,x,y,k,sm,r1,r,g,q):=h;unfold Ra at g;split at g<;>cases g;rename_i a;let(S,R):=cY I sm r1 c;let(bs,b):=cY I sm r Y;exact eq_dataH R b a.1 a.2 u {.bl _,H,I,rfl,q}
def IZ(u:X.A.units+64<cLine):il X (compareOp .NotEq) (Rn X.K NH):=by
 intro p s f H v e U d Q I c Y h;let(F,x,y,k,sm,r1,r,g,q):=h;unfold NH at g;split at g<;>cases g;rename_i a;let(S,R):=cY I sm r1 c;let(bs,b):=cY I sm r Y;exact ne_dataH R b a.1 a.2 u {.bl _,H,I,rfl,q}
def items:D->Δ (Γ D)|.tuple d=>↑d|.list d=>↑d|_=>none
end
def Qf(K:Φ)(n:Nat)(m:Γ D->Δ D):Sp:=λS H Q _=>∃F s d,az F H/\cx K F/\ar K F s S/\s.length=n/\m s=↑d/\∀v a b,bc F H b a->Rep K b d v->Q v a
structure FB(P:Program)(w:World)(K:W.Frag)(mg:Str->Option Value)(base:Heap)(k:Nat)(x:Str)(n:Nat)(m:List D->Option D):Prop where
 ex:∃ (f:Ψ) (fd:η) (ps:Γ Str),dE P w K mg base tI k f fd ps (Qf K n m)/\mg x=↑(.ref f)/\W.keepIn K (.ref f)=true/\Binds K fd ps []
def FB.mono{K:Φ}(F:FB P w K mg base k x n m)(h:k<=j):FB P w K mg base j x n m:=by
 let(f,D,p,a,b,c,d):=F.ex;exact{f,D,p,a.mono h,b,c,d}
def aj(n:Nat)(m:Γ D->Δ D)(fs:Env->Δ (Γ D)):Env->Δ D:=λa=>(fs a).bind λd=>if d.length=n then m d else none
def LU(F:FB X.prog X.w X.K X.mg X.base k x n m)(R:bT k X.A)(u:Gl X x)(l:DA X (e::es) fs)(i:(x==("__debug__":Str))=false:=by decide)
  (t:starEach (e::es) X.env=(false,eval e X.env)::starEach es X.env:=by rfl)(W:(backTo pos<|starEach es X.env).any (·.1)=false:=by rfl):DE X (.Call (.Name x p) (e::es) [] pos) (aj n m fs):=by
 let(f,J,P,O,M,hk,B):=F.ex;refine aF (mH (E:=E0) O R u M hk B .nil o8 l i t W) λN H Q z=>?_;let(c,C,d,sm,o,a,q):=z;let(s,y,a):=bs a;split at a
 .rename_i L;exact{c,C,s,sm,o,y,λS I j G r1=>{j,s,d,G.fh,o.tb.mono G.ff,by rw[qF];exact r1,L,a,λv b D g r=>q v b D (G.trans g) r}}
 .cases a
def F5(K:Φ)(r:Γ V->Hp->VK->Prop)(g:Γ D->Δ D):Prop:=∀F H s S d Q,az F H->ar K F s S->g s=↑d->(∀v a b,bc F H b a->Rep K b d v->Q v a)->r S H Q
def cQ(g:Γ D->Δ D)(fs:Env->Δ (Γ D)):Env->Δ D:=λa=>(fs a).bind g
def QU{X:Cx}{fs:Env->Δ _}(hs:F5 X.K r g):∀σ H Q,tD X.K (cQ g fs) σ H Q->Su r (SX X.K fs) σ H Q:=λσ H Q z=>by
 let(F,j,d,sm,e,f,q):=z;let(s,x,f):=bs f;exact{F,j,s,sm,e,x,λS b c G r1=>hs c b s S d Q G.fh r1 f λv a D i=>q v a D<|G.trans i}
def M6(K:Φ)(r:Γ V->Hp->VK->Prop)(g:Γ D->Δ (Γ D)):Prop:=∀F H d s e Q,az F H->ar K F d s->g d=↑e ->
 (∀a u b v,bc F H v b->H a=none->v a=none->b a=↑(.lst u)->ar K v e u->Q (.ref a) b)->r s H Q
def r8(g:Γ D->Δ (Γ D))(fs:Env->Δ (Γ D)):Env->Δ (Γ D):=λa=>(fs a).bind g
def Ru{X:Cx}{fs:Env->Δ _}(hs:M6 X.K r g):∀σ H Q,tF X.K (r8 g fs) σ H Q->Su r (SX X.K fs) σ H Q:=λσ H Q z=>by
 let(e,k,d,sm,o,f,q):=z;let(s,x,f):=bs f;exact{e,k,s,sm,o,x,λS c v G r1=>hs v c s S d Q G.fh r1 f λa u b D i A F j=>q a u b D (G.trans i) (G.hh.free A) F j}
structure nC(X:Cx)(x:Str)(v:Value):Prop where
 gl:Gl X x
 mg:X.mg x=none
 bt:bootBuiltins x=↑v
def m9{id:String}(hc:gP X (.builtin id) r)(hs:F5 X.K r g)(B:nC X x (.builtin id))(a:DA X (e::es) fs)(n:x≠"__name__":=by decide)(v:(x==("__debug__":Str))=false:=by decide)
  (H:starEach (e::es) X.env=(false,eval e X.env)::starEach es X.env:=by rfl)(W:(backTo pos<|starEach es X.env).any (·.1)=false:=by rfl):DE X (.Call (.Name x p) (e::es) [] pos) (cQ g fs):=
 aF (kz hc B.gl B.mg B.bt a n v H W) (QU hs)
def IC{id:String}(hc:gP X (.builtin id) r)(hs:M6 X.K r g)(B:nC X x (.builtin id))(a:DA X (e::es) fs)(n:x≠"__name__":=by decide)(v:(x==("__debug__":Str))=false:=by decide)
  (H:starEach (e::es) X.env=(false,eval e X.env)::starEach es X.env:=by rfl)(W:(backTo pos<|starEach es X.env).any (·.1)=false:=by rfl):DF X (.Call (.Name x p) (e::es) [] pos) (r8 g fs):=
 aF (kz hc B.gl B.mg B.bt a n v H W) (Ru hs)
def Eu(hc:gP X (.type T) r)(hs:F5 X.K r g)(B:nC X x (.type T))(a:DA X (e::es) fs)(n:x≠"__name__":=by decide)(v:(x==("__debug__":Str))=false:=by decide)
  (H:starEach (e::es) X.env=(false,eval e X.env)::starEach es X.env:=by rfl)(W:(backTo pos<|starEach es X.env).any (·.1)=false:=by rfl):DE X (.Call (.Name x p) (e::es) [] pos) (cQ g fs):=
 aF (uD hc B.gl B.mg B.bt a n v H W) (QU hs)
def ix:D->Δ (Γ D)|.tuple d=>↑d|.list d=>↑d|_=>none
def oneOf:Γ D->Δ D|[d]=>↑d|_=>none
def ji(h:oneOf ds=↑d):ds=[d]:=by
 cases ds with
 |nil=>cases h
 |cons x r=>cases r with
  |nil=>cases h;rfl
  |cons _ _=>cases h
def l4(h:ix d=↑ds):d=.tuple ds\/d=.list ds:=by
 cases d<;>cases h
 .exact .inr rfl
 .exact .inl rfl
def g8:Γ D->Δ (Γ D):=λd=>(oneOf d).bind ix
def pj{ds es:Γ D}(h:g8 ds=↑es):ds=[.tuple es]\/ds=[.list es]:=by
 let(d,H,a):=bs h;rw[ji H];rcases l4 a with rfl|rfl
 .exact .inl rfl
 .exact .inr rfl
def cS:Γ D->Δ D:=λd=>(g8 d).map λe=>.int e.length
def ai{α c:Type}{x:Δ α}{f:α->c}{b:c}(h:x.map f=↑b):∃a,x=↑a/\f a=b:=by
 simp_all
def Mj{K:Φ}:F5 K (λxs H Q=>∃p ys,xs=[.ref p]/\(iw K H p ys\/gm K H p ys)/\Q (.int ys.length) H) cS:=by
 intro F H s S d Q sm r g q;let(e,c,rfl):=ai g;rcases pj c with rfl|rfl
 all_goals
  let(v,f,rfl,a,b):=r.cons_inv;rw[b.nil_inv];let(p,u,rfl,h,R):=a
 .exact{p,u,rfl,.inr<|aB sm h,q _ H F (.refl sm)<|by simp[Rep,R.length]}
 .exact{p,u,rfl,.inl<|sm.seq h,q _ H F (.refl sm)<|by simp[Rep,R.length]}
def ON(B:nC X "len" (.builtin "len"))(a:DA X [e] fs)(H:starEach [e] X.env=(false,eval e X.env)::starEach [] X.env:=by rfl):DE X (.Call (.Name "len" p) [e] [] pos) (cQ cS fs):=
 m9 mL Mj B a (by decide) (by rfl) H rfl
def eU{K:Φ}(h:HF l=none)(r:ar K HF ds vs):Rep K (upd HF l<|.tup vs) (.tuple ds) (.ref l):=by
 exact{l,vs,rfl,.inl<|.inl av,r.mono<|eJ h}
def Et{K:Φ}:F5 K (λxs H Q=>∃p ys,xs=[.ref p]/\((iw K H p ys/\∀l,H l=none->Q (.ref l) (upd H l<|.tup ys))\/(gm K H p ys/\Q (.ref p) H))) (λds=>(g8 ds).map PyData.tuple):=by
 intro F H ds s d Q sm r g q;let(e,c,rfl):=ai g;rcases pj c with rfl|rfl
 all_goals
  let(v,f,rfl,a,b):=r.cons_inv;rw[b.nil_inv];have A:=a;let(p,u,rfl,h,R):=a
 .exact{p,u,rfl,.inr {aB sm h,q _ H F (.refl sm) A}}
 .exact{p,u,rfl,.inl {sm.seq h,λl L=>q _ _ _ (.new sm L)<|eU (sm.free L) R}}
def GJ(B:nC X "tuple" (.type "tuple"))(a:DA X [e] fs)(H:starEach [e] X.env=(false,eval e X.env)::starEach [] X.env:=by rfl):DE X (.Call (.Name "tuple" p) [e] [] pos) (cQ (λds=>(g8 ds).map PyData.tuple) fs):=
 Eu tP Et B a (by decide) (by rfl) H rfl
def iV:D->String|.none=>"NoneType" | .bool _=>"bool" | .int _=>"int" | .str _=>"str" | .tuple _=>"tuple" | .list _=>"list" | .dict _=>"dict"
def vq(a b:String):Δ θ:=if((Value.type a)==(Value.type b))=true then↑true else if W.kitMeta b=true then(fastBuiltinMro a).map (·.contains (Value.type b))else none
def Mb:∀a∈["NoneType","bool","int","str","tuple","list"],vq a "int"=↑(a=="int"||a=="bool"):=by decide +kernel
def IX:∀a∈["NoneType","bool","int","str","tuple","list"],vq a "bool"=↑(a=="bool"):=by decide +kernel
def kit_tuple:∀a∈["NoneType","bool","int","str","tuple","list"],vq a "tuple"=↑(a=="tuple"):=by decide +kernel
def GP{A:ξ}{E:Θ->Ξ->Prop}(I:Inv X pins σ H s)(sm:az HF H)(r:Rep X.K HF d v)(R:RelV v u)
  (e:vq (iV d) T=↑k)(h:∀i,Q (.bool k) {s with toks:=i}):wpAny (model X.prog X.w) A (call (.builtin "isinstance") [u,.type T]) Q E s:=by
 have b:=e;cases d<;>simp?[Rep]at r
 .subst r;cases R;exact W.kia_one W.kitx_none I.WX True.intro b (nofun) h
 .subst r;cases R;exact W.kia_one W.kitx_bool I.WX True.intro b (nofun) h
 .subst r;let(t,rfl):=R;exact W.kia_one W.kitx_int I.WX True.intro b (nofun) h
 .subst r;let(t,rfl):=R;exact W.kia_one W.kitx_str I.WX True.intro b (nofun) h
 .let(a,j,rfl,S,g):=r;cases R;let(c,R,p,_):=I.list<|sm.seq S;let(o,O,hc,n,D):=p.isList;exact W.kia_one W.kitx_list I.WX {o,O,hc} b (nofun) h
 .let(a,j,rfl,S,g):=r;cases R;let(c,R,(o,O,hc,n,D),_):=I.tuple<|aB sm S;exact W.kia_one W.kitx_tuple I.WX {o,O,hc} b (nofun) h
 .let(a,l,rfl,f,_):=r;cases R;let(_,_,o,m,P,O,x,_):=(show dX X.prog X.w H s.heap a (.dT l)from I.VH a _<|sm _ _ f)
  exact W.kia_one W.kitx_dict I.WX {o,O,x.1} b (λz=>nomatch z) h
def OP(T:String)(f:Env->Δ D):Env->Δ D:=λa=>(f a).bind λd=>(vq (iV d) T).map PyData.bool
def Qm(B:nC X "isinstance" (.builtin "isinstance"))(C:nC X U (.type T))(h:DE X e f)(n:U≠"__name__":=by decide)(D:(U=="__debug__")=false:=by decide)
  (E:starEach [e,.Name U pT] X.env=(false,eval e X.env)::starEach [.Name U pT] X.env:=by rfl):DE X (.Call (.Name "isinstance" p) [e,.Name U pT] [] pos) (OP T f):=by
 have hc:gP X (.builtin "isinstance") (λS H Q=>∃F d v k,S=[v,.ty T]/\az F H/\Rep X.K F d v/\vq (iV d) T=↑k/\Q (.bl k) H):=by
  intro P s u H S y Q I r h;let(F,d,v,k,rfl,sm,j,hk,q):=h;cases r with
  |cons R l =>
   cases l with
   |cons i N =>
    cases N;cases i;exact GP I sm j R hk λw=>{.bl k,H,I.tok _,rfl,q}
 refine aF (kz hc B.gl B.mg B.bt (ba h (ba (KA (v:=.ty T) C.gl C.mg C.bt rfl n D) cf) E) (by decide) (by rfl) E rfl) λu H Q z=>?_;let(F,t,d,sm,o,a,q):=z;let(x,c,a):=bs a;let(k,hk,rfl):=ai a;exact{F,t,x,sm,o,c,λm b G g r1=>{G,x,m,k,rfl,g.fh,r1,hk,q _ b G g<|by rfl}}
def L7:D->D->Δ D
 |.tuple x,.tuple y=>(small<|x++y).map PyData.tuple
 |_,_=>none
def CJ(K:Φ):R2:=λx y H Q=>∃a b s Y,x=.ref a/\y=.ref b/\gm K H a s/\gm K H b Y/\s.length+Y.length<=sizeLine /\
 (s=[]->Q (.ref b) H)/\(Y=[]->Q (.ref a) H)/\(∀p,H p=none->Q (.ref p) (upd H p<|.tup<|s++Y))
def EH:il X (binaryOp .Add) (CJ X.K):=by
 intro P s F H x y v u Q I r R h;let(a,b,S,w,rfl,rfl,g,B,m,q0,t,q2):=h;by_cases f:S=[]
 .cases r;cases R;let(E,r1,q,_):=I.tuple g;let(W,G,p2,_):=I.tuple B;let((C,k,A,L),o,hc,n,i):=id q;let((j,D,d,z),Z,Y,N,c):=id p2;simp only at hc i Y c;subst hc i Y c;have e:E=[]:=(L2.aG.W5 r1).mpr f;exact wK {_,o,rfl} {_,Z,rfl} noFill_tuple_add seq_tuple_add vL vG (vD _ _)
   (tuple_addW0 a b E.toArray W.toArray n N k D L z<|by simp[e]) {o,Z,{.ref b,H,I,rfl,q0 f}}
 .exact Kl P s F H _ _ v u Q I r R {a,b,S,w,rfl,rfl,g,B,f,m,t,λ_ p l=>q2 p l}
def LZ{K:Φ}:fy K (CJ K) L7:=by
 intro F H x y k l d Q sm r1 c g q;cases x<;>cases y<;>simp?[L7]at g<;>try grind
 rename_i s Y;let(E,f,rfl):=ai g;let(rfl,z):=eV f;have r:=r1;have R:=c;let(a,v,rfl,i,A):=r1;let(b,u,rfl,j,B):=c;refine{a,b,v,u,rfl,rfl,aB sm i,aB sm j,by rw[A.length,B.length,<-zN];lia,λe=>?_,λe=>?_,λp P=>q _ _ _ (.new sm P)<|eU (sm.free P)<|A.append B}
 .have:s=[]:=by have:=A.length;grind
  subst this;exact q _ H F (.refl sm) R
 .have:Y=[]:=by have:=B.length;grind
  subst this;rw[qF]at q;exact q _ H F (.refl sm) r
structure tY(K:W.Frag)(J:It)(HF:Hp)(ds:List D):Prop where
 go:∀i d Wn VW,ds[i]?=↑d->az HF VW->az VW Wn->J.go i Wn/\∀x YH,J.yld i Wn x YH->∃abp,bc VW Wn abp YH/\Rep K abp d x
 stop:∀Wn VW,az HF VW->az VW Wn->J.stop ds.length Wn
def UF(K:Φ)(f:Env->Δ (Γ D)):TI:=λc H R=>∃F b d,az F H/\cu K F b c/\f b=↑d/\∀J a v,bc F H v a->tY K J v d->R J a
def DI(X:Cx)(tg iter:γ)(f:Env->Δ (Γ D)):Prop:=PI X tg iter<|UF X.K f
def D4{K:Φ}(h:iw K HF a vs)(r:ar K HF ds vs):tY K (SV K a) HF ds where
 go:=λi d n w e s S=>by
  let(v,H,R):=r.getD e;have q:=S.seq<|s.seq h;refine{{vs,v,q,H},λx Y ⟨E,y⟩=>{w,by rw[E];exact .refl S,?_}};have:=y vs q;rw[H]at this;cases this;exact R.mono s
 stop:=λn w s S=>{vs,S.seq<|s.seq h,by rw[r.length];apply yM}
def Hb{K:Φ}(h:gm K HF a vs)(r:ar K HF ds vs):tY K (TU K a) HF ds where
 go:=λi d n w e s S=>by
  let(v,H,R):=r.getD e;have q:=aB S<|aB s h;refine{{vs,v,q,H},λx Y ⟨E,y⟩=>{w,by rw[E];exact .refl S,?_}};have:=y vs q;rw[H]at this;cases this;exact R.mono s
 stop:=λn w s S=>{vs,aB S<|aB s h,by rw[r.length];apply yM}
def BK{K:Φ}{lo:Int}:tY K (Sh lo n) HF ((List.range n).map λi=>PyData.int<|lo+(i:Nat)) where
 go:=λi d w v e S s=>by
  rw[zO]at e;let(j,J,rfl):=ai e;let(I,H):=List.getElem?_eq_some_iff.mp J;have Y:=by simpa using I
  have:j=i:=by rw[<-H];simp
  subst this;exact{Y,λx y z=>by let(E,X):=z;exact {v,by rw[E];exact .refl s,by simp[Rep,X]}}
 stop:=λw v S s=>by
  show n<=_;simp
section
variable {X:Cx}{tg l e:γ}{f:Env->Δ D}{fs:Env->Δ (Γ D)}{pos p:Pos}
def v8(h:PI X tg l t)(i:∀σ H R,t' σ H R->t σ H R):PI X tg l t':=λp s σ H R I q=>h p s σ H R I<|i σ H R q
def O5(L:PE X l tl):PI X tg l (λσ H R=>tl σ H λx c=>∃a,x=.ref a/\((∃xs,iw X.K c a xs/\R (SV X.K a) c)\/∃xs,gm X.K c a xs/\R (TU X.K a) c)):=by
 refineλp s σ H R I h=>b0 (L p s σ H _ I h) λv S z=>?_;let(x,c,i,r1,d):=z;let(a,e,q):=d;subst e;cases r1;rcases q with ⟨xs,Q,q⟩|⟨xs,Q,q⟩
 .let(E,r,P,Z):=i.list Q;refine qK P.isList {S.heap.objs.size,[S.heap.objs.size],_,_,c,rfl,i.kept λb o=>zU _,EO a _,{_,zX _ rfl,rfl,rfl},λb B=>?_,q};cases List.mem_singleton.mp B;exact i.W8 (yM _) i.fresh
 .let(E,r,P,Z):=i.tuple Q;refine xR (P) {S.heap.objs.size,[S.heap.objs.size],_,_,c,rfl,i.kept λb o=>zU _,BU a _,{_,zX _ rfl,rfl,rfl},λb B=>?_,q};cases List.mem_singleton.mp B;exact i.W8 (yM _) i.fresh
def bw(f:Env->Δ D):Env->Δ (Γ D):=λa=>(f a).bind ix
def PL(h:DE X l f):DI X tg l (bw f):=v8 (O5 h) λk H R z=>by
 let(c,i,D,sm,e,F,q):=z;let(x,d,F):=bs F;refine{c,i,x,sm,e,d,λj b G g r1=>?_};rcases l4 F with rfl|rfl
 .let(a,v,rfl,s,r):=r1;exact{a,rfl,.inr {v,aB g.fh s,q _ b G g<|Hb s r}}
 .let(a,v,rfl,s,r):=r1;exact{a,rfl,.inl {v,g.fh.seq s,q _ b G g<|D4 s r}}
def FA(i:Int):θ:=decide (-(2^62)<=i)&&decide (i<2^62)
def lV:Γ D->Δ (Γ D)
 |[.int j]=>if FA j then↑((List.range j.toNat).map λi=>PyData.int ((i:Nat):Int))else none
 |_=>none
def zl(h:lV ds=↑es):∃j,ds=[.int j]/\FA j=true/\es=(List.range j.toNat).map λi=>PyData.int ((i:Nat):Int):=by
 unfold lV at h;split at h
 .split at h
  .cases h;exact{_,rfl,‹_›,rfl}
  .cases h
 .cases h
def dO(fs:Env->Δ (Γ D)):Env->Δ (Γ D):=λa=>(fs a).bind lV
def GV(B:nC X "range" (.type "range"))(h:DA X [e] fs)(hs:starEach [e] X.env=[(false,eval e X.env)]:=by rfl):DI X tg (.Call (.Name "range" p) [e] [] pos) (dO fs):=
 v8 (Fn B.gl B.mg h hs) λk H R z=>by
  let(F,i,s,sm,o,f,q):=z;let(x,d,f):=bs f;let(j,rfl,J,rfl):=zl f;refine{F,i,_,sm,o,d,λS c G g r1=>?_};let(v,r,rfl,a,b):=r1.cons_inv;rw[b.nil_inv];simp[Rep]at a;subst a;unfold FA at J;rw[zF]at J;refine{j,rfl,yQ J.1,yQ J.2,q _ c G g ?_};have:=BK (K:=X.K) (HF:=G) (lo:=0) (n:=j.toNat);simpa using this
def SC(K:Φ)(f:Env->D->Δ Env):TG:=λv e H Q=>∃F c d b,az F H/\cu K F c e/\Rep K F d v/\f c d=↑b/\∀a,cu K F b a->cu K F c a->Q a H
def DG(X:Cx)(tg:γ)(f:Env->D->Δ Env):Prop:=PG X tg<|SC X.K f
def vm(h:PG X tg t)(i:∀v σ H Q,t' v σ H Q->t v σ H Q):PG X tg t':=λp s σ H v u Q I r q=>h p s σ H v u Q I r<|i v σ H Q q
def isFree(ρ:Env)(i:Nat):θ:=((ρ[i]?).getD none).isNone
def pS{K:Φ}(o:cu K HF ρ σ)(r:Rep K HF d v):cu K HF (ρ.set i<|↑d) (σ.set i<|↑v):=by
 refine{λj e h=>?_,by rw[yC,yC];exact o.len,o.tb};rw[xI]at h ⊢;by_cases N:i=j
 .rw[yL N]at h ⊢;by_cases l:i<ρ.length
  .rw[yL l]at h;cases h;rw[yL<|zP l o.len];exact{v,rfl,r}
  .rw[yN l]at h;cases h
 .rw[yN N]at h ⊢;exact o.get j e h
def xx{K:Φ}(o:cu K HF ρ σ)(f:isFree ρ i=true):cu K HF ρ (σ.set i<|↑v):=by
 refine{λj e h=>?_,by rw[yC];exact o.len,o.tb};have N:i≠j:=by
  intro z;subst z;unfold isFree at f;rw[h]at f;cases f
 rw[xI,yN N];exact o.get j e h
def fG(i:Nat):Env->D->Δ Env:=λa d=>if isFree a i=true then↑(a.set i<|↑d)else none
def Lo(i:Nat)(n:X.N.Nodup)(hi:X.N[i]?=↑x)(a:Loc X.env.scope x)(f:X.fn x=true\/X.env.scope.names.lookup x=↑.local:=by first|exact .inl rfl|exact .inr rfl|assumption):DG X (.Name x pos) (fG i):=
 vm (lI n hi a f) λv g H Q z=>by
  let(F,c,d,b,sm,e,r,f,q):=z;unfold fG at f;split at f
  .cases f;exact q _ (pS e r)<|xx e ‹_›
  .cases f
def jx(i j:Nat):Env->D->Δ Env:=λa d=>match d with
 |.tuple [x,y]=>if isFree a i=true/\isFree a j=true then↑((a.set i<|↑x).set j<|↑y)else none
 |_=>none
def Pc(i j:Nat){px py:Pos}{k:Nat}(hc:X.calm=true)(n:X.N.Nodup)(hi:X.N[i]?=↑x)(l:Loc X.env.scope x)(J:X.N[j]?=↑y)(Y:Loc X.env.scope y)
  (f:X.fn x=true\/X.env.scope.names.lookup x=↑.local:=by first|exact .inl rfl|exact .inr rfl|assumption)(F:X.fn y=true\/X.env.scope.names.lookup y=↑.local:=by first|exact .inl rfl|exact .inr rfl|assumption) :
  DG X (.Tuple [.Name x px,.Name y py] k pos) (jx i j):=
 vm (Ig hc<|nF (lI n hi l f)<|nF (lI n J Y F) Dy) λv C H Q z=>by
  let(t,w,d,p,sm,e,r,f,q):=z;unfold jx at f;split at f
  .split at f
   .rename_i b;cases f;let(a,S,rfl,s,R):=r;let(m,r1,rfl,A,B):=R.cons_inv;let(o,u,rfl,c,g):=B.cons_inv;rw[g.nil_inv]at s;exact{a,_,rfl,aB sm s,rfl,m,_,rfl,o,_,rfl,rfl,q _ (pS (pS e A) c)<|xx (xx e b.1) b.2}
   .cases f
  .cases f
def d9(tgt:Env->D->Δ Env)(tt:Env->Δ θ)(te:Env->Δ D)(ρ:Env):Γ D->Δ (Γ D)
 |[]=>↑[]
 |d::s=>(tgt ρ d).bind λa=>(tt a).bind λb=>if b=true then(te a).bind λx=>(d9 tgt tt te ρ s).map (x::·)else d9 tgt tt te ρ s
def MX(X:Cx)(ifs:Γ γ)(f:Env->Δ θ):Prop:=Qc X ifs<|MH X.K f
def Lr:MX X [] (λ_=>↑true):=λp s a H Q I z=>by let(F,c,b,sm,e,f,q):=z;exact Kq p s a H Q I (by cases f;exact q H F<|.refl sm)
def LM(h:DT X c t):MX X [c] t:=JE h
def kh(t:Nat)(cs:Γ Nat)(σ:L2.St):L2.St:=List.replicate t none++cs.map λj=>(σ[j]?).getD none
def fQ(t:Nat)(cs:Γ Nat)(ρ:Env):Env:=List.replicate t none++cs.map λj=>(ρ[j]?).getD none
def Di{K:Φ}{cs:Γ Nat}(E:cu K HF ρ σ):cu K HF (fQ t cs ρ) (kh t cs σ):=by
 refine{λi d h=>?_,by simp[fQ,kh],E.tb};unfold fQ at h;unfold kh;by_cases H:i<t
 .rw[yS<|by simpa using H,yX,yL H]at h;cases h
 .rw[yT<|by simpa using H,zO,xM]at h;rw[yT<|by simpa using H,zO,xM];let(j,J,h):=ai h;rw[J];cases e:ρ[j]? with
  |none=>rw[e]at h;cases h
  |some o =>
   rw[e]at h;subst (h);let(v,a,b):=E.get j d e;exact{v,by show some ((σ[j]?).getD none)=_;rw[a];rfl,b}
def ax(t:Nat)(cs:Γ Nat)(fi:Env->Δ (Γ D))(tgt:Env->D->Δ Env)(tt:Env->Δ θ)(te:Env->Δ D):Env->Δ (Γ D):=λa=>(fi a).bind λd=>(d9 tgt tt te (fQ t cs a) d).bind small
variable {elt iter:γ}{ifs:Γ γ}{scope:ζ}{N:Γ Str}{t:Nat}{cs:Γ Nat}{fi:Env->Δ (Γ D)}{tgt:Env->D->Δ Env}{tt:Env->Δ θ}{te:Env->Δ D}
def Iq:∀σ H Q,tF X.K (ax t cs fi tgt tt te) σ H Q->Jb (UF X.K fi) (SC X.K tgt) (MH X.K tt) (tD X.K te) (kh t cs) σ H Q:=λσ H Q z=>by
 let(HF,W,O,sm,eo,F,q):=z;let(s,hx,F):=bs F;let(ajg,ho,F):=bs F;let(rfl,hz):=eV F;refine{HF,W,s,sm,eo,hx,λJ H1 M l it Dn I=>?_};refine⟨λi m p f=>m+i=s.length/\∃D S Y r,bc M H1 D f/\D Dn=none/\f Dn=↑(.lst Y)/\ar X.K D S Y/\cu X.K D (fQ t cs W) p/\d9 tgt tt te (fQ t cs W) (s.drop i)=↑r/\S++r=O,
  {s.length,rfl,M,[],[],O,.own l.fh I,(l.fh.free I:M Dn=none),av,ar.nil,(Di (t:=t) (cs:=cs)<|eo.mono l.ff),ho,rfl},?_⟩
 rintro i m p f ⟨hm,D,S,Y,r,G,k,a,R,P,hc,Z⟩;by_cases hi:i<s.length
 .refine .inr ?_;have hd:s.drop i=s[i]::s.drop (i+1):=vA hi;have he:s[i]?=↑_:=List.getElem?_eq_some_iff.mpr {hi,rfl};generalize s[i]=d at hd he;rw[hd]at hc;let(j,h1,hc):=bs hc;let(b,h2,hc):=bs hc;let(go,U):=it.go i d f D he G.ff G.fh;refine{go,λx H2 y=>?_};let(VU,c,rx):=U x H2 y;refine{VU,_,d,j,c.fh,P.mono c.ff,rx,h1,λX0 E T=>({VU,j,b,c.fh,E,h2,λH3 V9 g=>?_})};have N:∀w L,bc D f w L->w Dn=none:=λw L u=>by
   cases e4:w Dn with
   |none=>rfl
   |some o =>
    rcases u.nw Dn o e4 with z|z
    .rw[k]at z;cases z
    .rw[a]at z;cases z
  cases b with
  |false =>
   exact lJ {m-1,by lia,by lia,V9,S,Y,r,(G.trans c).trans g,N _ _<|c.trans g,(c.trans g).hh _ _ a,R.mono (c.trans g).ff,T.mono g.ff,by exact hc,Z}
  |true =>
   let(z,h3,hc):=bs hc;let(A,h4,rfl):=ai hc;refine mZ {V9,j,z,g.fh,E.mono g.ff,h3,λv L w u rv=>?_};have C:=(c.trans g).trans u;have n4:=N _ _ C;have n:Y.length<sizeLine:=by
    have e1:=R.length;have e2:O.length=S.length+(A.length+1):=by rw[<-Z];simp
    lia
   refine{Y,(C.hh _ _ a),n,m-1,by lia,by lia,w,S++[z],Y++[v],A,?_,n4,av,(R.mono C.ff).append<|ar.cons rv .nil,T.mono<|g.ff.trans u.ff,h4,by simp[<-Z]};have B:=G.trans C;refine{λb o e=>?_,B.ff,λb o e=>?_,B.nw}
   .rw[ak<|aM e I];exact B.hh b o e
   .rw[ak<|aM e n4];exact B.fh b o e
 .have Yh:i=s.length:=by lia
  subst Yh;rw[List.drop_length]at hc;cases hc;rw[qF]at Z;subst Z;exact .inl {it.stop f D G.ff G.fh,q Dn Y f D (l.trans G) (l.hh.free I) k a R}
def L4(hc:X.calm=true)(S:iQ X scope N (kh t cs))(hi:DI X tg iter fi)
  (Y:∀fp s H,DG (aW X scope N fp s H) tg tgt/\MX (aW X scope N fp s H) ifs tt/\DE (aW X scope N fp s H) elt te)
  (hs:∀x,foldedSetIterable iter X.env x=pure x:=by intro _;rfl):DF X (.ListComp elt [{tg,iter,ifs,0}] scope pos) (ax t cs fi tgt tt te):=aF (KD (g:=SC X.K tgt) (tt:=MH X.K tt) (te:=tD X.K te) hc S hi Y hs) Iq
end
set_option genInjectivity true in
inductive Slot where
 |VC|val (d:D)|own (ds:Γ D)|tab (ks:Γ (Γ Int))|obj (k:Nat)
abbrev ao:=Γ Slot
def Slot.all:Slot->Δ D|.VC=>none|.val d=>↑d|.own s=>↑(.list s)|.tab _=>none|.obj _=>none
def Slot.Wj:Slot->Δ D|.val d=>↑d|_=>none
def Slot.adu:Slot->Slot|.own d=>.val (.list d)|s=>s
def aI(ρ:ao):Env:=ρ.map Slot.all
def bD(ρ:ao):Env:=ρ.map Slot.Wj
def hand(fz:Γ Nat):Nat->ao->ao
 |_,[]=>[]
 |k,s::r=>(if fz.contains k=true then s.adu else s)::hand fz (k+1) r
def ft(fz:Γ Nat):∀ρ k i,(hand fz k ρ)[i]?=(ρ[i]?).map λs=>if fz.contains (k+i)=true then s.adu else s
 |[],k,i=>by rfl
 |s::r,k,0=>by rfl
 |s::r,k,i+1=>by
  simp?[hand,yY];rw[ft fz r _ i,Nat.add_assoc,Nat.add_comm 1 i]
def AK(fz:Γ Nat):∀ρ k,(hand fz k ρ).length=ρ.length
 |[],k=>rfl
 |s::r,k=>by simp[hand,AK fz r _]
def Sa(K:Φ)(HF:Hp)(xs:Γ (Γ tN×Ψ×Θ)):Prop:=∀x∈xs,∃n:Γ Int,x.1=n.map Sum.inl/\gm K HF x.2.1 (n.map V.int)
def Sa.mono{K:Φ}{xs:Γ _}(h:Sa K HF xs)(s:az HF VD):Sa K VD xs:=λx H=>let ⟨n,a,b⟩:=h x H;{n,a,aB s b}
structure Hq where
 h:Hp
 ad:Nat->Ψ
instance:CoeFun Hq λ_=>Ψ->Δ HO:={Hq.h}
instance:Coe Hq Hp:={Hq.h}
structure gS(K:W.Frag)(VA:Hp)(VB:Hq)(HF H:Hp)(ρ:ao)(σ:L2.St):Prop where
 gr:bc VA VB HF H
 val:∀(i:Nat)(d:D),ρ[i]?=↑(.val d)->∃v,σ[i]?=↑(↑v)/\Rep K HF d v
 own:∀(i:Nat)(ds:Γ D),ρ[i]?=↑(.own ds)->∃a vs,σ[i]?=↑(↑(.ref a))/\H a=↑(.lst vs)/\HF a=none/\VB a=none/\ar K HF ds vs
 inj:∀(i j:Nat)(ds es:Γ D)(a:Ψ),ρ[i]?=↑(.own ds)->ρ[j]?=↑(.own es)->σ[i]?=↑(↑(.ref a))->σ[j]?=↑(↑(.ref a))->i=j
 len:ρ.length<=σ.length
 tb:cx K HF
 tab:∀(i:Nat)(ks:Γ (Γ Int)),ρ[i]?=↑(.tab ks)->∃a V8,σ[i]?=↑(↑(.ref a))/\H a=↑(.dT V8)/\HF a=none/\VB a=none/\V8.map (·.1)=ks.map (·.map Sum.inl)/\Sa K HF V8
 one:∀(i j:Nat)(ks ls:Γ (Γ Int)),ρ[i]?=↑(.tab ks)->ρ[j]?=↑(.tab ls)->i=j
 ob:∀(i k:Nat),ρ[i]?=↑(.obj k)->σ[i]?=↑(↑(.ref<|VB.ad k))
section
variable {K:Φ}
def gS.all(S:gS K VA VB HF H ρ σ):cu K H (aI ρ) σ:=by
 refine{λi d h=>?_,by simpa [aI]using S.len,S.tb.mono S.gr.fh};rw[aI,zO]at h;let(s,c,h):=ai h;cases s with
 |VC=>cases h
 |val e=>cases h;let(v,a,b):=S.val i _ c;exact{v,a,b.mono S.gr.fh}
 |own D =>
  cases h;let(a,j,E,f,l,_,g):=S.own i D c;exact{.ref a,E,by exact{a,j,rfl,.of f,g.mono S.gr.fh}}
 |tab k=>cases h
 |obj k=>cases h
def gS.Wj(S:gS K VA VB HF H ρ σ):cu K HF (bD ρ) σ:=by
 refine{λi d h=>?_,by simpa [bD]using S.len,S.tb};unfold bD at h;rw[zO]at h;let(s,a,h):=ai h;cases s with
 |VC=>cases h
 |val e=>cases h;exact S.val i _ a
 |own D=>cases h
 |tab k=>cases h
 |obj k=>cases h
def bc.Wa(g:bc HF H VD H')(b:HF a=none)(E:H a=↑u):VD a=none:=by
 cases e:VD a with
 |none=>rfl
 |some o =>
  rcases g.nw a o e with z|z<;>grind
def gS.grow(S:gS K VA VB HF H ρ σ)(g:bc HF H VD H'):gS K VA VB VD H' ρ σ where
 gr:=S.gr.trans g
 val:=λi d h=>let ⟨v,a,b⟩:=S.val i d h;{v,a,b.mono g.ff}
 own:=λi s h=>by
  let(a,m,c,e,f,j,E):=S.own i s h;exact{a,m,c,g.hh _ _ e,g.Wa f e,j,E.mono g.ff}
 inj:=S.inj
 len:=S.len
 tb:=S.tb.mono g.ff
 tab:=λi l h=>by
  let(a,k,c,e,f,j,E):=S.tab i l h;exact{a,k,c,g.hh _ _ e,g.Wa f e,j,E.1,E.2.mono g.ff}
 one:=S.one
 ob:=S.ob
def gS.step(S:gS K VA VB HF H ρ σ)(g:az H H'):gS K VA VB HF H' ρ σ:=S.grow {g,.refl _,S.gr.fh.trans g,λ_ _=>.inl}
def rF{ρ:ao}{fz:Γ Nat}{i:Nat}{k:Γ _}(h:(Dl.hand fz 0 ρ)[i]?=↑(Slot.tab k)):ρ[i]?=↑(Slot.tab k):=by
 rw[ft]at h;let(s,H,h):=ai h;cases s<;>(split at h<;>cases h)<;>exact H
def Hx{ρ:ao}{fz:Γ Nat}{i k:Nat}(h:(Dl.hand fz 0 ρ)[i]?=↑(Slot.obj k)):ρ[i]?=↑(Slot.obj k):=by
 rw[ft]at h;let(s,H,h):=ai h;cases s<;>(split at h<;>cases h)<;>exact H
def gS.hand(S:gS K VA VB HF H ρ σ)(fz:Γ Nat):∃G,az HF G/\gS K VA VB G H (hand fz 0 ρ) σ:=by
 let P:Ψ->Prop:=λa=>∃i D,fz.contains i=true/\ρ[i]?=↑(.own D)/\σ[i]?=↑(↑(.ref a));have C:=Classical.propDecidable;let G:Hp:=λa=>if P a then H a else HF a
 have w:∀a,P a->HF a=none/\VB a=none:=λa z=>by
  let(i,D,_,c,f):=z;let(A,u,E,m,q,r,n):=S.own i D c;rw[f]at E;cases E;exact{q,r}
 have p:az HF G:=λb o e=>by
  show(if P b then H b else HF b)=↑o;by_cases h:P b
  .rw[(w b h).1]at e;cases e
  .rw[yN h];exact e
 have B:az G H:=λb o e=>by
  have e:(if P b then H b else HF b)=↑o:=e;by_cases h:P b
  .rw[yL h]at e;exact e
  .rw[yN h]at e;exact S.gr.fh b o e
 refine{G,p,{S.gr.hh,S.gr.ff.trans p,B,λb o e=>?_},λi d h=>?_,λi D h=>?_,λi j D t a c f=>?_,by rw[AK];exact S.len,S.tb.mono p,λi g h=>?_,λi j g L c f=>S.one i j g L (rF c)<|rF f,λi k h=>S.ob i k<|Hx h}
 .have e:(if P b then H b else HF b)=↑o:=e;by_cases h:P b
  .exact .inr (w b h).2
  .rw[yN h]at e;exact S.gr.nw b o e
 .rw[ft]at h;let(s,l,h):=ai h;rw[jC]at h;cases s with
  |VC=>split at h<;>cases h
  |tab g=>split at h<;>cases h
  |obj g=>split at h<;>cases h
  |val e =>
   have:Slot.val e=Slot.val d:=by split at h<;>exact h
   cases this;let(v,a,b):=S.val i _ l;exact{v,a,b.mono p}
  |own D =>
   split at h
   .rename_i hc;cases h;let(a,u,E,m,q,r,n):=S.own i D l;refine{.ref a,E,?_};simp?[Rep];refine{a,u,rfl,.inl<|.inl ?_,n.mono p};show(if P a then H a else HF a)=_;rw[yL {i,D,hc,l,E}];exact m
   .cases h
 .rw[ft]at h;let(s,l,h):=ai h;rw[jC]at h;cases s with
  |VC=>split at h<;>cases h
  |tab g=>split at h<;>cases h
  |obj g=>split at h<;>cases h
  |val e=>split at h<;>cases h
  |own t =>
   split at h
   .cases h
   .rename_i hc;cases h;let(a,u,E,m,q,r,n):=S.own i D l;refine{a,u,E,m,?_,r,n.mono p};show(if P a then H a else HF a)=none;rw[yN ?_]
    .exact q
    .rintro⟨j,t,J,c,f⟩;have:=S.inj i j D t a l c E f;subst this;exact hc J
 .rw[ft]at c f;let(s,l,c):=ai c;let(y,X,f):=ai f;rw[jC]at c f;cases s with
  |VC=>split at c<;>cases c
  |tab g=>split at c<;>cases c
  |obj g=>split at c<;>cases c
  |val e=>split at c<;>cases c
  |own F =>
   cases y with
   |VC=>split at f<;>cases f
   |tab g=>split at f<;>cases f
   |obj g=>split at f<;>cases f
   |val e=>split at f<;>cases f
   |own Y=>exact S.inj i j _ _ a l X
 .let(a,x,E,m,q,r,n):=S.tab i g<|rF h;refine{a,x,E,m,?_,r,n.1,n.2.mono p};show(if P a then H a else HF a)=none;rw[yN ?_]
  .exact q
  .rintro⟨j,t,J,c,f⟩;let(A,u,f1,f2,_):=S.own j t c;rw[f]at f1;cases f1;rw[m]at f2;cases f2
def gS.XM(S:gS K VA VB HF H ρ σ)(r:Rep K HF d v):gS K VA VB HF H (ρ.set i<|.val d) (σ.set i<|↑v):=by
 have n:∀{j:Nat}{s:Slot},(ρ.set i<|.val d)[j]?=↑s->(∀e,s≠.val e)->i≠j/\ρ[j]?=↑s:=λ{j s}h m=>by
  rw[xI]at h;by_cases N:i=j
  .rw[yL N]at h;split at h
   .cases h;exact absurd rfl (m _)
   .cases h
  .rw[yN N]at h;exact⟨N,h⟩
 refine{S.gr,λj e h=>?_,λj D h=>?_,λj k D E a b c g l=>?_,by rw[yC,yC];exact S.len,S.tb,λj f h=>?_,λj k f o b c=>S.one j k f o (n b λe z=>by cases z).2 (n c λe z=>by cases z).2,λj k h=>by rw[xI,yN (n h λe z=>by cases z).1];exact S.ob j k (n h λe z=>by cases z).2}
 .rw[xI]at h ⊢;by_cases N:i=j
  .rw[yL N]at h ⊢;split at h
   .rename_i L;cases h;rw[yL<|zP L S.len];exact{v,rfl,r}
   .cases h
  .rw[yN N]at h ⊢;exact S.val j e h
 .let(N,h):=n h λe z=>by cases z
  rw[xI,yN N];exact S.own j D h
 .let(p,b):=n b λe z=>by cases z
  let(q,c):=n c λe z=>by cases z
  rw[xI,yN p]at g;rw[xI,yN q]at l;exact S.inj j k D E a b c g l
 .let(N,h):=n h λe z=>by cases z
  rw[xI,yN N];exact S.tab j f h
def gS.afM(S:gS K VA VB HF H ρ σ)(hs:az H H')(g:H' a=↑(.lst vs))(l:HF a=none)(m:VB a=none)(r:ar K HF ds vs)
  (F:∀j es,i≠j->ρ[j]?=↑(.own es)->σ[j]?≠some (↑(.ref a))):gS K VA VB HF H' (ρ.set i<|.own ds) (σ.set i<|↑(.ref a)):=by
 have S:=S.step hs;have o:∀{j k:Nat},(ρ.set i<|.own ds)[j]?=↑(.obj k)->i≠j/\ρ[j]?=↑_:=λ{j k}h=>by
  rw[xI]at h;by_cases N:i=j
  .rw[yL N]at h;split at h<;>cases h
  .rw[yN N]at h;exact⟨N,h⟩
 have n:∀{j:Nat}{s:Γ _},(ρ.set i<|.own ds)[j]?=↑(.tab s)->i≠j/\ρ[j]?=↑_:=λ{j s}h=>by
  rw[xI]at h;by_cases N:i=j
  .rw[yL N]at h;split at h<;>cases h
  .rw[yN N]at h;exact⟨N,h⟩
 refine{S.gr,λj e h=>?_,λj es h=>?_,λj k x y b d f E c=>?_,by rw[yC,yC];exact S.len,S.tb,λj s h=>by rw[xI,yN (n h).1];exact S.tab j s (n h).2,λj k s p g l=>S.one j k s p (n g).2 (n l).2,λj k h=>by rw[xI,yN (o h).1];exact S.ob j k (o h).2}
 .rw[xI]at h ⊢;by_cases N:i=j
  .rw[yL N]at h;split at h<;>cases h
  .rw[yN N]at h ⊢;exact S.val j e h
 .rw[xI]at h ⊢;by_cases N:i=j
  .rw[yL N]at h ⊢;split at h
   .rename_i L;cases h;rw[yL<|zP L S.len];exact{a,vs,rfl,g,l,m,r}
   .cases h
  .rw[yN N]at h ⊢;exact S.own j es h
 .rw[xI]at d f E c;by_cases N:i=j
  .by_cases X:i=k
   .exact N.symm.trans X
   .rw[yL N]at d E;rw[yN X]at f c;split at E
    .cases E;exact absurd c<|F k y X f
    .cases E
  .by_cases X:i=k
   .rw[yN N]at d E;rw[yL X]at f c;split at c
    .cases c;exact absurd E<|F j x N d
    .cases c
   .rw[yN N]at d E;rw[yN X]at f c;exact S.inj j k x y b d f E c
end
set_option genInjectivity true in
inductive Out where
 |nx (ρ:ao)|rt (d:D)
def DN(K:Φ)(VA:Hp)(VB:Hq)(HF:Hp)(E:Ends):Out->Prop
 |.nx b=>∀a H D,gS K VA VB D H b a->az HF D->E.nx a H
 |.rt d=>∀v H D,bc VA VB D H->Rep K D d v->E.rt v H
def tS(K:Φ)(VA:Hp)(VB:Hq)(g:ao->Δ Out):TS:=λE b H=>∃F a o,gS K VA VB F H a b/\g a=↑o/\DN K VA VB F E o
def DS(X:Cx)(VA:Hp)(VB:Hq)(st:Ω)(g:ao->Δ Out):Prop:=PS X st<|tS X.K VA VB g
def Fx(X:Cx)(VA:Hp)(VB:Hq)(st:Γ Ω)(g:ao->Δ Out):Prop:=qb X st<|tS X.K VA VB g
section
variable {X:Cx}{VA:Hp}{VB:Hq}{st:Ω}{rest:Γ Ω}{g g1 g2:ao->Δ Out}{e:γ}{pos:Pos}
def bL(h:PS X st t)(i:∀E σ H,t' E σ H->t E σ H):PS X st t':=λp s σ H E I q=>h p s σ H E I<|i E σ H q
def fZ(h:qb X rest t)(i:∀E σ H,t' E σ H->t E σ H):qb X rest t':=λp s σ H E I q=>h p s σ H E I<|i E σ H q
def l8:ao->Δ Out:=λa=>↑(.nx a)
def aH(g1 g2:ao->Δ Out):ao->Δ Out:=λb=>(g1 b).bind fun|.nx a=>g2 a|.rt d=>↑(.rt d)
def DN.mono{K:Φ}(s:az HF VD)(h:DN K VA VB HF E o):DN K VA VB VD E o:=by
 cases o with
 |nx c=>exactλa H U S b=>h a H U S (s.trans b)
 |rt d=>exact h
def J6:Fx X VA VB [] l8:=fZ ll λE a H z=>by let(F,b,o,S,g,q):=z;cases g;exact q a H F S<|.refl _
def Az(c:DS X VA VB st g1)(e:Fx X VA VB rest g2):Fx X VA VB (st::rest) (aH g1 g2):=fZ (et c e) λE k H z=>by
 let(F,f,o,S,g,q):=z;let(o1,h,g):=bs g;refine{F,f,o1,S,h,?_};cases o1 with
 |nx a=>exactλi j D b s=>{D,a,o,b,g,q.mono s}
 |rt d=>cases g;exact q
def C2(H:DS X VA VB st g1):Fx X VA VB [st] g1:=pQ H
def pL(t:Env->Δ θ)(g1 g2:ao->Δ Out):ao->Δ Out:=λa=>(t<|aI a).bind λb=>if b=true then g1 a else g2 a
def MZ(hc:DT X c t)(A:Fx X VA VB a g1)(B:Fx X VA VB b g2):DS X VA VB (.If c a b pos) (pL t g1 g2):=bL (uJ hc A B) λE f H z=>by
 let(F,d,o,S,g,q):=z;let(b,h,g):=bs g;refine{H,aI d,b,.refl _,S.all,h,λe D G=>?_};cases b with
 |true=>exact mZ {F,d,o,S.step G.hh,g,q}
 |false=>exact lJ {F,d,o,S.step G.hh,g,q}
def zv:∀ρ k n,k+ρ.length<=n->bD (hand (List.range n) k ρ)=aI ρ
 |[],k,n,h=>rfl
 |s::r,k,n,h=>by
  have i:=zv r (k+1) n (by grind);unfold bD aI at i ⊢;rw[hand,yL (show(List.range n).contains k=true by grind),zI,zI,i];cases s<;>rfl
def bC(f:Env->Δ D):ao->Δ Out:=λa=>(f<|aI a).map Out.rt
def Il(h:DE X e f):DS X VA VB (.Return (↑e) pos) (bC f):=bL (rq h) λE j H z=>by
 let(F,a,o,S,c,q):=z;let(d,h,rfl):=ai c;let(g,i,s):=S.hand _;refine{g,aI a,d,s.gr.fh,?_,h,λv b D G=>q v b D<|s.gr.trans G};have:=s.Wj;rw[zv a 0 a.length<|by lia]at this;lia
def kg:D->θ|.none=>true|.bool _=>true|.int _=>true|.str _=>true|_=>false
def rf{K:Φ}(h:kg d=true)(r:Rep K HF d v):Rep K VD d v:=by
 cases d<;>cases h<;>(simp[Rep]at r ⊢;lia)
mutual
def j3:D->θ
 |.tuple d=>vb d
 |.list _=>false
 |.dict _=>false
 |_=>true
def vb:Γ D->θ
 |[]=>true
 |d::s=>j3 d&&vb s
end
mutual
theorem ym{K:Φ}{H b:Hp}(ht:∀a xs,gm K H a xs->gm K b a xs):∀{d:D}{v:V},j3 d=true->Rep K H d v->Rep K b d v
 |.none,_,_,r=>by simp?[Rep]at r ⊢;exact r
 |.bool _,_,_,r=>by simp?[Rep]at r ⊢;exact r
 |.int _,_,_,r=>by simp?[Rep]at r ⊢;exact r
 |.str _,_,_,r=>by simp?[Rep]at r ⊢;exact r
 |.tuple S,v,h,r=>by
  simp?[j3]at h;simp?[Rep]at r ⊢;let(a,s,e,q,R):=r;exact{a,s,e,ht _ _ q,uw ht h R}
 |.list _,_,h,_=>by simp[j3]at h
 |.dict _,_,h,_=>by simp[j3]at h
theorem uw{K:Φ}{H c:Hp}(ht:∀a xs,gm K H a xs->gm K c a xs):∀{ds:Γ D}{vs:Γ V},vb ds=true->ar K H ds vs->ar K c ds vs
 |[],_,_,r=>by simp?[ar]at r ⊢;exact r
 |d::ds,vs,h,r=>by
  simp?[vb,zF]at h;simp?[ar]at r ⊢;let(v,R,e,a,b):=r;exact{v,R,e,ym ht h.1 a,uw ht h.2 b}
end
def gS.back{K:Φ}(S:gS K VA VB HF H ρ σ)(y:gS K VA VB VG H ρ1 σ)(J:az HF VG)(G:bc VG H VD H'):∃U,az HF U/\gS K VA VB U H' ρ σ/\(∀d v,j3 d=true->Rep K VD d v->Rep K U d v)/\∀b o,U b=↑o->VD b=↑o:=by
 have L:=Classical.propDecidable;let O:Ψ->Prop:=λa=>(∃ (i:Nat) (j:Γ D),ρ[i]?=↑(Slot.own j)/\σ[i]?=↑(↑(V.ref a)))\/∃ (i:Nat) (k:Γ (Γ Int)),ρ[i]?=↑(Slot.tab k)/\σ[i]?=↑(↑(V.ref a));let U:Hp:=λa=>if O a then none else VD a
 have x:∀a,O a->HF a=none/\((∃s,H a=↑(.lst s))\/∃f,H a=↑(.dT f)):=λa z=>by
  rcases z with ⟨i,j,t,g⟩|⟨i,k,t,g⟩
  .let(C,s,E,c,l,_,_):=S.own i j t;rw[g]at E;cases E;exact{l,.inl ⟨s,c⟩}
  .let(C,f,E,c,l,_,_):=S.tab i k t;rw[g]at E;cases E;exact{l,.inr ⟨f,c⟩}
 have g:∀a,¬O a->U a=VD a:=λa n=>yN n;have u:∀a,O a->U a=none:=λa n=>yL n;have A:az HF U:=λb o e=>by
  have I:¬O b:=λz=>by rw[(x b z).1]at e;cases e
  rw[g b I];exact G.ff b o<|J b o e
 have B:∀b o,U b=↑o->VD b=↑o:=λb o e=>by
  by_cases z:O b
  .rw[u b z]at e;cases e
  .rwa [g b z]at e
 have w:=y.gr.trans G;refine{U,A,{{w.hh,S.gr.ff.trans A,λb o e=>G.fh b o<|B b o e,λb o e=>w.nw b o<|B b o e},λi d h=>?_,λi j h=>?_,S.inj,S.len,S.tb.mono A,λi k h=>?_,S.one,S.ob},λd v F=>ym (λa X q=>?_) F,B}
 .let(v,E,r):=S.val i d h;exact{v,E,r.mono A}
 .let(a,s,E,c,l,p,m):=S.own i j h;exact{a,s,E,G.hh _ _ c,u a<|.inl ⟨i,j,h,E⟩,p,m.mono A}
 .let(a,f,E,c,l,p,m):=S.tab i k h;exact{a,f,E,G.hh _ _ c,u a<|.inr ⟨i,k,h,E⟩,p,m.1,m.2.mono A}
 .have N:∀o,VD a=↑o->(∀s,o≠.lst s)->(∀f,o≠.dT f)->U a=↑o:=λo e Z pR=>by
   by_cases z:O a
   .rcases (x a z).2 with ⟨s,c⟩|⟨s,c⟩
    .have:=G.hh _ _ c;rw[G.fh a o e]at this;cases this;exact absurd rfl (Z s)
    .have:=G.hh _ _ c;rw[G.fh a o e]at this;cases this;exact absurd rfl (pR s)
   .rw[g a z];exact e
  rcases q with (q|⟨o,q⟩)|q
  .exact .inl<|.inl<|N _ q (λs z=>by cases z) λs z=>by cases z
  .exact .inl<|.inr {o,N _ q (λs z=>by cases z) λs z=>by cases z}
  .exact .inr q
def aL(i:Nat)(fz:Γ Nat)(f:Env->Δ D):ao->Δ Out:=λa=>(f<|aI a).bind λd=>if kg d=true then↑(.nx<|a.set i<|.val d)else(f<|bD<|hand fz 0 a).map λb=>.nx<|(if j3 b=true then a else hand fz 0 a).set i<|.val b
def Qk:∀E σ H,tS X.K VA VB (aL i fz f) E σ H->Gn (tD X.K f) (yr i) E σ H:=λE σ H z=>by
 let(F,p,o,S,g,q):=z;let(d,h,g):=bs g;split at g
 .rename_i l;cases g;exact{H,aI p,d,.refl _,S.all,h,λv a b G r=>q _ a F ((S.step G.hh).XM<|rf l r)<|.refl _}
 .let(D,k,rfl):=ai g;let(j,c,s):=S.hand fz;refine{j,_,D,s.gr.fh,s.Wj,k,λv a b G r=>?_};by_cases n:j3 D=true
  .rw[yL n]at q;let(U,m,e,B,_):=S.back s c G;exact q _ a U (e.XM<|B D v n r) m
  .rw[yN n]at q;exact q _ a b ((s.grow G).XM r)<|c.trans G.ff
def NT(i:Nat)(fz:Γ Nat)(H:X.N.Nodup)(hi:X.N[i]?=↑x)(a:Loc X.env.scope x)(E:DE X e f)(hs:swapsWith e (↑(.Name x pos')) pos.line X.env=pure false:=by rfl)
  (F:X.fn x=true\/X.env.scope.names.lookup x=↑.local:=by first|exact .inl rfl|exact .inr rfl|assumption):DS X VA VB (.Assign [.Name x pos'] e pos) (aL i fz f):=bL (oK H hi a E hs F) Qk
def bb(i:Nat)(fz:Γ Nat)(f:Env->Δ (Γ D)):ao->Δ Out:=λa=>(f<|bD<|hand fz 0 a).map λd=>.nx<|(hand fz 0 a).set i<|.own d
def IL:∀E σ H,tS X.K VA VB (bb i fz f) E σ H->Gn (tF X.K f) (yr i) E σ H:=λE σ H z=>by
 let(m,w,o,S,k,q):=z;let(d,h,rfl):=ai k;let(v,l,s):=S.hand fz;refine{v,_,d,s.gr.fh,s.Wj,h,λa t c D G A F g r=>q _ c D ((s.grow G).afM (.refl _) g F (s.gr.hh.free A) r λj e _ J z=>?_)<|l.trans G.ff};let(b,u,n,p,_):=s.own j e J
 grind
def Ml(i:Nat)(fz:Γ Nat)(H:X.N.Nodup)(hi:X.N[i]?=↑x)(a:Loc X.env.scope x)(E:DF X e f)(hs:swapsWith e (↑(.Name x pos')) pos.line X.env=pure false:=by rfl)
  (F:X.fn x=true\/X.env.scope.names.lookup x=↑.local:=by first|exact .inl rfl|exact .inr rfl|assumption):DS X VA VB (.Assign [.Name x pos'] e pos) (bb i fz f):=bL (oK H hi a E hs F) IL
def JC(i:Nat)(fz:Γ Nat){cs:Γ Nat}
  (hc:X.calm=true)(S:iQ X scope N (kh t cs))(hi:DI X tg iter fi)
  (b:∀fp s H,DG (aW X scope N fp s H) tg tgt/\MX (aW X scope N fp s H) ifs tt/\DE (aW X scope N fp s H) elt te)
  (n:X.N.Nodup)(Y:X.N[i]?=↑y)(c:X.env.scope.names.lookup y=↑.local)
  (w:swapsWith (.ListComp elt [{tg,iter,ifs,0}] scope pos) (↑(.Name y py)) U.line X.env=pure true)
  (hs:∀x,foldedSetIterable iter X.env x=pure x:=by intro _;rfl):DS X VA VB (.Assign [.Name y py] (.ListComp elt [{tg,iter,ifs,0}] scope pos) U) (bb i fz<|ax t cs fi tgt tt te):=
 bL (J4 (g:=SC X.K tgt) (tt:=MH X.K tt) (te:=tD X.K te) hc S hi b n Y c w hs) λE a H q=>by
  have:=IL E a H q;exact Iq a H _ this
def U3(K:Φ)(VA:Hp)(VB:Hq)(f:ao->D->Δ ao):TG:=λv e H Q=>∃F c d a,gS K VA VB F H c e/\Rep K F d v/\f c d=↑a/\∀b,gS K VA VB F H a b->Q b H
def OX(X:Cx)(VA:Hp)(VB:Hq)(tg:γ)(f:ao->D->Δ ao):Prop:=PG X tg<|U3 X.K VA VB f
def AA(i:Nat):ao->D->Δ ao:=λa d=>↑(a.set i<|.val d)
def FO(i:Nat)(n:X.N.Nodup)(hi:X.N[i]?=↑x)(a:Loc X.env.scope x)(f:X.fn x=true\/X.env.scope.names.lookup x=↑.local:=by first|exact .inl rfl|exact .inr rfl|assumption):OX X VA VB (.Name x pos) (AA i):=
 vm (lI n hi a f) λv e H Q z=>by let(F,c,d,b,S,r,f,q):=z;cases f;exact q _<|S.XM r
def js(i j:Nat):ao->D->Δ ao:=λa d=>match d with
 |.tuple [x,y]=>↑((a.set i<|.val x).set j<|.val y)
 |_=>none
def LH(i j:Nat){px py:Pos}{k:Nat}(hc:X.calm=true)(n:X.N.Nodup)(hi:X.N[i]?=↑x)(e:Loc X.env.scope x)(J:X.N[j]?=↑y)(Y:Loc X.env.scope y)
  (f:X.fn x=true\/X.env.scope.names.lookup x=↑.local:=by first|exact .inl rfl|exact .inr rfl|assumption)(F:X.fn y=true\/X.env.scope.names.lookup y=↑.local:=by first|exact .inl rfl|exact .inr rfl|assumption) :
  OX X VA VB (.Tuple [.Name x px,.Name y py] k pos) (js i j):=
 vm (Ig hc<|nF (lI n hi e f)<|nF (lI n J Y F) Dy) λv w H Q z=>by
  let(o,u,d,m,S,r,f,q):=z;unfold js at f;split at f
  .cases f;let(a,t,rfl,s,R):=r;let(g,r1,rfl,A,B):=R.cons_inv;let(l,p,rfl,b,c):=B.cons_inv;rw[c.nil_inv]at s;exact{a,_,rfl,aB S.gr.fh s,rfl,g,_,rfl,l,_,rfl,rfl,q _<|(S.XM A).XM b}
  .cases f
def fv(tgt:ao->D->Δ ao)(gb:ao->Δ Out):Γ D->ao->Δ Out
 |[],a=>↑(.nx a)
 |d::s,a=>(tgt a d).bind λb=>(gb b).bind fun|.nx W=>fv tgt gb s W|.rt v=>↑(.rt v)
def iz(fz:Γ Nat)(fi:Env->Δ (Γ D))(tgt:ao->D->Δ ao)(gb:ao->Δ Out):ao->Δ Out:=λa=>(fi<|bD<|hand fz 0 a).bind λd=>fv tgt gb d<|hand fz 0 a
def Od(fz:Γ Nat)(hp:PassesOwn (model X.prog X.w) X.A X.env X.xe)(hc:X.calm=true)(hi:DI X tg iter fi)(g:OX X VA VB tg tgt)(Z:Fx X VA VB body gb)
  (hs:∀x,foldedSetIterable iter X.env x=pure x:=by intro _;rfl):DS X VA VB (.For tg iter body [] pos) (iz fz fi tgt gb):=bL (Hs hp hc hi g Z hs) λE σ H z=>by
 let(HF,ρ,o,S,g,q):=z;let(s,h,g):=bs g;let(I,s1,p):=S.hand fz;refine{I,_,s,p.gr.fh,p.Wj,h,λJ H2 U G it=>({λi m b c=>m+i=s.length/\∃D a,gS X.K VA VB D c a b/\az U D/\fv tgt gb (s.drop i) a=↑o,{s.length,rfl,U,_,p.grow G,.refl _,g},?_})};rintro i m b c ⟨hm,D,a,k,n,f⟩;by_cases hi:i<s.length
 .refine .inr ?_;have u:=vA hi;have B:=List.getElem?_eq_some_iff.mpr {hi,rfl};generalize s[i]=d at u B;rw[u]at f;let(e,R,f):=bs f;let(o1,T,f):=bs f;let(Q,Y):=it.go i d c D B n k.gr.fh;refine{Q,λr j=>∃v l,gS X.K VA VB v j l r/\az U v/\fv tgt gb _ l=↑o,λr j z=>by let(v,l,N,O,P):=z;exact {m-1,by lia,by lia,v,l,N,O,P},λx j y=>?_};let(v,t,rx):=Y x j y;refine{v,a,d,e,k.grow t,rx,R,λr C=>{v,e,o1,C,T,?_}};cases o1 with
  |nx W=>exactλσ4 H4 L F s4=>{L,W,F,(n.trans t.ff).trans s4,f}
  |rt d=>cases f;exact q
 .have M:i=s.length:=by lia
  subst M;rw[List.drop_length]at f;cases f;exact .inl {it.stop c D n k.gr.fh,q b c D k<|(s1.trans G.ff).trans n}
end
def La(X:Cx)(sc:ζ):Prop:=∀x k,sc.names.lookup x=↑k->X.env.kindOf x=↑k\/(k=.free/\X.env.kindOf x=↑.cell)
structure Bk(X:Cx)(N:List Str)(sc:Scope)(k:Nat):Prop where
 n:X.N=N
 nd:N.Nodup
 tb:La X sc
 calm:X.calm=true
 fn:∀x,sc.names.lookup x=↑.cell->X.fn x=true
 room:bT k X.A
 xe:X.xe=λ_ _=>False
 kd:X.env.scope.kind=.function
def df:Γ Str:=["len","isinstance","int","bool","tuple","list","range","all","any","set","sorted","enumerate","zip","sum","min","max","reversed","abs","dict","str","type","iter","next"]
def Bn(X:Cx):Prop:=∀x∈df,X.mg x=none
def yi(sc:ζ)(x:Str):θ:=decide (sc.names.lookup x=↑.globalImplicit)
def fR(N:Γ Str)(sc:ζ)(i:Nat)(x:Str):θ:=decide (N[i]?=↑x)&&(decide (sc.names.lookup x=↑.local)||decide (sc.names.lookup x=↑.cell)||decide (sc.names.lookup x=↑.free))&&!(x==("__debug__":Str))&&!(x==("__classdict__":Str))
def nQ(N:Γ Str)(sc:ζ)(i:Nat)(x:Str):θ:=decide (N[i]?=↑x)&&(decide (sc.names.lookup x=↑.local)||decide (sc.names.lookup x=↑.cell))
def Bk.gl(C:Bk X N sc k)(h:yi sc x=true):Gl X x:=by
 rcases C.tb x _ (yQ h)with q|⟨q,_⟩
 .exact q
 .cases q
def Bk.W9(C:Bk X N sc k)(h:fR N sc i x=true):X.N[i]?=↑x/\nW X.env.scope x/\(x==("__debug__":Str))=false/\(x==("__classdict__":Str))=false:=by
 unfold fR at h;simp?[zF,jA,zJ,yP]at h;let(((a,H),b),c):=h;refine{by rw[C.n];exact a,?_,b,c};rcases H with (H|H)|H
 .rcases C.tb x _ H with q|⟨q,_⟩
  .exact .inl q
  .cases q
 .rcases C.tb x _ H with q|⟨q,_⟩
  .exact .inr<|.inl q
  .cases q
 .rcases C.tb x _ H with q|⟨_,q⟩
  .exact .inr<|.inr q
  .exact .inr<|.inl q
def Bk.loc(C:Bk X N sc k)(h:nQ N sc i x=true):X.N.Nodup/\X.N[i]?=↑x/\Loc X.env.scope x/\(X.fn x=true\/X.env.scope.names.lookup x=↑.local):=by
 unfold nQ at h;simp  at h;let(a,H):=h;refine{by rw[C.n];exact C.nd,by rw[C.n];lia,?_};rcases H with H|H
 .rcases C.tb x _ H with q|⟨q,_⟩
  .exact{.inl q,.inr q}
  .cases q
 .rcases C.tb x _ H with q|⟨q,_⟩
  .exact{.inr q,.inl<|C.fn x H}
  .cases q
def Bk.blt(C:Bk X N sc k)(B:Bn X)(h:yi sc x=true)(m:x∈df)(H:bootBuiltins x=↑v):nC X x v:={C.gl h,B x m,H}
def Bk.v(C:Bk X N sc k)(i:Nat)(h:fR N sc i x=true):DE X (.Name x pos) (ae i):=let ⟨a,b,c,d⟩:=C.W9 h;PY i a b c d
def Bk.pass(C:Bk X N sc k):PassesOwn (model X.prog X.w) X.A X.env X.xe:=by rw[C.xe];exact PassesOwn.never
def kj(sc scope:ζ)(N n:Γ Str)(t:Nat)(cs:Γ Nat):θ:=
 decide (scope.kind=.function)&&scope.names.all (λp=>(!decide (p.2=NameKind.free)||decide (sc.names.lookup p.1=↑.cell)||decide (sc.names.lookup p.1=↑.free))&&(!decide (p.2=NameKind.local)||decide (scope.names.lookup p.1=↑.local)))
  &&scope.names.all (λp=>!decide (p.2=NameKind.cell)||!scope.names.any λq=>decide (q.1=p.1)&&decide (q.2=NameKind.free))
  &&decide (n.length=t+cs.length)&&decide (n.drop t=cs.filterMap λj=>N[j]?)&&cs.all (λj=>decide (j<N.length))&&(n.drop t).all (λx=>decide (scope.names.lookup x=↑.free))&&decide n.Nodup
def filterMap_get(N:Γ α):∀(cs:Γ Nat),(∀j∈cs,j<N.length)->∀(i:Nat),(cs.filterMap λj=>N[j]?)[i]?=(cs[i]?).bind λj=>N[j]?
 |[],_,i=>by rfl
 |c::cs,h,i=>by
  rw[jF,zK<|h c zE];cases i with
  |zero=>simp
  |succ i =>
   exact filterMap_get N cs (λj H=>h j<|zC _ H) i
def Bk.comp(C:Bk X N sc k){cs:Γ Nat}(h:kj sc scope N U t cs=true):iQ X scope U (kh t cs)/\∀fp s H,Bk (aW X scope U fp s H) U scope k:=by
 unfold kj at h;simp?[zF,zJ,xG,jA,yP,xB]at h;obtain⟨⟨⟨⟨⟨⟨⟨f,g⟩,p⟩,r⟩,u⟩,w⟩,y⟩,A⟩:=h;refine{{f,λx c hk=>?_,λ{x}a b=>?_,λx c hk=>?_,λl i x v m E=>?_,λl=>?_},λfp s H=>{rfl,A,λx k c=>oA c,C.calm,λx c=>yA c,C.room,rfl,f}}
 .rcases (g x c).1 with (q|q)|q
  .exact absurd hk q
  .rcases C.tb _ _ q with z|⟨z,_⟩
   .exact .inl z
   .cases z
  .rcases C.tb _ _ q with z|⟨_,z⟩
   .exact .inr z
   .exact .inl z
 .rcases p _ a with q|q
  .exact q rfl
  .have:(scope.names.any λq=>decide (q.1=x)&&decide (q.2=NameKind.free))=true:=List.any_eq_true.mpr {_,b,by simp};rw[this]at q;cases q
 .rcases (g x c).2 with q|q
  .exact absurd hk q
  .exact q
 .unfold kh at E;by_cases I:i<t
  .rw[yS<|by simpa using I,yX,yL I]at E;cases E
  .rw[yT<|by simpa using I,zO,xM]at E;let(j,J,E):=ai E;have d:(U.drop t)[i-t]?=↑x:=by rw[List.getElem?_drop];rw[show t+(i-t)=i by lia];exact m
   refine{y x<|qB d,j,?_,?_}
   .rw[u,filterMap_get N cs w,J]at d;rw[C.n];exact d
   .cases e:l[j]? with
    |none=>rw[e]at E;cases E
    |some o=>rw[e]at E;have E:o=↑v:=E;rw[E]
 .unfold kh;rw[zN,xM,zD,r]
def bF(g:ao->Δ Out)(n:Nat)(args:Γ D):Δ D:=(g<|args.map Slot.val++List.replicate (n-args.length) .VC).map fun|.rt d=>d|.nx _=>.none
def vy{ds:Γ D}{n i:Nat}{k:Γ (Γ Int)}:¬(ds.map Slot.val++List.replicate n .VC)[i]?=↑(.tab k):=λh=>by
 rcases List.mem_append.mp (qB h)with z|z
 .let(d,_,e):=List.mem_map.mp z;cases e
 .cases List.eq_of_mem_replicate z
def HZ{ds:Γ D}{n i:Nat}{k:Nat}:¬(ds.map Slot.val++List.replicate n .VC)[i]?=↑(.obj k):=λh=>by
 rcases List.mem_append.mp (qB h)with z|z
 .let(d,_,e):=List.mem_map.mp z;cases e
 .cases List.eq_of_mem_replicate z
def Qy{K:Φ}{st:Ω}(F:yg K x qual st f fd)(S:aY N ps (ah st))
  (body:∀X ,X.prog=P->X.w=w->X.K=K->X.mg=mg->X.base=base->Bk X N (ah st) k->X.env.code=fd.code->X.env.qual=qual++".<locals>."->∀VA VB,Fx X VA VB (aP st) g):dE P w K mg base tI (k+1) f fd ps (Qf K ps.length<|bF g N.length):=by
 let(oc,od,kV,C,pm,an,VY,ct,XJ,rfl,Y,u):=F.ex;refine tT Y u S (λvs H Q E z=>by let(m,b,d,h1,_,J,L,_):=z;rw[J.length,L]) λA r s H vs Q E M z=>?_;let(m,b,d,sm,tb,R,hl,c,q):=z;refine{_,(body _ rfl rfl rfl rfl rfl {rfl,S.nd,λy kd=>.inl,rfl,λ_ _=>rfl,M,rfl,S.kind} rfl rfl m {H,λ_=>0}).V0,?_};let(o,O,c):=ai c;refine{m,_,o,{.refl sm,λi e h=>?_,λi B h=>?_,λi j B fs a h=>?_,?_,tb,λi U h=>absurd h vy,λi j U ls h=>absurd h vy,λi k h=>absurd h HZ},O,?_}
 .have I:i<b.length:=by
   by_cases I:i<b.length
   .exact I
   .rw[yT<|by simpa using I,yX]at h;split at h<;>cases h
  rw[yS<|by grind,zO]at h;let(p,D,h):=ai h;cases h;let(v,T,Z):=R.getD D;refine{v,?_,Z};rw[L2.start,yS<|by simpa [R.length]using I,zO,T];rfl
 .by_cases I:i<b.length
  .rw[yS<|by simpa using I,zO]at h;let(p,D,h):=ai h;cases h
  .rw[yT<|by simpa using I,yX]at h;split at h<;>cases h
 .by_cases I:i<b.length
  .rw[yS<|by simpa using I,zO]at h;let(p,D,h):=ai h;cases h
  .rw[yT<|by simpa using I,yX]at h;split at h<;>cases h
 .rw[L2.start,zN,zN,zD,zD,xM,xM,R.length];apply yM
 .cases o with
  |rt p=>cases c;exactλv l n G=>q v l n G
  |nx ρ'=>cases c;exactλσ' l n t _=>q _ l n t.gr (by rfl)
def UB{K:Φ}{st:Ω}(F:yg K x qual st f fd)(S:aY N ps (ah st))(b:Binds K fd ps [])(m:mg x=↑(.ref f))
  (body:∀X ,X.prog=P->X.w=w->X.K=K->X.mg=mg->X.base=base->Bk X N (ah st) k->X.env.code=fd.code->X.env.qual=qual++".<locals>."->∀VA VB,Fx X VA VB (aP st) g):FB P w K mg base (k+1) x ps.length (bF g N.length):={f,fd,ps,Qy F S body,m,F.kp,b}
def lM(fz:Γ Nat)(f:Env->Δ D)(ρ:ao):Δ (D×ao):=(f<|aI ρ).bind λd=>if kg d=true then↑(d,ρ)else(f<|bD<|hand fz 0 ρ).map λa=>(a,hand fz 0 ρ)
def oF{K:Φ}(S:gS K VA VB HF H ρ σ)(h:lM fz f ρ=↑(d,ρ'))
  (q:∀v H' VD,az HF VD->gS K VA VB VD H' ρ' σ->az H H'->Rep K VD d v->Q v H'):tD K f σ H Q:=by
 let(D,a,h):=bs h;split at h
 .rename_i c;cases h;exact{H,aI ρ,d,.refl _,S.all,a,λv H' VD G r=>q v H' HF (.refl _) (S.step G.hh) G.hh<|rf c r}
 .let(i,b,h):=ai h;cases h;let(g,e,s):=S.hand fz;exact{g,_,d,s.gr.fh,s.Wj,b,λv H' VD G=>q v H' VD (e.trans G.ff) (s.grow G) G.hh}
def oN(i:Nat)(m:Γ D->Δ (Γ D))(ρ:ao):Δ Out:=match ρ[i]? with
 |some (.own d)=>(m d).map λe=>.nx (ρ.set i<|.own e)
 |_=>none
def iC(h:oN i m ρ=↑o):∃ds es,ρ[i]?=↑(.own ds)/\m ds=↑es/\o=.nx (ρ.set i<|.own es):=by
 unfold oN at h;split at h
 .rename_i ds d;let(es,H,a):=ai h;exact{ds,es,d,H,a.symm}
 .cases h
def gS.mut{K:Φ}(S:gS K VA VB HF H ρ σ)(h:ρ[i]?=↑(.own ds))(A:σ[i]?=↑(↑(.ref a)))(M:H a=↑(.lst vs))(r:ar K HF es us) :
  gS K VA VB HF (upd H a<|.lst us) (ρ.set i<|.own es) σ:=by
 let(F,B,E,l,c,f,I):=S.own i ds h;rw[A]at E;cases E;have w:∀{j k:Nat},(ρ.set i<|.own es)[j]?=↑(.obj k)->i≠j/\ρ[j]?=↑_:=λ{j k}h=>by
  rw[xI]at h;by_cases N:i=j
  .rw[yL N]at h;split at h<;>cases h
  .rw[yN N]at h;exact⟨N,h⟩
 have n:∀{j:Nat}{s:Γ _},(ρ.set i<|.own es)[j]?=↑(.tab s)->ρ[j]?=↑_:=λ{j s}h=>by
  rw[xI]at h;by_cases N:i=j
  .rw[yL N]at h;split at h<;>cases h
  .rw[yN N]at h;exact h
 refine{{λb o e=>by rw[ak<|aM e f];exact S.gr.hh b o e,S.gr.ff,λb o e=>by rw[ak<|aM e c];exact S.gr.fh b o e,S.gr.nw},λj d J=>?_,λj x J=>?_,λj k x Y b f1 f2 f3 f4=>?_,by rw[yC];exact S.len,S.tb,λj s J=>?_,λj k s L t u=>S.one j k s L (n t)<|n u,λj k h=>S.ob j k (w h).2}
 .rw[xI]at J;by_cases N:i=j
  .rw[yL N]at J;split at J<;>cases J
  .rw[yN N]at J;exact S.val j d J
 .rw[xI]at J;by_cases N:i=j
  .subst N;rw[yL rfl,yL<|(List.getElem?_eq_some_iff.mp h).1]at J;cases J;exact{a,us,A,av,c,f,r}
  .rw[yN N]at J;let(b,C,f1,f2,f3,f5,f4):=S.own j x J;refine{b,C,f1,?_,f3,f5,f4};rw[ak]
   .lia
   .rintro rfl;exact N<|S.inj i j ds x b h J A f1
 .have O:∀{j:Nat}{x:Γ D},(ρ.set i<|.own es)[j]?=↑_->∃Y,ρ[j]?=↑(.own Y):=λ{j x}J=>by
   rw[xI]at J;by_cases N:i=j
   .subst N;exact⟨ds,h⟩
   .rw[yN N]at J;exact⟨x,J⟩
  let(X,G):=O f1;let(y,g):=O f2;exact S.inj j k X y b G g f3 f4
 .let(b,v,G,g,m,q,p):=S.tab j s<|n J;refine{b,v,G,?_,m,q,p};rw[ak λz=>by rw[z,l]at g;cases g];exact g
def jq(i:Nat)(fz:Γ Nat)(f:Env->Δ D):ao->Δ Out:=λa=>(lM fz f a).bind λp=>oN i (λd=>if d.length<sizeLine then↑(d++[p.1])else none) p.2
def ER(i:Nat)(fz:Γ Nat)(t:X.N[i]?=↑x)(w:nW X.env.scope x)(h:DE X e f)(u:(x==("__debug__":Str))=false:=by decide)(R:(x==("__classdict__":Str))=false:=by decide)
  (W:((backTo cpos<|starEach [e] X.env).all (λx=>!x.1)&&(backToKw cpos<|keywordEach [] X.env).all (λx=>x.1.isSome)&&decide ([e].length+([]:Γ Keyword).length+(if([]:Γ Keyword).isEmpty then 0 else 1)<30))=true:=by rfl)
  (I:(apos.endLine==cpos.line)=true:=by rfl)(hs:starEach [e] X.env=(false,eval e X.env)::starEach [] X.env:=by rfl) :
  DS X VA VB (.Expr (.Call (.Attribute (.Name x px) "append" apos) [e] [] cpos) pos) (jq i fz f):=
 bL (iW<|ni qM PySem.F.slot_list_append PySem.F.type_list_append oE (bQ t w u R) (ba h cf hs) rfl W I hs rfl) λE K H z=>by
  let(M,C,o,S,G,q):=z;let((d,J),c,G):=bs G;let(m,es,b,j,rfl):=iC G;have Y:∃D,C[i]?=↑(.own D):=by
   let(P,_,c):=bs c;split at c
   .cases c;exact⟨m,b⟩
   .let(Q,_,c):=ai c;cases c;rw[ft]at b;let(s,hs,b):=ai b;cases s with
    |VC=>split at b<;>cases b
    |tab _=>split at b<;>cases b
    |obj _=>split at b<;>cases b
    |val _=>split at b<;>cases b
    |own B=>exact{B,hs}
  let(D,Y):=Y;let(a,A,g,p,T,e5,U):=S.own i D Y;refine{.ref a,g,.inl {rfl,A,iw.of p},oF S c λv L n y l sh r=>?_};let(O,k,f1,f2,f3,f5,f4):=l.own i m b;rw[g]at f1;cases f1;split at j
  .rename_i Z;cases j;exact{a,k,v,rfl,rfl,f2,by rw[f4.length];exact Z,q K _ n (l.mut b g f2<|f4.append<|ar.cons r ar.nil) y}
  .cases j
def uX(K:Φ)(o:Obj):Δ (Ψ×Str):=match o.data with
 |.func f=>if ka.contains f.qualname=true then(match f.code with
   |.ref c=>(match K.lookup c with
    |some ⟨_,_,.fields v,_⟩=>(match(v[11]?:Δ Θ)with
     |some (.ref P)=>if W.codeHdIn K c P=true then↑(P,f.qualname++".<locals>."++"<lambda>")else none
     |_=>none)
    |_=>none)
   |_=>none)else none
 |_=>none
def ig(K:Φ):Γ (Ψ×Str):=K.filterMap λp=>uX K p.2
def nz(K:Φ)(ts:Γ Ψ):θ:=(ig K).all λp=>ts.contains p.1&&(K.lookup p.1).isNone&&decide ((ig K).lookup p.1=↑p.2)
def zr{K:Φ}(h:uX K o=↑(P,q)):∃c,W.codeHdIn K c P=true:=by
 unfold uX at h;split at h
 .split at h
  .split at h
   .split at h
    .split at h
     .split at h
      .cases h;exact{_,‹_›}
      .cases h
     .cases h
    .cases h
   .cases h
  .cases h
 .cases h
def za{K:Φ}(h:(P,q)∈ig K):∃c,W.codeHdIn K c P=true:=by
 let(p,_,e):=List.mem_filterMap.mp h;exact zr e
def B8{K:Φ}(a:K.lookup f=↑{oc,od,.func fd,sl})(b:fd.qualname∈ka)(d:fd.code=.ref c)(e:W.codeHdIn K c P=true) :
  (P,fd.qualname++".<locals>."++"<lambda>")∈ig K:=by
 refine List.mem_filterMap.mpr {(f,_),W.mem_of_lookupK a,?_};have E:=e;unfold W.codeHdIn at E;unfold uX;simp?[d,List.contains_iff_mem,b,xH];split at E
 .rename_i S s l;simp?[l];simp?[zF]at E;have g:=E.1.1.1.1.1;split at g
  .rename_i p v;have:p=P:=by simpa using g
   subst this;simp?[v,e,xH]
  .cases g
 .cases E
def FD:∀{l:Γ (Ψ×α)},l.lookup b=↑q->(b,q)∈l
 |[],e=>by cases e
 | (c,x)::r,e=>by
  rw[yB]at e;cases h:b==c with
  |true=>rw[h]at e;cases e;rw[eq_of_beq h];exact zE
  |false=>rw[h]at e;exact zC _<|FD e
def jz(K:Φ)(H:Hp):Hp:=λb=>match(ig K).lookup b with|some q=>↑(.tab q)|none=>H b
def Ec{K:Φ}(h:nz K ts=true):cx K (jz K h0):=λf o O F s c P a b d e=>by
 have:=List.all_eq_true.mp h _<|B8 a b d e;simp?[zF,zJ]at this;unfold jz;rw[this.2]
def D9{w:δ}{K:Φ}{CX:JH}{k:Nat}{fa:Ψ}{fd:η}{sp:Sp}{vs:Γ Θ}{ns:Γ Int}
  (X:K.In U.heap)(X2:U.heap.Ns mainGlobals mg)(B:U.heap.Ns builtinsNs mb)(M:∀x:Str,x≠"__name__"->mb x=bootBuiltins x)(I:U.heap.NoLimit)(O:Sj mg U.heap)(hg:U.gens=#[])
  (ht:nz K ts=true)(Z:∀P∈ts,U.heap.get? P=↑(W.tabObj #[]))
  (A:U.heap.get? a=some {cls:=.type "list",data:=.seq vs.toArray})(hi:IntsAre vs ns)(hl:ns.length<=sizeLine)(hr:bT k callerA)
  (F:∀base:ι,K.In base->base.Ns mainGlobals mg->dE P w K mg base CX k fa fd [x] sp)(G:∀(s:Ξ)(u:Θ),BindsTo s fd {[u],[]} [(x,u)])
  (Y:∀H:Hp,cx K H->iw K H a (ns.map V.int)->sp [.ref a] H (λv _=>v=.bl true) λ_ _ _=>False)
  (L:∀H e s',CX [] H U (λ_ _ _=>False) e s'->False) :
  codeAny (model P w) callerA (.call (.ref fa) {[.ref a],[]}) (λr s'=>r=.ok (.ret<|.bool true)/\OldK U.heap s'.heap/\s'.os=U.os/\AllBare s'.gens) U:=by
 have rv:=tU hi;have R:=hi.length;have T:∀b q,(ig K).lookup b=↑q->U.heap.get? b=↑(W.tabObj #[])/\K.lookup b=none/\∃c,W.CodeHd U.heap c b:=λb q e=>by
  have hm:=FD e;have:=List.all_eq_true.mp ht _ hm;simp?[zF,zJ,List.contains_iff_mem,Option.isNone_iff_eq_none]at this;let(c,hc):=za hm;exact{Z b this.1.1,this.1.2,c,W.codeHd_of_K X hc}
 have aT:(ig K).lookup a=none:=by
  cases e:(ig K).lookup a with
  |none=>rfl
  |some q=>have:=(T a q e).1;rw[A]at this;cases this
 have C:∀f:Hp,iw K (jz K f) a (ns.map V.int)->mV P w (jz K f) U.heap->(∀b,f b≠none->b=a)->(f a≠none->K.lookup a=none)->(∀b,f b=none\/∃o xs,f b=↑(.Wj o<|.lst xs)) ->
   codeAny (model P w) callerA (.call (.ref fa) {[.ref a],[]}) (λr s'=>r=.ok (.ret<|.bool true)/\OldK U.heap s'.heap/\s'.os=U.os/\AllBare s'.gens) U:=by
  intro f hS VH hA hK hO;have l:∀b u,jz K f b=↑u->(∃q,(ig K).lookup b=↑q/\u=.tab q)\/(b=a/\f b=↑u):=λb u e=>by
   unfold jz at e;split at e
   .rename_i q j;cases e;exact .inl {q,j,rfl}
   .exact .inr {hA b (by rw[e];simp),e}
  have D:∀{b:Ψ}{o:Obj},U.heap.get? b=↑o->jz K f b=none->(EJ U.heap _).get? b=↑o:=λe=>Hf e;have p:∀{b:Ψ}{o:Obj},U.heap.get? b=↑o->(∀vs n,o.data≠.seq vs n)->(∀vs,o.data≠.fields vs)->jz K f b=none:=λ{b o}e d d2=>by
   cases q:jz K f b with
   |none=>rfl
   |some u =>
    rcases l b u q with ⟨Q,z,_⟩|⟨z,_⟩
    .rw[(T b Q z).1]at e;cases e;exact absurd rfl (d2 _)
    .subst z;rw[A]at e;cases e;exact absurd rfl (d _ _)
  have N:∀{b:Ψ}{m:Str->Δ Θ},U.heap.Ns b m->(EJ U.heap _).Ns b m:=λ{b m}z=>by let(o,es,ep,e,d,r):=z;exact {o,es,ep,D e<|p e (λ_ _ z=>by grind) λ_ z=>by grind,d,r}
  have g:=λb o e=>D (X b o e) (by
   cases q:jz K f b with
   |none=>rfl
   |some u =>
    rcases l b u q with ⟨Q,z,_⟩|⟨z,z2⟩
    .rw[(T b Q z).2.1]at e;cases e
    .subst z;rw[hK (by rw[z2];simp)]at e;cases e)
  have hM:Mod K mg _:=⟨g,N X2,{mb,N B,M},let ⟨mc,h1,h2⟩:=I;{mc,N h1,h2},
   let ⟨bm,o,b1,b2,b3,b4,b5,b6,b7⟩:=O;{bm,o,b1,b2,b3,D b4<|p b4 (λ_ _ z=>by grind) λ_ z=>by grind,b5,b6,b7}⟩
  have e0:tH P w K mg _ callerA [] U _:={rfl,hM,λb o=>MA,Nat.le_of_eq<|D2 _ _,trivial,nofun,VH,.of_eq hg}
  refine jR ((F _ g<|N X2).run callerA [] U _ _ _ [.ref a] _ _ hr e0 (G U _) (.cons rfl .nil)<|Y _ (Ec ht) hS) λr s' h=>?_;cases r with
  |error e=>exact(L _ e s' h).elim
  |ok fl =>
   cases fl with
   |next=>exact False.elim h
   |brk=>exact False.elim h
   |cont=>exact False.elim h
   |ret u =>
    let(v,H',os,E,un,J,r',q):=h;have Q:=q;subst Q;obtain rfl:u=Value.bool true:=r';have y:∀b o,U.heap.get? b=↑o->s'.heap.get? b=↑o\/(isCodeTable U.heap b/\o=W.tabObj _/\∃S,s'.heap.get? b=↑(W.tabObj S)):=λb o e=>by
     cases q:jz K f b with
     |none=>exact .inl (un.keep b o e q (by intro z;exact absurd (show b∈[]from z)<|by simp)<|by simp)
     |some u =>
      rcases l b u q with ⟨Q,z,rfl⟩|⟨z,z2⟩
      .let(t1,_,c,t3):=T b Q z;let(more,m1):=un.Wx.gr b Q #[] q t1;rw[e]at t1;cases t1;exact .inr {(t3.tab e).isCodeTable,rfl,_,m1}
      .rcases hO b with z3|⟨ob,xs,z3⟩
       .rw[z2]at z3;cases z3
       .rw[z2]at z3;cases z3;let(e1,_):=VH b _ q;let(e2,_):=J b _<|un.WJ b ob _ q;rw[e]at e1;cases e1;exact .inl e2
    refine{rfl,{λb o e=>?_,λb o e=>?_},os,E}
    .rcases y b o e with z|⟨t,rfl,S,z⟩
     .exact .inl z
     .exact .inr<|.inl {t,rfl,#[],S,rfl,by rw[Array.empty_append];exact z}
    .rcases y b o e with z|⟨_,_,S,z⟩
     .exact⟨o,z⟩
     .exact{_,z}
 have i:∀f b q,(ig K).lookup b=↑q->dX P w (jz K f) U.heap b (.tab q):=λf b q e=>{#[],(T b q e).1,trivial,λpos v z=>by cases z}
 cases hk:K.lookup a with
 |some o =>
  have e:=X a o hk;rw[A]at e;cases e;refine C _ (.inr {_,vs.toArray,_,hk,rfl,rfl,rfl,by rw[zH,R];exact hl,by exact rv}) (λb u z=>?_) (λb z=>absurd rfl z) (λz=>absurd rfl z) λ_=>.inl rfl;unfold jz at z;split at z
  .rename_i q j;cases z;exact i _ b q j
  .cases z
 |none =>
  refine C (λb=>if b=a then↑(.Wj {cls:=.type "list",data:=.seq vs.toArray}<|.lst<|ns.map V.int)else none) (.inl<|.inr {{cls:=.type "list",data:=.seq vs.toArray},?_}) (λb u z=>?_) (λb z=>?_) (λ_=>hk) λb=>?_
  .unfold jz;rw[aT];exact yL rfl
  .unfold jz at z;split at z
   .rename_i q j;cases z;exact i _ b q j
   .by_cases B:b=a
    .replace z:=(yL B).symm.trans z;cases z;subst B;exact{A,by rw[zD];exact hl,vs,_,rv,A}
    .replace z:=(yN B).symm.trans z;cases z
  .by_cases B:b=a
   .exact B
   .exact absurd (yN B) z
  .by_cases B:b=a
   .exact .inr {_,_,yL B}
   .exact .inl<|yN B
def HR{l:W.OpenLaw}{n k:Nat}{q:ε}{L:Γ Str}{XP:(Str->Δ Θ)->ι->Prop}{YP:δ->ι->Prop}{d:DefRec}{K:Params->Φ}{CX:δ->JH}{sp:δ->Sp}{x:Str}{ts:Γ Ψ}
  (hn:l.most=↑n)(j:n<=sizeLine)(c:d.params.defaults=[])(hr:bT k callerA)
  (hY:∀w h,YP w h->(K w.params).In h/\∀P∈ts,h.get? P=↑(W.tabObj #[]))(ht:∀w:δ,nz (K w.params) ts=true)
  (F:∀w(m:Str->Δ Θ)fa h,(K w.params).In h->h.Ns mainGlobals m->m d.name=↑(.ref fa) ->
   ∃D:η,(∀s u,BindsTo s D {[u],[]} [(x,u)]) /\
    ∀base:ι,(K w.params).In base->base.Ns mainGlobals m->dE l.prog w (K w.params) m base (CX w) k fa D [x] (sp w))
  (p:∀w H a(ns:Γ Int),ns.length<=n->cx (K w.params) H->iw (K w.params) H a (ns.map V.int)->sp w [.ref a] H (λv _=>v=.bl true) λ_ _ _=>False)
  (X:∀w H s e s',CX w [] H s (λ_ _ _=>False) e s'->False) :
  W.WalkO q L XP YP l.row.toRowW d [] (λf vs=>PySem.call f vs):=by
 refine Att.Ye hn c λw VQ J m mb fa o pm cd R a vs ns G Y ho hd VR i A S N hg=>?_;let(t,r):=hY w _ Y;let(D,hb,U):=F w m fa _ t G.T.g i;have M:Sj m J.heap:=by
  let(Q,ob,B,y,C,E,I,O):=G.T.bmain;refine{Q,ob,B,y,λz=>?_,C,E,I,O};let(o',es,ep,e1,e2,_):=G.T.g
  grind
 exact D9 t G.T.g G.T.b G.T.builtins G.T.nolimit M hg (ht w) r A S (yD N j) hr U hb (λH Z=>p w H a ns N Z) λH e=>X w H J e
end Dl
namespace SP
open PySem PySem.W PyProof.Rows
def run(l:Nat->Nat->θ):KasT α->α
 |.ret a=>a
 |.ask i j k=>run l<|k<|l i j
def ir(l:Nat->Nat->θ)(f:α->KasT β):∀t ,run l (t.bind f)=run l (f<|run l t)
 |.ret a=>rfl
 |.ask i j k=>by
  show run l ((k _).bind f)=run l _;exact ir l f _
def Qa(n:Nat):KasT α->Prop
 |.ret _=>True
 |.ask i j k=>i<n/\j<n/\∀b,Qa n<|k b
def wp_run(hc:∀i j C,i<n->j<n->C (lt i j) s->cmp i j C s):∀t{Q:α->Ξ->Prop},Qa n t->Q (run lt t) s->t.kasWp cmp Q s
 |.ret a,Q,_,h=>h
 |.ask i j k,Q,b,h=>hc i j _ b.1 b.2.1<|wp_run hc _ (b.2.2 _) h
def qt(n:Nat)(R:α->Prop):KasT α->Prop
 |.ret a=>R a
 |.ask i j k=>i<n/\j<n/\∀b,qt n R<|k b
def nR:∀{t:KasT α},qt n R t->(∀a,R a->Qa n (f a))->Qa n (t.bind f)
 |.ret a,b,h=>h a b
 |.ask i j k,b,h=>{b.1,b.2.1,λc=>nR (b.2.2 c) h}
def iS:∀{t:KasT α},qt n R t->(∀a,R a->qt n S (f a))->qt n S (t.bind f)
 |.ret a,b,h=>h a b
 |.ask i j k,b,h=>{b.1,b.2.1,λc=>iS (b.2.2 c) h}
def Bd(n:Nat)(p:Array Nat):Prop:=∀a,p.getD a 0<n
def Bd.perm(h:Bd n p)(e:q.Perm p):Bd n q:=by
 intro a;rw[qD];cases H:q[a]? with
 |none=>have:=h p.size;simpa using this
 |some x =>
  let(i,I,rfl):=Array.mem_iff_getElem.mp<|e.mem_iff.mp<|Array.mem_of_getElem? H;have:=h i;simp_all
def GZ(h:Bd n p):∀f m,qt n (λ_=>True) (kas_asc p f m)
 |0,m=>trivial
 |f+1,m=>⟨h _,h _,λc=>by
  dsimp only;split
  .trivial
  .exact GZ h f _⟩
def yv(h:Bd n p)(i j:Nat):Bd n (kas_rev p i j):=h.perm<|mirror_perm _ _ _ _
def xy:∀f{p:Array Nat}(h:Bd n p)m q,qt n (λr=>Bd n r.1) (kas_desc f p m q)
 |0,p,h,m,q=>h
 |f+1,p,h,m,q=>⟨h _,h _,λc=>by
  dsimp only;split
  .split
   .exact xy f (yv h _ _) _ 0
   .exact xy f h _ 0
  .exact⟨h _,h _,λd=>by
    dsimp only;split
    .exact h
    .exact xy f h _ _⟩⟩
def DU(h:Bd n p)(m P:Nat):qt n (λr=>Bd n r.2) (kas_tail3 m P p):=iS (GZ (yv h 0 m) _ _) λ_ _=>yv h 0 m
def qs(h:Bd n p)(m P:Nat):qt n (λr=>Bd n r.2) (kas_descPart m P p):=iS (xy _ h _ _) λr H=>by
 split
 .apply DU<|yv H _ _
 .apply DU H
def LL(h:Bd n p)(P:Nat):qt n (λr=>Bd n r.2) (kas_count P p):=iS (GZ h _ _) λm _=>by
 split
 .exact h
 .split
  .exact⟨h _,h _,λc=>by
    dsimp only;split
    .exact h
    .apply qs<|yv h _ _⟩
  .apply qs h
def uY(h:Bd n p)(k:Nat):∀f l r,qt n (λ_=>True) (kas_place p k f l r)
 |0,l,r=>trivial
 |f+1,l,r=>by
  unfold kas_place;split
  .trivial
  .exact⟨h _,h _,λc=>by
    dsimp only;split
    .apply uY h k f
    .apply uY h k f⟩
def M3:∀f{p:Array Nat}(h:Bd n p)k,Qa n (kas_bin f p k)
 |0,p,h,k=>trivial
 |f+1,p,h,k=>nR (uY h k _ _ _) λl _=>M3 f (h.perm<|bubble_perm _ _ _) _
def Gi(b:1<=n):Qa n (kas_sort n):=by
 have h:Bd n (List.toArray<|List.range n):=λa=>by
  by_cases H:a<n
  .simp[H]
  .simp[H];lia
 refine nR (LL h n) λr R=>?_;split
 .apply M3 _ R
 .trivial
section
variable (z:Nat->Int)
def Z(p:Array Nat)(a:Nat):Int:=z<|p.getD a 0
def ik:Nat->Nat->θ:=λi j=>decide (z i<z j)
def mU(h:p[a]?=q[b]?):Z z p a=Z z q b:=by
 unfold Z;simp_all
def GT(J:j<=p.size)(k:Nat):Z z (kas_rev p i j) k=if i<=k/\k<j then Z z p (i+j-1-k)else Z z p k:=by
 have e:=getElem?_mirror_all (i:=i) J k;by_cases H:i<=k/\k<j
 .rw[yL H]at e ⊢;exact mU z e
 .rw[yN H]at e ⊢;exact mU z e
def GL(hs:src<p.size)(D:d<=src)(k:Nat):Z z (bubble p src d) k=if k=src-d then Z z p src else if src-d<k/\k<=src then Z z p (k-1)else Z z p k:=by
 have e:=getElem?_bubble hs d D k;by_cases H:k=src-d
 .rw[yL H]at e ⊢;exact mU z e
 .rw[yN H]at e ⊢;by_cases a:src-d<k/\k<=src
  .rw[yL a]at e ⊢;exact mU z e
  .rw[yN a]at e ⊢;exact mU z e
def Up(p:Array Nat)(n:Nat):Prop:=∀a b,a<=b->b<n->Z z p a<=Z z p b
def Dn(p:Array Nat)(n:Nat):Prop:=∀a b,a<=b->b<n->Z z p b<=Z z p a
variable {z}
def JJ(h:Up z p n)(N:1<=n)(c:Z z p (n-1)<=Z z p n):Up z p (n+1):=by
 intro a b W B;by_cases H:b<n
 .exact h a b W H
 .have e:b=n:=by lia
  subst e;by_cases A:a=b
  .subst A;exact xZ _
  .exact jT (h a (b-1) (by lia) (by lia)) c
def Te:∀f n,1<=n->Up z p n->n<=run (ik z) (kas_asc p f n)/\run (ik z) (kas_asc p f n)<=n+f/\Up z p (run (ik z)<|kas_asc p f n)/\(run (ik z) (kas_asc p f n)<n+f->Z z p (run (ik z)<|kas_asc p f n)<Z z p (run (ik z) (kas_asc p f n)-1))
 |0,n,H,h=>{yM _,yM _,h,λq=>absurd q<|qE _}
 |f+1,n,H,h=>by
  show n<=run _ (if ik z _ _=true then .ret n else kas_asc p f _)/\run _ (if ik z _ _=true then .ret n else kas_asc p f _)<=n+(f+1)/\Up z p (run _ (if ik z _ _=true then .ret n else kas_asc p f _))/\(run _ (if ik z _ _=true then .ret n else kas_asc p f _)<n+(f+1)->Z z p (run _ (if ik z _ _=true then .ret n else kas_asc p f _))<Z z p (run _ (if ik z _ _=true then .ret n else kas_asc p f _)-1))
  by_cases hc:ik z (p.getD n 0) (p.getD (n-1) 0)=true
  .rw[yL hc];exact{yM _,jU _ _,h,λ_=>yQ hc}
  .have e:Z z p (n-1)<=Z z p n:=by
    have:¬(Z z p n<Z z p _):=λq=>hc<|yA q;lia
   let(a,b,c,d):=Te f _ (by lia)<|JJ h H e
   grind
def BI(H:j<=p.size)(h:∀a b,i<=a->a<j->i<=b->b<j->Z z p a=Z z p b)(k:Nat):Z z (kas_rev p i j) k=Z z p k:=by
 rw[GT z H]
 grind
def G0(e:∀k,Z z q k=Z z p k)(h:Dn z p n):Dn z q n:=λa b W H=>by rw[e,e];exact h a b W H
def O4(H:n<=p.size)(h:Dn z p n):Up z (kas_rev p 0 n) n:=by
 intro a b W B;rw[GT z H,GT z H,yL {xV _,by lia},yL {xV _,B}];exact h _ _ (by lia) (by lia)
def mQ(p:Array Nat)(i j:Nat):(kas_rev p i j).size=p.size:=mirror_size _ _ _ _
def nK(p:Array Nat)(i j:Nat):(kas_rev p i j).Perm p:=mirror_perm _ _ _ _
structure N9(z:Nat->Int)(V2 p:Array Nat)(n q VP:Nat):Prop where
 perm:p.Perm V2
 size:p.size=V2.size
 le:n<=VP
 qn:q+1<=n
 dn:Dn z p n
 eq:∀a b,n-(q+1)<=a->a<n->n-(q+1)<=b->b<n->Z z p a=Z z p b
def J0(i:VP<=V2.size):∀(f:Nat)(p:Array Nat)(n q:Nat),n+f<=VP->N9 z V2 p n q VP ->
  let r:=run (ik z)<|kas_desc f p n q;N9 z V2 r.1 r.2.1 r.2.2 VP
 |0,p,n,q,v,h=>h
 |f+1,p,n,q,v,h=>by
  intro r;have R:r=run (ik z) (if ik z (p.getD n 0) (p.getD (n-1) 0)=true then(if q > 0 then kas_desc f (kas_rev p (n-(q+1)) n) (n+1) 0 else kas_desc f p (n+1) 0)
   else .ask (p.getD (n-1) 0) (p.getD n 0) λd=>if d=true then .ret (p,n,q)else kas_desc f p (n+1) (q+1)):=rfl
  have w:=h.qn;by_cases hc:ik z (p.getD n 0) (p.getD (n-1) 0)=true
  .rw[yL hc]at R;have step:∀P ,P.Perm V2->P.size=V2.size->(∀k,Z z P k=Z z p k)->N9 z V2 P (n+1) 0 VP:=λP j l A=>by
    refine{j,l,by lia,by lia,λa b W B=>?_,λa b m o s t=>by grind};rw[A,A];by_cases H:b<n
    .exact h.dn a b W H
    .have e:b=n:=by lia
     subst e;by_cases u:a=b
     .grind
     .exact jT (Int.le_of_lt<|yQ hc)<|h.dn a _ (by lia)<|by lia
   by_cases g:q > 0
   .rw[yL g]at R;rw[R];exact J0 i f _ _ 0 (by lia)<|step _ ((nK _ _ _).trans h.perm) (by rw[mQ,h.size])<|BI (by rw[h.size];lia) h.eq
   .rw[yN g]at R;rw[R];exact J0 i f p _ 0 (by lia)<|step p h.perm h.size λ_=>rfl
  .rw[yN hc]at R;have E:=by
    have:¬(Z z p n<Z z p _):=λq=>hc<|yA q;omega
   have Y:r=run _ (if ik z _ _=true then .ret _ else kas_desc f p _ _):=R;by_cases D:ik z (p.getD (n-1) 0) (p.getD n 0)=true
   .rw[yL D]at Y;rw[Y];exact h
   .rw[yN D]at Y;rw[Y];have Q:Z z p n=Z z p (n-1):=by
     have:¬(Z z p _<Z z p n):=λq=>D<|yA q;omega
    refine J0 i f p _ _ (by lia) {h.perm,h.size,by lia,by lia,λa b W B=>?_,λa b m o s t=>?_}
    .by_cases H:b<n
     .exact h.dn a b W H
     .have e:b=n:=by lia
      subst e;by_cases u:a=b
      .grind
      .rw[Q];exact h.dn a _ (by lia)<|by lia
    .have y:∀c,n+1-(q+1+1)<=c->c<n+1->Z z p c=Z z p (n-1):=λc c1 c2=>by
      by_cases N:c<n
      .exact h.eq c _ (by lia) N (by lia)<|by lia
      grind
     grind
structure R5(z:Nat->Int)(V2:Array Nat)(VP:Nat)(r:Nat×Array Nat):Prop where
 perm:r.2.Perm V2
 size:r.2.size=V2.size
 ge:1<=r.1
 le:r.1<=VP
 up:Up z r.2 r.1
def tail3(Z:VP<=V2.size)(H:1<=n)(N:n<=VP)(P:p.Perm V2)(hs:p.size=V2.size)(d:Dn z p n):R5 z V2 VP (run (ik z)<|kas_tail3 n VP p):=by
 rw[kas_tail3,ir];let(a,b,c,_):=Te _ n H<|O4 (by lia) d;exact{(nK _ _ _).trans P,by show(kas_rev p 0 n).size=_;rw[mQ,hs],by show 1<=run _ _;lia,by show run _ _<=VP;lia,c}
def descPart(c:VP<=V2.size)(f:1<=n)(N:n<VP)(P:p.Perm V2)(hs:p.size=V2.size)(d:Dn z p n)(w:Z z p n<=Z z p (n-1)):R5 z V2 VP (run (ik z)<|kas_descPart n VP p):=by
 rw[kas_descPart,ir];have D:=J0 c (VP-(n+1)) p (n+1) 0 (by lia) ⟨P,hs,by lia,by lia,λa b W B=>by
  by_cases H:b<n
  .exact d a b W H
  .have e:b=n:=by lia
   subst e;by_cases A:a=b
   .grind
   .exact jT w<|d a _ (by lia)<|by lia,λa b f g i j=>by grind⟩
 have q:=D.qn;split
 .exact tail3 c (by lia) D.le ((nK _ _ _).trans D.perm) (by rw[mQ,D.size])<|G0 (BI (by have:=D.size;have:=D.le;lia) D.eq) D.dn
 .exact tail3 c (by lia) D.le D.perm D.size D.dn
def count(f:VP<=p.size)(o:1<=VP):R5 z p VP (run (ik z)<|kas_count VP p):=by
 unfold kas_count;rw[ir];let(a,b,c,d):=Te (z:=z) (p:=p) (VP-1) 1 (yM _) (λx y H Y=>by rw[show x=y by lia];exact xZ _);generalize run (ik z) (kas_asc p (VP-1) 1)=n at a b c d;split
 .exact{Array.Perm.refl _,rfl,a,by show n<=VP;lia,c}
 .rename_i v;have W:n<VP:=by
   have:n≠VP:=λe=>v (by simp[e]);lia
  have D:=d (by lia);split
  .rename_i g;show R5 z p VP (run (ik z) (if ik z (p.getD 0 0) (p.getD (n-1) 0)=true then .ret (n,p)else kas_descPart n VP (kas_rev p 0 n)));by_cases hc:ik z (p.getD 0 0) (p.getD (n-1) 0)=true
   .rw[yL hc];exact{Array.Perm.refl _,rfl,a,by show n<=VP;lia,c}
   .rw[yN hc];have E:Z z p (n-1)<=Z z p 0:=by
     have:¬(Z z p 0<Z z p (n-1)):=λq=>hc<|yA q;lia
    have l:∀x,x<n->Z z p x=Z z p 0:=λx X=>by
     have k:=c 0 x (xV _) X;have m:=c x (n-1) (by lia) (by lia);lia
    have s:=BI (z:=z) (p:=p) (i:=0) (j:=n) (by lia) λx y _ X _ Y=>by rw[l x X,l y Y]
    refine descPart f (by lia) W (nK _ _ _) (by rw[mQ]) (λx y H Y=>?_) ?_
    .rw[s,s,l x<|by lia,l y Y];exact xZ _
    .rw[s,s];lia
  .exact descPart f (by lia) W (Array.Perm.refl _) rfl (λx y H Y=>by rw[show x=y by lia];exact xZ _) (by lia)
def place(u:Up z p k):∀f l r,r-l<=f->l<=r->r<=k->(∀a,a<l->Z z p a<=Z z p k)->(∀a,r<=a->a<k->Z z p k<=Z z p a) ->
  let m:=run (ik z)<|kas_place p k f l r;m<=k/\(∀a,a<m->Z z p a<=Z z p k)/\(∀a,m<=a->a<k->Z z p k<=Z z p a)
 |0,l,r,F,L,R,b,c=>by
  have e:l=r:=by lia
  subst e;exact{R,b,c}
 |f+1,l,r,F,L,R,b,c=>by
  intro m;have M:m=run _ (if l >= r then .ret l else .ask _ _ _):=rfl;by_cases H:l >= r
  .rw[yL H]at M;rw[M];have e:l=r:=by lia
   subst e;exact{R,b,c}
  .rw[yN H]at M;have W:m=run _ (if ik z _ _=true then kas_place p k f l _ else kas_place p k f _ r):=M;by_cases hc:ik z (p.getD k 0) (p.getD ((l+r)/2) 0)=true
   .rw[yL hc]at W;rw[W];exact place u f l _ (by lia) (by lia) (by lia) b λa A K=>jT (Int.le_of_lt<|yQ hc)<|u _ a A K
   .rw[yN hc]at W;rw[W];have E:Z z p ((l+r)/2)<=Z z p k:=by
     have:¬(Z z p k<Z z p _):=λq=>hc<|yA q;lia
    exact place u f _ r (by lia) (by lia) R (λa A=>jT (u a _ (by lia)<|by lia) E) c
def bin:∀f p k,p.Perm V2->p.size=V2.size->k+f<=V2.size->Up z p k ->
  (run (ik z)<|kas_bin f p k).Perm V2/\(run (ik z)<|kas_bin f p k).size=V2.size/\Up z (run (ik z)<|kas_bin f p k) (k+f)
 |0,p,k,i,s,hk,u=>{i,s,u}
 |f+1,p,k,i,s,hk,u=>by
  rw[kas_bin,ir];have P:=place u k 0 k (by lia) (by lia) (yM _) (nofun) λa A K=>absurd A (by lia);generalize run _ _=l at P;have Z:=GL z (p:=p) (src:=k) (d:=k-l) (by lia) (by lia);rw[(show k-(k-l)=l by lia)]at Z;let(q,q2,Q):=bin f (bubble p k<|k-l) (k+1) ((bubble_perm _ _ _).trans i) (by rw[bubble_size,s]) (by lia) λa b W B=>by
   rw[Z,Z];by_cases c:a=l
   .grind
   .rw[yN c];by_cases e:b=l
    .grind
    .rw[yN e];by_cases H:l<a/\a<=k
     .rw[yL H,yL<|by lia];exact u _ _ (by lia)<|by lia
     .rw[yN H];by_cases g:l<b/\b<=k
      .grind
      .rw[yN g];exact u _ _ W<|by lia
  grind
def iY(f:1<=n):(run (ik z)<|kas_sort n).toList.Perm (List.range n)/\((run (ik z)<|kas_sort n).toList.map z).Pairwise (·<=·):=by
 have d:(List.toArray<|List.range n).size=n:=by simp
 have C:=count (z:=z) (p:=List.toArray<|List.range n) (by lia) f;have fin:∀p ,p.Perm (List.toArray<|List.range n)->p.size=n->Up z p n->p.toList.Perm _/\(p.toList.map z).Pairwise (·<=·):=λp a b c=>by
  refine{by have:=a.toList;omega,?_};rw[List.pairwise_iff_getElem];intro i j I J N;have Y:i<n:=by grind
  have H:j<n:=by grind
  have:=c i j (jS N) H;unfold Z at this;simp_all
 rw[kas_sort,ir];generalize run _ _=r at C;let(k,p):=r;have s:=C.size;rw[d]at s;split
 .have E:=C.ge;rw[(show max k 1=k by lia)];let(q,q2,Q):=bin (n-k) p k C.perm C.size (by lia) C.up;apply fin _ q (by grind);rw[show k+(n-k)=n by lia]at Q;lia
 .have g:=C.le;have e:k=n:=by lia
  subst e;exact fin p C.perm s C.up
end
end SP
namespace Y4
open PySem PySem.W PySem.Calls PyProof.Rows
def V3(z:Nat->Int)(vs:Γ Θ):Γ Θ:=if vs.length<2 then vs else(SP.run (SP.ik z)<|kas_sort vs.length).toList.map λi=>vs.getD i Value.none
def Yi(z:Nat->Int)(vs:Γ Θ):(V3 z vs).length=vs.length:=by
 unfold V3;split
 .rfl
 .rename_i h;have:=(SP.iY (z:=z) (n:=vs.length)<|by lia).1.length_eq;simpa using this
def Xa{P:PySem.Fin->Ξ->Prop}(O:s.heap.get? a=↑(seqObj "list" vs.toArray n))(Y:vs.length<64)(z:Nat->Int)(r:SortKind)
  (hk:2<=vs.length->∀h':ι,(∀b o,b≠a->s.heap.get? b=↑o->h'.get? b=↑o)->∀u:SortKind->Ξ->Prop,u r {s with heap:=h'}->wpAny (model prog w) A (keyKind' vs.toArray) u (λ_ _=>False) {s with heap:=h'})
  (D:2<=vs.length->∀h':ι,(∀b o,b≠a->s.heap.get? b=↑o->h'.get? b=↑o)->∀i j C,i<vs.length->j<vs.length->C (SP.ik z i j) {s with heap:=h'}->kas_ask prog w A r vs i j C {s with heap:=h'})
  (h:∀(h':ι)(c:Nat),(∀b o,b≠a->s.heap.get? b=↑o->h'.get? b=↑o)->h'.get? a=↑(seqObj "list" (V3 z vs).toArray c)->P (.done<|.ret .none) {s with heap:=h'}) :
  wpAny (model prog w) A (Builtin.«list.sort» {[.ref a],[]}) P E s:=by
 rw[list_sort_plain];have T:a<s.heap.objs.size:=zY O;have N:vs.length<=sizeLine:=by rw[qT];lia
 refine zV<|vK O rfl (zV<|jZ O rfl ?_ (by omega) (xV _));obtain⟨y,Z⟩:∃e,(s.heap.update a (Obj.mapSeq λ_=>(#[]:Array Θ))).get? a=↑(seqObj "list" #[] e):={_,kC O λ_=>#[]}
 have K:∀b o,b≠a->s.heap.get? b=↑o->(s.heap.update a<|Obj.mapSeq λ_=>(#[]:Array Θ)).get? b=↑o:=λb o B e=>(xN _ _<|jM B).trans e;refine zV<|seqEpoch_at Z rfl (zV<|wpAny_newTuple (zV<|kN (xX ?_)<|xV _)<|by lia);have H:(((s.heap.update a<|Obj.mapSeq λ_=>(#[]:Array Θ)).push<|seqObj "tuple" vs.toArray 0).push<|seqObj "list" #[] 0).get? a=↑(seqObj "list" #[] y):=zU _<|zU _ Z;have k:∀b o,b≠a->s.heap.get? b=↑o->(((s.heap.update a<|Obj.mapSeq λ_=>(#[]:Array Θ)).push<|seqObj "tuple" vs.toArray 0).push<|seqObj "list" #[] 0).get? b=↑o:=λb o B e=>zU _<|zU _<|K b o B e;show wpAny _ A _ P E {s with heap:=((s.heap.update a<|Obj.mapSeq λ_=>(#[]:Array Θ)).push<|seqObj "tuple" vs.toArray 0).push (seqObj "list" #[] 0)};generalize ((s.heap.update a<|Obj.mapSeq λ_=>(#[]:Array Θ)).push<|seqObj "tuple" vs.toArray 0).push (seqObj "list" #[] 0)=l at H k;clear Z K;dsimp only;have fin:∀W:SortSt,(arrOf W).map (·.2)=(V3 z vs).toArray->failedOf W=none ->
   wpAny (model prog w) A (do
    let d:=(arrOf W).map (·.2);let t:=(<- seqEpoch a) != y
    Builtin.List.listUpdate (.ref a) λ_=>d
    if let some e:=failedOf W then rule "list.sort.comparison-raised";throw e
    if t then rule "list.sort.modified";raiseError "ValueError" "list modified during sort"
    ret .none) P E {s with heap:=l}:=λW J f=>by
  dsimp only;rw[J,f];refine zV<|seqEpoch_at H rfl (zV<|jZ H rfl ?_ (xV _) (by show(V3 z vs).toArray.size<=_;rw[zH,Yi];lia));obtain⟨c,hc⟩:∃c,(l.update a (Obj.mapSeq λ_=>(V3 z vs).toArray)).get? a=↑(seqObj "list" (V3 z vs).toArray c):={_,kC H λ_=>(V3 z vs).toArray}
  simp ;exact zW<|h _ c (λb o B e=>(xN _ _<|jM B).trans<|k b o B e) hc
 by_cases f:vs.toArray.size<2
 .rw[yL f,yL f];refine zV<|zW<|fin _ ?_ rfl;rw[V3,yL<|by omega];show((vs.toArray.zip vs.toArray).map _)=vs.toArray;simp ;exact List.map_snd_zip<|yM _
 .rw[yN f,yN f];have g:2<=vs.length:=by
   have:¬vs.length<2:=by exact f
   lia
  refine zV<|xA (hk g l k (λm S=>m=r/\S={s with heap:=l}) ⟨rfl,rfl⟩) (λm S q=>?_) λ_ _ x=>x.elim;let(rfl,rfl):=q;refine zV (xA (kat_run (Q:=λW S=>S={s with heap:=l}/\(arrOf W).map (·.2)=(V3 z vs).toArray/\failedOf W=none) (G:=λp S=>S={s with heap:=l}/\p=SP.run _ _)
   rfl g Y (λp W S R F I v=>{v.1,?_,I}) (SP.wp_run (D g l k) _ (SP.Gi<|by lia) {rfl,rfl})) ?_ λ_ _ e=>e)
  .rw[kat_snds rfl F,v.2,V3,yN<|by lia]
  .rintro⟨⟨⟩,W⟩ S ⟨q,L,M⟩;subst q;exact fin W L M
def aaY(h:ι)(l:Ψ)(vs:Γ Θ):Prop:=∃ (o:Obj) (T:String) (n:Nat),(T="list"\/T="tuple")/\h.get? l=↑o/\o.cls=.type T/\o.data=.seq vs.toArray n
def ZW(H:aaY s.heap l vs)
  (h:Q vs {s with heap:=(s.heap.push<|seqObj "list" #[] 0).update s.heap.objs.size (Obj.mapSeq (·++vs.toArray))})(hsz:vs.length<=sizeLine):wpAny (model prog w) A (collect<|.ref l) Q E s:=by
 let(o,T,n,t,O,hc,d):=H;refine zV<|wpAny_runValue<|kE entry_proto_collect'<|zV<|kN<|zW {wH _<|by simp,kE entry_list_iadd' ?_};show wpAny _ _ (Builtin.List.listExtendWith _ _ _) _ _ _;have X:(s.heap.push<|seqObj "list" #[] 0).get? l=↑o:=zU _ O;refine zV<|wI {o,X,hc} ?_;rw[yL<|by grind];refine zV<|vK X d<|zV<|vK (zX _ rfl) rfl (zV<|jZ (zX _ rfl) rfl ?_ (xV _) (by grind));apply zW;refine zV<|wpAny_load (kC (zX _ rfl) _) ?_;show wpAny _ _ (pure _) Q E _;rw[show((#[]:Array Θ)++vs.toArray).toList=vs by simp];exact zW h
def aaZ{s:Ξ}{Q:Θ->Ξ->Prop}(m:aaY s.heap l vs)(Y:vs.length<64)(z:Nat->Int)(d:SortKind)
  (hk:2<=vs.length->∀h' ,(∀b o,s.heap.get? b=↑o->h'.get? b=↑o)->∀f:SortKind->Ξ->Prop,f d {s with heap:=h'}->wpAny (model prog w) A.in1.in1 (keyKind' vs.toArray) f (λ_ _=>False) {s with heap:=h'})
  (W:2<=vs.length->∀h' ,(∀b o,s.heap.get? b=↑o->h'.get? b=↑o)->∀i j C,i<vs.length->j<vs.length->C (SP.ik z i j) {s with heap:=h'}->kas_ask prog w A.in1.in1 d vs i j C {s with heap:=h'})
  (h:∀(h':ι)(D:Ψ)c,(∀b o,s.heap.get? b=↑o->h'.get? b=↑o)->s.heap.objs.size<=D->h'.get? D=↑(seqObj "list" (V3 z vs).toArray c)->Q (.ref D) {s with heap:=h'}) :
  wpAny (model prog w) A (call (.builtin "sorted") [.ref l]) Q E s:=by
 have L:vs.length<=sizeLine:=by rw[qT];lia
 apply Calls.call_function_entry kind_sorted plain_sorted entry_sorted<|args_sorted1 _;refine zV<|zW<|zV<|ZW m (zV<|kN ?_<|by lia) L;have H:((s.heap.push<|seqObj "list" #[] 0).update s.heap.objs.size (Obj.mapSeq (·++vs.toArray))).objs.size=s.heap.objs.size+1:=by simp
 have p:∀b o,s.heap.get? b=↑o->(((s.heap.push<|seqObj "list" #[] 0).update s.heap.objs.size (Obj.mapSeq (·++vs.toArray))).push<|seqObj "list" vs.toArray 0).get? b=↑o:=λb o e =>
  zU _ ((xN _ _<|jH<|zY e).trans<|zU _ e)
 have Z:(((s.heap.push<|seqObj "list" #[] 0).update s.heap.objs.size (Obj.mapSeq (·++vs.toArray))).push<|seqObj "list" vs.toArray 0).get? (s.heap.objs.size+1)=↑(seqObj "list" vs.toArray 0):=by
  rw[<-H];exact zX _ rfl
 rw[H];generalize ((s.heap.push _).update s.heap.objs.size _).push _=g at p Z;have k:∀h':ι,(∀b o,b≠s.heap.objs.size+1->g.get? b=↑o->h'.get? b=↑o)->∀b o,s.heap.get? b=↑o->h'.get? b=↑o:=λh' q b o e=>q b o (yR<|jN<|zY e)<|p b o e;exact zV<|xX<|qU slot_list_sort {_,Z,rfl} entry_list_sort (Xa Z Y z d (λa h' q=>hk a h'<|k h' q) (λa h' q=>W a h'<|k h' q) λh' c q e=>{_,rfl,(zW {_,rfl,h h' _ c (k h' q) (by lia) e})})<|args_list_sort _
end Y4
namespace Dl
open PySem L2 PySem.Spec PyProof.Rows
def El(i:Nat)(fz:Γ Nat)(f:Env->Δ (Γ D)):ao->Δ Out:=λa=>(f<|bD<|hand fz 0 a).bind λu=>oN i (λd=>if d.length+u.length<=sizeLine then↑(d++u)else none)<|hand fz 0 a
def ED(i:Nat)(fz:Γ Nat)(u:X.N[i]?=↑x)(y:nW X.env.scope x)(h:DF X e f)(w:(x=="__debug__")=false:=by decide)(R:(x=="__classdict__")=false:=by decide)
  (W:((backTo cpos<|starEach [e] X.env).all (λx=>!x.1)&&(backToKw cpos<|keywordEach [] X.env).all (λx=>x.1.isSome)&&decide ([e].length+([]:Γ Keyword).length+(if([]:Γ Keyword).isEmpty then 0 else 1)<30))=true:=by rfl)
  (I:(apos.endLine==cpos.line)=true:=by rfl)(hs:starEach [e] X.env=(false,eval e X.env)::starEach [] X.env:=by rfl) :
  DS X VA VB (.Expr (.Call (.Attribute (.Name x px) "extend" apos) [e] [] cpos) pos) (El i fz f):=
 bL (iW<|ni qM PySem.F.slot_list_extend PySem.F.type_list_extend Ez (bQ u y w R) (ba h cf hs) rfl W I hs rfl) λE J H z=>by
  let(L,ρ,o,S,j,q):=z;let(U,t,j):=bs j;let(D,T,d,g,rfl):=iC j;let(m,A,s):=S.hand fz;let(a,B,c,n,O,Q,P):=s.own i D d;refine{.ref a,c,.inl {rfl,B,.of n},m,_,U,s.gr.fh,s.Wj,t,λb C K l G Y Z p r=>?_};have k:=s.grow G;let(M,v,f1,f2,f3,f5,f4):=k.own i D d;rw[c]at f1;cases f1;split at g
  .cases g;exact{a,b,v,C,rfl,rfl,f2,p,by rw[f4.length,r.length];lia,q J _ l (k.mut d c f2<|f4.append r)<|A.trans G.ff}
  .cases g
def DP(ds:Γ D)(k:Int)(d:D):Γ D:=let j:=if k<0 then(k+(ds.length:Int)).toNat else min k.toNat ds.length;ds.take j++d::ds.drop j
def Km:V->Γ V->Hp->VK->Prop:=λx v H Q=>∃l s k y,x=.ref l/\v=[.int k,y]/\H l=↑(.lst s)/\s.length<sizeLine/\-(2^62)<=k/\k<2^62 /\
 Q .VC (upd H l<|.lst (s.take (if k<0 then(k+(s.length:Int)).toNat else min k.toNat s.length)++y::s.drop (if k<0 then(k+(s.length:Int)).toNat else min k.toNat s.length)))
def Fc:Mt X "list.insert" Km:=by
 intro p s j H x g v S Q I c R h;let(l,i,k,y,rfl,rfl,b,Z,K,d,q):=h;cases c;let(f,U,rfl,(t,rfl),u):=L2.aG.two R;let(z,E,n,r,L,e):=I.ZR b;have a:¬(!Builtin.List.listFitsIndex k)=true:=by
  have:Builtin.List.listFitsIndex k=true:=by
   unfold Builtin.List.listFitsIndex
   grind
  grind
 refine qV F.slot_list_insert {_,e,rfl} F.entry_list_insert (F.args_list_insert_3 _ _ _) (AutoListH.list_insert_list_int_val_1 l E.toArray n k t U a<|by grind) {e,?_};refine{.VC,_,I.aaS b e ?_ ((r.take _).append<|.cons u<|r.drop _) ?_,rfl,q}<;>grind
def FM(i:Nat)(fz:Γ Nat)(fk f:Env->Δ D):ao->Δ Out:=λa=>(fk<|aI a).bind λkd=>match kd with
 |.int k=>(lM fz f a).bind λp=>oN i (λd=>if FA k=true/\d.length<sizeLine then↑(DP d k p.1)else none) p.2
 |_=>none
def E1(i:Nat)(fz:Γ Nat)(B:X.N[i]?=↑x)(J:nW X.env.scope x)(hk:DE X e fk)(h:DE X c f)(C:(x==("__debug__":Str))=false:=by decide)(R:(x==("__classdict__":Str))=false:=by decide)
  (W:((backTo cpos<|starEach [e,c] X.env).all (λx=>!x.1)&&(backToKw cpos<|keywordEach [] X.env).all (λx=>x.1.isSome)&&decide ([e,c].length+([]:Γ Keyword).length+(if([]:Γ Keyword).isEmpty then 0 else 1)<30))=true:=by rfl)
  (I:(apos.endLine==cpos.line)=true:=by rfl)(hs:starEach [e,c] X.env=(false,eval e X.env)::starEach [c] X.env:=by rfl)(Z:starEach [c] X.env=(false,eval c X.env)::starEach [] X.env:=by rfl) :
  DS X VA VB (.Expr (.Call (.Attribute (.Name x px) "insert" apos) [e,c] [] cpos) pos) (FM i fz fk f):=
 bL (iW<|ni qM PySem.F.slot_list_insert PySem.F.type_list_insert Fc (bQ B J C R) (ba hk (ba h cf Z) hs) rfl W I hs (by rw[Z];rfl)) λE T H z=>by
  let(HF,w,o,S,G,q):=z;let(kd,m,G):=bs G;cases kd<;>try cases G
  rename_i k;let((d,Q),g,G):=bs G;let(t,es,b,l,rfl):=iC G;have Y:∃D,w[i]?=↑(.own D):=by
   let(d1,_,g):=bs g;split at g
   .cases g;exact⟨t,b⟩
   .let(d2,_,g):=ai g;cases g;rw[ft]at b;let(s,hs,b):=ai b;cases s with
    |VC=>split at b<;>cases b
    |tab _=>split at b<;>cases b
    |obj _=>split at b<;>cases b
    |val _=>split at b<;>cases b
    |own P=>exact⟨P,hs⟩
  let(D,Y):=Y;let(a,M,j,c,e3,e5,e4):=S.own i D Y;refine{.ref a,j,.inl {rfl,M,iw.of c},H,aI w,_,.refl _,S.all,m,λvk Hk y K rk=>?_};simp?[Rep]at rk;subst rk;refine oF (S.step K.hh) g λv U A L p sh r=>?_;let(a',n,f1,f2,f3,f5,f4):=p.own i t b;rw[j]at f1;cases f1;split at l
  .rename_i u;cases l;have O:=u.1;unfold FA at O;rw[zF]at O;refine{a,n,k,v,rfl,rfl,f2,by rw[f4.length];exact u.2,yQ O.1,yQ O.2,q T _ A (p.mut b j f2 ?_) L};unfold DP;rw[f4.length];exact(f4.take _).append<|ar.cons r<|f4.drop _
  .cases l
def pD:D->D->Δ (Γ D)
 |.list x,.list y=>small (x++y)
 |_,_=>none
def GM(K:Φ):R2:=λx y H Q=>∃a b s Y,x=.ref a/\y=.ref b/\iw K H a s/\iw K H b Y/\s.length+Y.length<=sizeLine/\∀p,H p=none->Q (.ref p) (upd H p<|.lst<|s++Y)
def sU:il X (binaryOp .Add) (GM X.K):=by
 intro p s t H x y v u Q I R k h;let(a,b,S,m,rfl,rfl,g,B,j,q):=h;cases R;cases k;let(E,r1,P,_):=I.list g;let(W,r,p2,_):=I.list B;let((C,f,A,l),o,hc,n,i):=P.isList;let((e,D,d,z),Z,Y,N,c):=p2.isList;subst hc i Y c;refine wK {_,o,rfl} {_,Z,rfl} noFill_list_add seq_list_add PySem.F.slot_list_add PySem.F.entry_list_add (PySem.F.args_list_add_2 _ _) (list_addW a b E.toArray W.toArray n N f D l z (by rw[zH,zH,<-r1.length,<-r.length];lia)) {o,Z,?_};rw[(show E.toArray++W.toArray=(E++W).toArray by simp)];exact{.ref s.heap.objs.size,_,I.ab3 (r1.append r) (by rw[zN];exact j),rfl,q _ I.fresh}
def Q8(g:D->D->Δ (Γ D))(f1 f2:Env->Δ D):Env->Δ (Γ D):=λa=>(f1 a).bind λx=>(f2 a).bind λy=>g x y
def Nv(A:DE X a fa)(B:DE X b fb):DF X (.BinOp a .Add b pos) (Q8 pD fa fb):=aF (Co sU A B) λw H Q z=>by
 let(F,i,d,sm,o,f,q):=z;let(x,j,f):=bs f;let(y,Y,e):=bs f;refine{F,i,x,sm,o,j,λn l v c r1=>{v,i,y,c.fh,o.mono c.ff,Y,λt m U g k=>?_}};cases x<;>cases y<;>simp[pD]at e<;>try cases e
 let(rfl,Z):=eV e;let(a,s,rfl,A,r):=(r1.mono g.ff)
 let(b,u,rfl,B,R):=k;have G:=c.trans g;exact{a,b,s,u,rfl,rfl,g.fh.seq A,g.fh.seq B,by rw[r.length,R.length,<-zN];lia,λp P=>q p _ _ U (G.trans<|.own G.fh P) (G.hh.free P) (G.fh.free P) av<|r.append R}
def boolsOf:Γ D->Δ (Γ θ)
 |[]=>↑[]
 |.bool b::r=>(boolsOf r).map (b::·)
 |_::_=>none
def mF:∀{ds:Γ D}{bs:Γ θ},boolsOf ds=↑bs->ds=bs.map PyData.bool
 |[],bs,h=>by cases h;rfl
 |d::r,bs,h=>by
  cases d<;>simp?[boolsOf]at h<;>try cases h
  let(b,H,rfl):=ai h;rw[mF H];rfl
def gD{K:Φ}:∀{bs:Γ θ}{vs:Γ V},ar K H (bs.map PyData.bool) vs->vs=bs.map V.bl
 |[],vs,h=>h.nil_inv
 |b::bs,vs,h=>by
  let(v,r,rfl,a,c):=h.cons_inv;rw[a,gD c];rfl
def qk:∀{bs:Γ θ}{us:Γ Θ},aG (bs.map V.bl) us->us=bs.map Value.bool
 |[],us,h=>by cases h;rfl
 |b::bs,us,h=>by
  cases h with
  |cons r R=>cases r;rw[qk R];rfl
def range_all(bs:Γ θ):(List.range bs.length).all (λi=>bs.getD i false)=bs.all id:=by
 induction bs with
 |nil=>rfl
 |cons b bs I=>rw[zL,List.range_succ_eq_map,xS,List.all_map,xS];exact jB _ I
def B9(hc:X.calm=true):gP X (.builtin "all") (λxs H Q=>∃ (a:Ψ) (bs:Γ θ),xs=[.ref a]/\iw X.K H a (bs.map V.bl)/\Q (.bl<|bs.all id) H):=by
 intro S s y H xs U Q I r h;let(a,bs,rfl,f,q):=h;let(u,rfl,x):=vals1 r;cases x;let(m,R,p,z):=I.list f;have g:=qk R;subst g;have d:X.A.in1.handled=none:=I.ok.hd hc;refine call_all_walk<|qK p.isList ?_;let(o,O,W,n,D):=p.isList;refine{_,_,_,_,_,_,λi=>bs.getD i false,rfl,Walks.list d s.heap.objs.size a (yR<|zY O) _,{{_,zX _ rfl,rfl,rfl},p.isList.push _},λi v w l E P c=>?_,λt T k=>?_}
 .have e:v=Value.bool (bs.getD i false):=by
   have P:(bs.map Value.bool).toArray[i]?=↑v:=P;rw[List.getElem?_toArray,zO]at P;let(b,B,rfl):=ai P;rw[zG,B];rfl
  subst e;exact xW c
 .refine{.bl _,H,(I.kept λb j e=>k b j (by simp;exact yR<|zY e)<|zU _ e),?_,q}
  .show Value.bool _=Value.bool _;have:=range_all bs
   grind
def Bz:Γ D->Δ D:=λs=>(oneOf s).bind λd=>match d with
 |.list e=>(boolsOf e).map λbs=>.bool (bs.all id)
 |_=>none
def O0(hc:X.calm=true)(B:nC X "all" (.builtin "all"))(A:DA X [e] fs)(E:starEach [e] X.env=(false,eval e X.env)::starEach [] X.env:=by rfl):DE X (.Call (.Name "all" p) [e] [] pos) (cQ Bz fs):=
 m9 (B9 hc) (by
  intro F H s S d Q sm r g q;let(x,f,g):=bs g;rw[ji f]at r;cases x<;>try cases g
  let(bs,c,rfl):=ai g;let(v,i,rfl,a,b):=r.cons_inv;rw[b.nil_inv];let(p,u,rfl,h,R):=a;rw[mF c]at R;have:=gD R;subst this;exact{p,bs,rfl,sm.seq h,q _ H F (.refl sm)<|by rfl}) B A (by decide) (by rfl) E rfl
abbrev lexLt:=HT.lexLt
def dP:∀a ,lexLt a a=false
 |[]=>rfl
 |x::a=>by show HT.lexLt _ _=false;rw[HT.cy,yL rfl];exact dP a
def d0:∀{a b c:Γ Int},lexLt a b=true->lexLt b c=true->lexLt a c=true
 |[],[],_,h,_=>by lia
 |[],_::_,[],_,h=>by cases h
 |[],_::_,_::_,_,_=>rfl
 |_::_,[],_,h,_=>by cases h
 |_::_,_::_,[],_,h=>by cases h
 |x::a,y::b,z::c,H,d=>by
  have H:HT.lexLt _ _=true:=H;have d:HT.lexLt _ _=true:=d;show HT.lexLt _ _=true;rw[HT.cy]at H d ⊢;by_cases e:x=y
  .rw[yL e]at H;by_cases E:y=z
   .rw[yL E]at d;rw[yL<|e.trans E];exact d0 H d
   grind
  grind
def lq:∀{a b:Γ Int},lexLt a b=false->lexLt b a=false->a=b
 |[],[],_,_=>rfl
 |[],_::_,h,_=>by cases h
 |_::_,[],_,h=>by cases h
 |x::a,y::b,H,c=>by
  have H:HT.lexLt _ _=false:=H;have c:HT.lexLt _ _=false:=c;rw[HT.cy]at H c;by_cases e:x=y
  .rw[yL e]at H;rw[yL e.symm]at c;rw[e,lq H c]
  grind
def lexLe(a b:Γ Int):θ:=!lexLt b a
def AN(a b c:Γ Int)(H:lexLe a b=true)(d:lexLe b c=true):lexLe a c=true:=by
 rw[lexLe,yP]at *;cases e:lexLt c a with
 |false=>rfl
 |true =>
  cases E:lexLt a b with
  |true=>rw[d0 e E]at d;lia
  |false =>
   have:=lq E H
   grind
def AQ(a b:Γ Int):(lexLe a b||lexLe b a)=true:=by
 unfold lexLe;cases e:lexLt b a with
 |false=>rfl
 |true =>
  cases E:lexLt a b with
  |false=>rfl
  |true=>have:=d0 e E;rw[dP]at this;grind
def si(H:lexLe a b=true)(c:lexLe b a=true):a=b:=by
 unfold lexLe at *;rw[yP]at *;exact lq c H
def tV{α:Type}{L:α->α->θ}(U:∀a b,L a b=true->L b a=true->a=b):∀{l m:Γ α},l.Perm m->l.Pairwise (λa b=>L a b=true)->m.Pairwise (λa b=>L a b=true)->l=m
 |[],m,p,_,_=>p.nil_eq
 |a::l,[],p,_,_=>by simp_all
 |a::l,b::m,p,c,d=>by
  let(A,H):=List.pairwise_cons.mp c;let(f,B):=List.pairwise_cons.mp d;have e:a=b:=by
   have g:=p.mem_iff.mp zE;have i:=p.mem_iff.mpr zE
   grind
  subst e;rw[tV U (List.perm_cons a |>.mp p) H B]
def lN(l:Γ (Γ Int)):Γ (Γ Int):=l.mergeSort lexLe
def eF(l:Γ _):(lN l).Perm l:=List.mergeSort_perm l lexLe
def Ba(l:Γ _):(lN l).Pairwise (λa b=>lexLe a b=true):=List.pairwise_mergeSort AN AQ l
def wg{l:Γ _}(p:l.Perm m)(h:l.Pairwise (λa b=>lexLe a b=true)):l=lN m:=tV (λ_ _=>si) (p.trans (eF m).symm) h<|Ba m
def rk(l:Γ (Γ Int))(a:Γ Int):Int:=((l.countP λb=>lexLt b a:Nat):Int)
def G7(H:a∈l):lexLt a b=decide (rk l a<rk l b):=by
 unfold rk;have o:∀{a b:Γ Int},lexLt a b=true->(l.countP λc=>lexLt c a)<=l.countP λc=>lexLt c b:=λ{a b}h=>List.countP_mono_left λc _ hc=>d0 hc h;have s:∀{a b:Γ Int}(H:a∈l),lexLt a b=true->(l.countP λc=>lexLt c a)<l.countP λc=>lexLt c b:=λ{a b}H h=>by
  have k:∀m:Γ (Γ Int),a∈m->(m.countP λc=>lexLt c a)<m.countP λc=>lexLt c b:=λm M=>by
   induction m with
   |nil=>cases M
   |cons x m i =>
    rw[List.countP_cons,List.countP_cons];have O:(m.countP λc=>lexLt c a)<=m.countP λc=>lexLt c b:=List.countP_mono_left λc _ hc=>d0 hc h;rcases List.mem_cons.mp M with e|M
    .subst e;rw[dP,h];simp?[yO,qN,xH];lia
    .have:=i M;by_cases X:lexLt x a=true
     .rw[X,d0 X h];simp?[xH];lia
     .have d:lexLt x a=false:=by simpa using X
      rw[d];simp?[yO,qN];split<;>lia
  exact k l H
 cases e:lexLt a b with
 |true=>exact(yA (by have:=s H e;lia)).symm
 |false =>
  refine(zZ ?_).symm;cases E:lexLt b a with
  |true=>have:=o E;lia
  |false=>rw[lq e E];lia
section
variable {prog:ε}{w:δ}{A:ξ}{E:Θ->Ξ->Prop}{s:Ξ}
def rY:∀{us S:Γ Θ}{ns M:Γ Int}i,IntsAre us ns->IntsAre S M->Q (lexLt ns M) s->W.KatLex prog w A true (decide (ns.length<M.length)) Q (us.zip S) i s
 |[],[],_,_,i,.nil,.nil,h=>h
 |[],_::_,_,_,i,.nil,.cons _ _ _,h=>by
  exact h
 |_::_,[],_,_,i,.cons _ _ _,.nil,h=>by
  exact h
 |_::us,_::S,_,_,i,.cons n t r1,.cons m u r,h=>by
  have h:Q (HT.lexLt _ _) s:=h;rw[HT.cy]at h;refine W.kat_cons<|SeqAt.EqAt.int_int n t m u prog w _ _ ?_;cases e:(n==m)with
  |true =>
   have E:=eq_of_beq e;rw[yL E]at h;have:=rY (i+1) r1 r h;simp ;exact this
  |false =>
   rw[yN λq=>by grind]at h;apply W.kat_no;by_cases H:(true&&i==0)=true
   .rw[H];exact oneLt_int h
   .rw[(show(true&&i==0)=false by grind)];exact W.kat_one _ _<|lt_int h
end
def af(ns:Γ Int):D:=.tuple<|ns.map PyData.int
def intsOf:Γ D->Δ (Γ Int)
 |[]=>↑[]
 |.int n::r=>(intsOf r).map (n::·)
 |_::_=>none
def fI:∀{ds:Γ D}{ns:Γ Int},intsOf ds=↑ns->ds=ns.map PyData.int
 |[],ns,h=>by cases h;rfl
 |d::r,ns,h=>by
  cases d<;>simp?[intsOf]at h<;>try cases h
  let(n,H,rfl):=ai h;rw[fI H];rfl
def dc:∀ns ,intsOf (ns.map PyData.int)=↑ns
 |[]=>rfl
 |n::ns=>by simp[intsOf,dc ns]
def C0:D->Δ (Γ Int)|.tuple d=>(intsOf d).bind λn=>if n=[]then none else↑n|_=>none
def Bq(h:C0 d=↑ns):d=af ns/\ns≠[]:=by
 cases d<;>try cases h
 let(m,a,H):=bs h;split at H
 .cases H
 .rename_i n;cases H;rw[fI a];exact{rfl,n}
def E3(h:ns≠[]):C0 (af ns)=↑ns:=by
 simp?[af,C0,dc,zA];rw[yN h]
def rowsOf:Γ D->Δ (Γ<|Γ Int)
 |[]=>↑[]
 |d::r=>(C0 d).bind λn=>(rowsOf r).map (n::·)
def pE:∀{ds:Γ D}{nss:Γ _},rowsOf ds=↑nss->ds=nss.map af/\∀ns∈nss,ns≠[]
 |[],nss,h=>by cases h;simp
 |d::r,nss,h=>by
  let(ns,H,h):=bs h;let(t,a,rfl):=ai h;let(e,n):=Bq H;let(E,b):=pE a
  grind
def lU:∀{nss:Γ _},(∀ns∈nss,ns≠[])->rowsOf (nss.map af)=↑nss
 |[],_=>rfl
 |ns::r,h=>by
  simp[zI,rowsOf,E3<|h ns zE,zA,lU λm H=>h m<|zC _ H,zB]
structure n8(h:Heap)(v:Value)(ns:List Int):Prop where
 ex:∃ (a:Ψ) (o:Obj) (VE:Array Θ) (n:Nat),v=.ref a/\h.get? a=↑o/\o.cls=.type "tuple"/\o.data=.seq VE n/\IntsAre VE.toList ns
def n8.keep(r:n8 h v ns)(k:∀b o,h.get? b=↑o->h'.get? b=↑o):n8 h' v ns:=let ⟨a,o,E,n,e,c,d,f,g⟩:=r.ex;{a,o,E,n,e,k _ _ c,d,f,g}
def sO:∀{vs:Γ Θ}{nss:Γ (Γ Int)},Paired (n8 h) vs nss->(∀ns∈nss,ns≠[])->∃fs:Γ Θ,W.KatTups h vs fs/\fs.length=vs.length/\∀f∈fs,∃n t,f=Value.int n t
 |_,_,.nil,_=>{[],trivial,rfl,λ_ z=>by grind}
 |_,_,.cons (a:=v) (b:=ns) r p,H=>by
  let(fs,k,l,u):=sO p λm M=>H m<|zC _ M;let(a,o,E,n,rfl,c,d,i,e):=r.ex;cases s:E.toList with
  |nil =>
   rw[s]at e;cases e;exact absurd rfl (H [] zE)
  |cons f R =>
   rw[s]at e;cases e with
   |cons m t w =>
    have j:E[0]?=↑(.int m t):=by
     have:E.toList[0]?=↑(.int m t):=by rw[s];rfl
     simpa using this
    exact⟨.int m t::fs,.cons c d i j k,by simp[l],λg G=>by
     rcases List.mem_cons.mp G with q|q
     .exact{m,t,q}
     .exact u g q⟩
def gC:∀{l:Γ α}{m:Γ β}{i:Nat},Paired R l m->i<l.length->R (l.getD i d) (m.getD i d')
 |_,_,i,.nil,h=>by simp at h
 |_,_,0,.cons r _,_=>r
 |_,_,i+1,.cons _ p,h=>by simpa using gC p (by simpa using h)
def Aw(L:Y4.aaY s.heap l vs)(p:Paired (n8 s.heap) vs nss)(N:∀ns∈nss,ns≠[])(Y:vs.length<64)
  (h:∀(h':ι)(D:Ψ)(c:Nat),(∀b o,s.heap.get? b=↑o->h'.get? b=↑o)->s.heap.objs.size<=D->h'.get? D=↑(seqObj "list" (Y4.V3 (λi=>rk nss<|nss.getD i []) vs).toArray c)->Q (.ref D) {s with heap:=h'}) :
  wpAny (model prog w) A (call (.builtin "sorted") [.ref l]) Q E s:=by
 refine Y4.aaZ L Y _ (tuples' true) (λx h' k K q=>?_) (λx h' k i j C y J q=>?_) h
 .let(fs,t,H,F):=sO (Paired.abS p λ_ _ r=>r.keep k) N;refine W.kat_kind (T:=.type "int") t (by lia) (λv z=>?_) (by rfl) q;let(n,t,rfl):=F v z;exact .of_pure rfl
 .have H:=p.length;let(a,o,f,n,u,g,M,m,e):=((gC p y).keep k).ex;let(b,P,I,O,B,f1,f2,f3,f4):=((gC p J).keep k).ex;rw[W.kas_ask,u,B];have d:nss.getD i []∈nss:=by
   rw[zG,zK<|by lia];apply qA
  have G:C (lexLt (nss.getD i [])<|nss.getD j []) {s with heap:=h'}:=by
   rw[G7 d];exact q
  apply W.kat_lt g m f1 f3;have:=rY (prog:=prog) (w:=w) (A:=A.in1.in1) 0 e f4 G;rw[(show f.size=(nss.getD i []).length by have:=vU e;omega),(show I.size=(nss.getD j []).length by have:=vU f4;omega)];exact this
def AL(z:Nat->Int)(l:Γ α)(d:α):Γ α:=if l.length<2 then l else(SP.run (SP.ik z)<|W.kas_sort l.length).toList.map λi=>l.getD i d
def ku(l:Γ α)(d:α):(List.range l.length).map (λi=>l.getD i d)=l:=by
 apply jG
 .simp
 .intro i a H;simp[H]
def jy(z:Nat->Int)(l:Γ α)(d:α):(AL z l d).Perm l:=by
 unfold AL;split
 .rfl
 .have:=((SP.iY (z:=z) (n:=l.length)<|by lia).1).map λi=>l.getD i d;rw[ku]at this;lia
def CP(nss:Γ (Γ Int)):AL (λi=>rk nss<|nss.getD i []) nss []=lN nss:=by
 refine wg (jy _ _ _) ?_;unfold AL;split
 .rename_i h
  match nss,h with
  |[],_=>exact List.Pairwise.nil
  |[a],_=>exact List.pairwise_singleton _ _
 .rename_i h;let(p,s):=SP.iY (z:=λi=>rk nss<|nss.getD i []) (n:=nss.length) (by lia);rw[jD]at s ⊢;refine s.imp_of_mem λ{i j}I J N=>?_;have H:j<nss.length:=by have:=p.mem_iff.mp J;simpa using this
  unfold lexLe;rw[G7 (l:=nss) (a:=nss.getD j []) (by rw[zG,zK H];exact qA _)];simp?[yP,xB];lia
def sk{K:Φ}(z:Nat->Int)(r:ar K HF ds vs):ar K HF (AL z ds .none) (AL z vs .VC):=by
 unfold AL;rw[r.length];split
 .lia
 .let(p,_):=SP.iY (n:=ds.length) (by lia);have k:∀l:Γ Nat,(∀i∈l,i<ds.length)->ar K HF (l.map λi=>ds.getD i .none) (l.map λi=>vs.getD i .VC):=λl=>by
   induction l with
   |nil=>exactλ_=>.nil
   |cons i l I =>
    intro L;have H:=L i zE;let(v,e,E):=r.getD<|zK H;refine ar.cons ?_<|I λj J=>L j<|zC _ J;dsimp only;rw[zG,zG,e,zK H];exact E
  exact k _ λi H=>by have:=p.mem_iff.mp H;simpa using this
def qr(z:Nat->Int)(r:aG vs us):aG (AL z vs .VC) (Y4.V3 z us):=by
 unfold AL Y4.V3;rw[r.length];split
 .exact r
 .rename_i h;let(p,_):=SP.iY (z:=z) (n:=us.length) (by lia);have k:∀l:Γ Nat,(∀i∈l,i<vs.length)->aG (l.map λi=>vs.getD i .VC) (l.map λi=>us.getD i Value.none):=λl=>by
   induction l with
   |nil=>exactλ_=>.nil
   |cons i l I =>
    intro L;have H:=L i zE;let(v,e,E):=r.get<|zK H;refine .cons ?_<|I λj J=>L j<|zC _ J;dsimp only;rw[zG,zG,e,zK H];exact E
  exact k _ λi H=>by have:=p.mem_iff.mp H;rw[r.length];simpa using this
def Da(z:Nat->Int)(nss:Γ _):AL z (nss.map af) .none=(AL z nss []).map af:=by
 unfold AL;rw[zD];split
 .rfl
 .rw[zM];let(p,_):=SP.iY (n:=nss.length) (by lia);refine yH λi H=>?_;have Y:=by have:=p.mem_iff.mp H;simpa using this
  simp[Y]
def qf(I:Inv X pins σ H s)(sm:az HF H):∀{nss:Γ (Γ Int)}{vs:Γ V}{us:Γ Θ},ar X.K HF (nss.map af) vs->aG vs us->Paired (n8 s.heap) us nss
 |[],_,_,h,r=>by rw[h.nil_inv]at r;cases r;exact .nil
 |N::nss,_,_,h,r=>by
  let(v,f,rfl,a,b):=h.cons_inv;cases r with
  |cons r c =>
   refine .cons ?_<|qf I sm b c;unfold af at a;simp?[Rep]at a;let(p,w,rfl,S,R):=a;cases r;let(E,e,(o,O,hc,n,d),_):=I.tuple<|aB sm S;have:w=N.map V.int:=by
    have k:∀{N:Γ Int}{w:Γ V},ar X.K HF (N.map PyData.int) w->w=N.map V.int:=λ{N}=>by
     induction N with
     |nil=>exactλh=>h.nil_inv
     |cons n N i =>
      intro w h;let(v,r,rfl,a,b):=h.cons_inv;simp?[Rep]at a;rw[a,i b];rfl
    exact k R
   subst this;exact{p,o,E.toArray,n,rfl,O,hc,d,intsAre_of e}
def nT:gP X (.builtin "sorted") (λxs H Q=>∃ (HF:Hp) (a:Ψ) (vs:Γ V) (nss:Γ _),xs=[.ref a]/\az HF H/\(iw X.K HF a vs\/gm X.K HF a vs)/\ar X.K HF (nss.map af) vs/\(∀ns∈nss,ns≠[])/\nss.length<64 /\
  ∀Dn us,H Dn=none->ar X.K HF ((lN nss).map af) us->Q (.ref Dn) (upd H Dn<|.lst us)):=by
 intro P s l H xs us Q I r h;let(HF,a,vs,nss,rfl,sm,b,R,N,Y,q):=h;let(u,rfl,x):=vals1 r;cases x;obtain⟨E,v,p,z⟩:∃E ,aG vs E/\Y4.aaY s.heap a E/\vs.length<=sizeLine:=by
  rcases b with b|b
  .let(E,v,p,z):=I.list<|sm.seq b;let(o,O,hc,n,d):=p.isList;exact{E,v,{o,"list",n,.inl rfl,O,hc,d},z}
  .let(E,v,p,z):=I.tuple<|aB sm b;let(o,O,hc,n,d):=(p)
   exact{E,v,{o,"tuple",n,.inr rfl,O,hc,d},z}
 have f:=R.length;rw[zD]at f;refine Aw p (qf I sm R v) N (by have:=v.length;lia) λj Dn c k D e=>?_;have g:=sk (λi=>rk nss<|nss.getD i []) R;rw[Da,CP]at g;refine{.ref Dn,_,I.laid (o:=.lst _) k D {?_,_,c,(qr (λi=>rk nss<|nss.getD i []) v),e},rfl,q Dn _ (I.VH.fresh D) g};rw[(jy _ _ _).length_eq];lia
def dq:Γ D->Δ (Γ D):=λs=>(oneOf s).bind λd=>match d with
 |.list e=>(rowsOf e).bind λn=>if n.length<64 then↑((lN n).map af)else none
 |.tuple e=>(rowsOf e).bind λn=>if n.length<64 then↑((lN n).map af)else none
 |_=>none
def Fm(B:nC X "sorted" (.builtin "sorted"))(A:DA X [e] fs)(j:starEach [e] X.env=(false,eval e X.env)::starEach [] X.env:=by rfl):DF X (.Call (.Name "sorted" p) [e] [] pos) (r8 dq fs):=
 IC nT (by
  intro F H m S d Q sm r g q;let(x,l,g):=bs g;rw[ji l]at r;have k:∀(b:θ)s,ar X.K F [if b then .tuple s else .list s] S->((rowsOf s).bind λn=>if n.length<64 then↑((lN n).map af)else none)=↑d->(∃ (F:Hp) (a:Ψ) (u:Γ V) (n:Γ _),S=[.ref a]/\az F H/\(iw X.K F a u\/gm X.K F a u)/\ar X.K F (n.map af) u/\(∀N∈n,N≠[])/\n.length<64/\∀Dn w,H Dn=none->ar X.K F ((lN n).map af) w->Q (.ref Dn) (upd H Dn<|.lst w)):=λb s r g=>by
   let(n,i,g):=bs g;split at g
   .rename_i Y;cases g;let(v,o,rfl,a,E):=r.cons_inv;rw[E.nil_inv];let(c,f):=pE i;obtain⟨p,u,rfl,h,R⟩:∃p u,v=.ref p/\(iw X.K F p u\/gm X.K F p u)/\ar X.K F s u:=by
     cases b
     .let(p,u,rfl,h,R):=a;exact{p,u,rfl,.inl h,R}
     .let(p,u,rfl,h,R):=a;exact{p,u,rfl,.inr h,R}
    rw[c]at R;exact{F,p,u,n,rfl,sm,h,R,f,Y,λDn w D=>q Dn w _ F (.own sm D) D (sm.free D) av}
   grind
  cases x<;>try cases g
  .exact k false _ r g
  .exact k true _ r g) B A (by decide) (by rfl) j rfl
end Dl
namespace En
open PySem PyProof.Rows
open AutoSeq1 (wpAny_loadPart')
def YK(H:s.heap.IsTupleIter j t k)(ht:s.heap.IsTuple t VE)(a:VE[k]?=↑v)
  (q:∀g,g.IsTupleIter j t (k+1)->Heap.SameBut j s.heap g->Q v {s with heap:=g}):wpAny (model prog w) A (Builtin.SmallTypes.nextOf<|.ref j) Q E s:=by
 let(o,G,c,d):=id H;let(O,T,_,n,D):=ht;refine zV<|qC H.typeIs jQ<|qU jQ H.typeIs F.entry_tuple_iterator_next (zV (m:=field _ 0)<|qS G d rfl (zV<|qS G d rfl (zV<|kG T D ?_)))<|F.args_tuple_iterator_next_1 _;simp[yG,a];refine zV<|wpAny_setField G d (by simp)<|zW {v,rfl,zW<|q _ {_,Heap.get?_update_self _ G<|Obj.isFreed_of_fields<|Obj.data_mapFields d _,(Obj.cls_mapFields ..).trans c,?_}<|.update ..};rw[Obj.data_mapFields d];rfl
def Zo{Q:Θ->Ξ->Prop}(a:A.handled=none)(H:s.heap.IsTupleIter j t k)(ht:s.heap.IsTuple t VE)(v:VE[k]?=none)
  (e:∀g x,Heap.ExtBut j s.heap g->(∃o,g.get? x=↑o/\o.cls=.type "StopIteration")->E (.ref x) {s with heap:=g}):wpAny (model prog w) A (Builtin.SmallTypes.nextOf<|.ref j) Q E s:=by
 let(O,G,c,d):=id H;let(b,T,_,n,D):=ht;refine zV<|qC H.typeIs jQ<|qU jQ H.typeIs F.entry_tuple_iterator_next (zV (m:=field _ 0)<|qS G d rfl (zV<|qS G d rfl (zV<|kG T D ?_)))<|F.args_tuple_iterator_next_1 _;simp[yG,v];refine zV<|wC<|zV<|wpAny_setField G d (by simp)<|zV<|zV<|qL (zV<|wpAny_of_eq (by rfl)<|qL (zV<|wpAny_handled ?_)<|by size_fits) (by size_fits);rw[a];exact zV<|zW<|wpAny_throw<|e _ _ (((Heap.SameBut.update ..).extBut.push _).push _) {_,zX _ rfl,rfl}
def Yj(t:Ψ)(E:Array Θ)(n:Nat)(dd:Δ Ψ)(S:Array (Δ Θ)) :
  Meets (Builtin.«enumerate.__new__» {[.type "enumerate",.ref t],[]}) (λ_ R s=>s.heap.get? t=some {cls:=.type "tuple",dict:=dd,data:=.seq E n,slots:=S} /\
   R (.ok<|.ret<|.ref (s.heap.push {cls:=.type "tuple_iterator",data:=.fields #[.ref t,.int 0 0]}).objs.size)
    {s with heap:=(s.heap.push {cls:=.type "tuple_iterator",data:=.fields #[.ref t,.int 0 0]}).push {cls:=.type "enumerate",data:=.fields #[.none,.bool false,.ref s.heap.objs.size,rawInt 0,.none,.none]}}):=
 .of_wp λp w A R s h=>by
  let(H,g,d,k,o):=s;let(l,h):=h;have Y:=sub_enumerate;have L:Heap.IsTuple (Shared.heap ⟨H,g,d,k,o⟩) t E:={_,l,rfl,n,rfl}
  wp_walk using wpAny_loadPart' l
  refine wpAny_stack_any λst=>zW ?_;split
  .rename_i c _ _ _ _ _;cases(c==Value.type "enumerate")
   .wp_walk using wpAny_loadPart' l,xR L
    exact{_,rfl,h}
   .wp_walk using wpAny_loadPart' l,xR L
    exact{_,rfl,h}
  .wp_walk using wpAny_loadPart' l,xR L
   exact{_,rfl,h}
def YL(ht:s.heap.IsTuple t VE)
  (h:∀h',IsEnum h' (s.heap.objs.size+1) s.heap.objs.size 0 .none->h'.IsTupleIter s.heap.objs.size t 0->h'.objs.size=s.heap.objs.size+2->(∀b o,s.heap.get? b=↑o->h'.get? b=↑o)->Q (.ref<|s.heap.objs.size+1) {s with heap:=h'}) :
  wpAny (model prog w) A (call (.type "enumerate") [.ref t]) Q E s:=by
 let((c,d,D,S),l,hc,n,H):=ht;subst hc H;refine callType_new F.called_enumerate (by rfl) (F.typeCall_enumerate_1 _) (F.newCall_enumerate_1 _) (λobj=>F.args_object_init_2 obj _) F.entry_enumerate_new (Yj t VE n d S) {l,?_};have e:=zX (s.heap.push {cls:=.type "tuple_iterator",data:=.fields #[.ref t,.int 0 0]}) (o:={cls:=.type "enumerate",data:=.fields #[.none,.bool false,.ref s.heap.objs.size,rawInt 0,.none,.none]}) rfl;rw[(show(s.heap.push {cls:=.type "tuple_iterator",data:=.fields #[.ref t,.int 0 0]}).objs.size=s.heap.objs.size+1 by simp)]at e ⊢;refine{{_,e,rfl},h _ e {_,zU _<|zX _ rfl,rfl,rfl} ?_ λb o x=>zU _<|zU _ x};simp
end En
namespace Dl
open PySem L2 PySem.Spec PyProof.Rows
section
variable {ch:Γ Ψ}
def Ae(I:Inv X pins σ H s)(Z:∀b∈ch,di X pins H b)(k:∀b o,b∉ch->s.heap.get? b=↑o->h'.get? b=↑o){T:Ψ}{S:Γ Θ}{xs:Γ V}(t:s.heap.objs.size<=T)(ht:D8 h' T S.toArray)
  (R:aG xs S)(a:xs.length<=sizeLine):Inv X pins σ (upd H T<|.tup xs) {s with heap:=h',toks:=t'}:=by
 have N:∀b o,H b=↑o->b≠T:=λb o e=>aM e<|I.VH.fresh t;have L:∀b o,H b=↑o->b∉ch:=λb o e z=>by rw[(Z b z).1]at e;grind
 refine I.step (λb B=>?_) (λb o _ _ hc e _=>k b o hc e) (λb o _ _ hc e _=>{o.slots,k b o hc e}) (λb o _ e n=>by rw[ak<|(λb o e=>yR (zP (zY e) t):∀b o,s.heap.get? b=↑o->b≠T) b o e];lia)
  (λb o hc e=>{o,k b o hc e}) (λb y e=>by rw[ak<|N b _ e];lia) (λb o u e=>by rw[ak<|N b _ e];lia) (.kept (λb u ⟨q,z⟩=>k b u<|L b _ z) λb u e _=>by rw[ak<|N b _ e];lia) (λm M=>?_) (λb u e=>?_) I.bare
 .let(f,f1,f2,f3,f4,f5):=Z b B;exact{f3,f1,f4,f5}
 .let(o,E,p,O,r):=M;exact{o,E,p,k _ o (λz=>(Z _ z).2.1 rfl) O,r}
 .by_cases B:b=T
  .subst B;rw[av]at e;cases e;exact{a,S,R,ht}
  .rw[ak B]at e;refine(I.VH b u e).Wa (λc v hc=>k c v ?_) (λ_ q=>?_) λc v q _=>?_
   .grind
   all_goals (rw[ak<|N _ _ q];lia)
def RU(I:Inv X pins σ H s)(f:di X pins H b)(h:X.K.lookup a=↑o):a≠b:=by
 rintro rfl;have B:=I.ok.mod.kin a o h;rcases f.2.2.2.1 with z|z
 .exact I.ok.X8 a o B z
 .exact absurd (zP (zY (I.ok.bs a o B).1) z)<|qE _
def Os(I:Inv X pins σ H s)(f:di X pins H b)(h:iw X.K H a xs):a≠b:=by
 rcases h with (h|⟨o,h⟩)|⟨o,VE,n,h,_⟩
 .exact aM h f.1
 .exact aM h f.1
 .exact RU I f h
def Nt(I:Inv X pins σ H s)(f:di X pins H b)(h:gm X.K H a xs):a≠b:=by
 rcases h with (h|⟨o,h⟩)|⟨o,VE,n,h,_⟩
 .exact aM h f.1
 .exact aM h f.1
 .exact RU I f h
end
def TN(q:Hp->Γ V->Prop):It:={λi H=>∃s x,q H s/\s[i]?=↑x,λi H v a=>∃T y,v=.ref T/\H T=none/\a=upd H T (.tup [.int (i:Nat),y])/\∀s,q H s->s[i]?=↑y,λi H=>∃s,q H s/\s.length<=i}
def b8(k:Nat):Γ D->Γ D
 |[]=>[]
 |d::s=>.tuple [.int (k:Nat),d]::b8 (k+1) s
def uN:∀{ds:Γ D}{k i:Nat}{d:D},(b8 k ds)[i]?=↑d->∃x,ds[i]?=↑x/\d=.tuple [.int ((k+i:Nat):Int),x]
 |[],k,i,d,h=>by simp[b8]at h
 |x::ds,k,0,d,h=>by simp[b8]at h;exact{x,rfl,h.symm}
 |x::ds,k,i+1,d,h=>by
  simp?[b8,yY]at h;let(y,H,a):=uN h;refine{y,by simpa using H,?_};rw[a,show k+1+i=k+(i+1)by lia]
def uf:∀ds k,(b8 k ds).length=ds.length
 |[],k=>rfl
 |x::ds,k=>by simp[b8,uf ds _]
def Ei{K:Φ}(h:U HF vs)(mo:∀H H',az H H'->U H vs->U H' vs)(r:ar K HF ds vs):tY K (TN U) HF (b8 0 ds) where
 go:=λi d n w e S s=>by
  let(x,X,rfl):=uN e;rw[jC];let(v,a,R):=r.getD X;have q:=mo _ _ s<|mo _ _ S h;refine{{vs,v,q,a},λy c ⟨T,z,E,t,b,Y⟩=>?_};have:=Y vs q;rw[a]at this;cases this;subst E b;exact{_,.new s t,eU (s.free t)<|ar.cons (by rfl)<|ar.cons (R.mono S) .nil}
 stop:=λn w S s=>{vs,mo _ _ s<|mo _ _ S h,by rw[uf,r.length];apply yM}
def Tg(S a:Hp->Γ V->Prop):It:=⟨λi H=>∃s Y x y,S H s/\a H Y/\s[i]?=↑x/\Y[i]?=↑y,
 λi H v b=>∃T x y,v=.ref T/\H T=none/\b=upd H T (.tup [x,y])/\(∀s,S H s->s[i]?=↑x)/\∀Y,a H Y->Y[i]?=↑y,
 λi H=>∃s Y,S H s/\a H Y/\(s.length<=i\/Y.length<=i)⟩
section
variable {ch:Γ Ψ}
def Er(I:Inv X pins σ H s)(Z:∀b∈ch,di X pins H b)(k:∀b o,b∉ch->s.heap.get? b=↑o->h'.get? b=↑o):Inv X pins σ H {s with heap:=h',toks:=t'}:=by
 have L:∀b o,H b=↑o->b∉ch:=λb o e z=>by rw[(Z b z).1]at e;cases e
 refine I.step (g':=s.gens) (d':=s.drawn) (ch:=ch) (λb B=>?_) (λb o _ _ hc e _=>k b o hc e) (λb o _ _ hc e _=>{o.slots,k b o hc e}) (λb o _ e n=>n)
  (λb o hc e=>{o,k b o hc e}) (λb y e=>e) (λb o u e=>e) (.kept (λb u ⟨q,z⟩ e=>k b u (L b _ z) e) λb u e _=>e) (λm M=>?_) (λb u e=>?_) I.bare
 .let(f,f1,f2,f3,f4,f5):=Z b B;exact{f3,f1,f4,f5}
 .let(o,E,p,O,r):=M;exact{o,E,p,k _ o (λz=>(Z _ z).2.1 rfl) O,r}
 .refine (I.VH b u e).Wa (λc v hc q=>k c v ?_ q) (λ_ q=>q) λc v q _=>q;rcases hc with z|z
  .rw[z];exact L b u e
  .exact L c _ z
end
structure U4(z TI TO i1 i2:Addr):Prop where
 a1:TI≠z
 a2:TO≠z
 a3:i1≠z
 a4:i2≠z
 a5:TI≠TO
 a6:TI≠i1
 a7:TI≠i2
 a8:TO≠i1
 a9:TO≠i2
 a0:i1≠i2
def l6:Γ D->Γ D->Γ D
 |x::s,y::Y=>.tuple [x,y]::l6 s Y
 |_,_=>[]
def rA:∀{xs ys:Γ D}{i:Nat}{d:D},(l6 xs ys)[i]?=↑d->∃x y,xs[i]?=↑x/\ys[i]?=↑y/\d=.tuple [x,y]
 |[],_,i,d,h=>by simp[l6]at h
 |_::_,[],i,d,h=>by simp[l6]at h
 |x::xs,y::ys,0,d,h=>by simp[l6]at h;exact{x,y,rfl,rfl,h.symm}
 |x::xs,y::ys,i+1,d,h=>by
  simp?[l6,yY]at h;let(a,b,H,c,e):=rA h;exact{a,b,by simpa using H,by simpa using c,e}
def nq:∀xs ys,(l6 xs ys).length=min xs.length ys.length
 |[],_=>by rfl
 |_::_,[]=>by rfl
 |x::xs,y::ys=>by simp[l6,nq xs ys]
def Gr{K:Φ}(c:U HF vs)(m:∀H H',az H H'->U H vs->U H' vs)(f:sq2 HF us)(M:∀H H',az H H'->sq2 H us->sq2 H' us)(r1:ar K HF xs vs)(r:ar K HF ys us) :
  tY K (Tg U sq2) HF (l6 xs ys) where
 go:=λi d n k e s S=>by
  let(x,y,X,Y,rfl):=rA e;let(v,j,z):=r1.getD X;let(u,g,R):=r.getD Y;have q:=m _ _ S<|m _ _ s c;have q2:=M _ _ S<|M _ _ s f;refine{{vs,us,v,u,q,q2,j,g},λw C z=>?_};let(T,a,b,l,t,o,A,p):=z;have E:=A vs q;have B:=p us q2;rw[j]at E;rw[g]at B;cases E;cases B;subst l o;exact{_,.new S t,eU (S.free t)<|ar.cons (z.mono s)<|ar.cons (R.mono s) .nil}
 stop:=λn k s S=>{vs,us,m _ _ S<|m _ _ s c,M _ _ S<|M _ _ s f,by rw[nq,r1.length,r.length];lia}
def cut(xs:Γ α)(lo hi:Δ Int):Γ α:=(xs.drop<|HT.e8 xs.length 0 lo).take<|HT.e8 xs.length xs.length hi-HT.e8 xs.length 0 lo
def Ke(xs:Γ α)(lo hi:Δ Int):(cut xs lo hi).length<=xs.length:=by
 unfold cut;rw[jV,qH];lia
def rG{K:Φ}(r:ar K H ds vs)(lo hi:Δ Int):ar K H (cut ds lo hi) (cut vs lo hi):=by
 unfold cut;rw[r.length];exact(r.drop _).take _
section
def D7{vl:Θ}{lo:Δ Int}(ht:IsTup s.heap t VE)(hs:s.heap.IsSliceOf sl vl U .none)(pl:IsPart vl lo)(p:IsPart U hi)
  (hw:HT.e8 VE.size 0 lo=0/\HT.e8 VE.size VE.size hi=VE.size)(h:Q (.ref t) s):wpAny (model prog w) A (getItem (.ref t)<|.ref sl) Q E s:=by
 let(o,Z,H,Y):=id hs;unfold getItem
 try with_reducible apply xX
 refine zV<|wpAny_sequenceKey ht.typeIs (by rfl)<|zV<|qC ht.typeIs jE<|qU jE ht.typeIs entry_tuple_getitem (zV (m:=Builtin.Tuple.tupleItemsOf _)<|tupleItemsOf_ ht<|zV<|wI ({o,Z,H}:s.TypeIs (.ref sl) _)<|zV<|HT.iG hs pl p ?_)<|args_tuple_getitem _ _;show wpAny _ _ (if((HT.e8 VE.size 0 lo:Int)==0&&1==1&&(HT.e8 VE.size VE.size hi-HT.e8 VE.size 0 lo)==VE.size)=true then _ else _) _ _ s;rw[hw.1,hw.2,yL<|by simp];exact zV<|zV<|wI ht.typeIs<|zW<|zV<|wC<|zW {_,rfl,zW h}
def To(K:Φ):V->Δ Int->Δ Int->Hp->VK->Prop:=λx l i H Q=>∃a s,x=.ref a/\gm K H a s/\(cut s l i=s->Q (.ref a) H)/\∀p,H p=none->Q (.ref p) (upd H p<|.tup<|cut s l i)
def PB:MQ X (To X.K):=by
 intro p s d H x v vl U l i L Q I R b P u h;let(a,S,rfl,c,q,q2):=h;by_cases hw:HT.e8 S.length 0 l=0/\HT.e8 S.length S.length i=S.length
 .cases R;let(E,r,ht,z):=I.tuple c;have n:E.toArray.size=S.length:=by rw[zH];exact r.length.symm
  refine{"tuple",_,PyProof.Rows.slot_tuple_getitem.lookup,ht.typeIs,D7 ht b P u (by rw[n];exact hw) {.ref a,H,I,rfl,q ?_}};unfold cut;rw[hw.1,hw.2,List.drop_zero,Nat.sub_zero,List.take_length]
 .exact N8 p s d H (.ref a) v vl U l i L Q I R b P u {a,S,rfl,c,hw,q2}
def Tj(K:Φ):V->Δ Int->Δ Int->Hp->VK->Prop:=λx l i H Q=>∃a s,x=.ref a/\iw K H a s/\∀p,H p=none->Q (.ref p) (upd H p<|.lst<|cut s l i)
def Bh(lo hi:Δ Int)(n:Nat):sliceBounds lo hi none n=(((HT.e8 n 0 lo:Nat):Int),((HT.e8 n n hi:Nat):Int),1):=by
 have H:(1:Int) > 0:=by lia
 refine Prod.ext ?_<|Prod.ext ?_ rfl
 .cases lo with
  |none=>simp[sliceBounds,HT.e8]
  |some x =>
   by_cases h:x<0
   .simp?[sliceBounds,HT.e8,kL,H,xH,yL h];lia
   .simp?[sliceBounds,HT.e8,kL,H,xH,yN h];lia
 .cases hi with
  |none=>simp[sliceBounds,HT.e8]
  |some x =>
   by_cases h:x<0
   .simp?[sliceBounds,HT.e8,kL,H,xH,yL h];lia
   .simp?[sliceBounds,HT.e8,kL,H,xH,yN h];lia
def JN:MQ X (Tj X.K):=by
 intro P s e H x v vl U l i d Q I R b L u h;let(a,S,rfl,c,q):=h;cases R;let(E,r,p,z):=I.list c;have n:=r.length;refine{"list",_,slot_list_getitem.lookup,p.isList.typeIs,wpAny_getItem_list_slice p.isList b L u .none (by simp) ?_<|by grind};rw[W.kmk_pick_nat E.toArray<|Bh l i E.toArray.size];exact{.ref s.heap.objs.size,_,I.ab3 (show aG (cut S l i) (cut E l i)by rw[cut,n];apply(r.drop _).take)<|yD (Ke S l i) z,rfl,q _ I.fresh}
def Vi(K:Φ)(f:Env->Δ (Δ Int)):TO:=λc H Q=>∃F b o,az F H/\cu K F b c/\f b=↑o/\∀a D,bc F H D a->Q o a
def DO(X:Cx)(e:Δ γ)(f:Env->Δ (Δ Int)):Prop:=PO X e<|Vi X.K f
def kc:Env->Δ (Δ Int):=λ_=>↑none
def gI:D->Δ Int|.int i=>↑i|_=>none
def zt(f:Env->Δ D):Env->Δ (Δ Int):=λa=>(f a).bind λd=>(gI d).map some
def KO:DO X none kc:=λp s a H Q I z=>by let(F,b,o,sm,e,f,q):=z;exact Kx p s a H Q I (by cases f;exact q H F<|.refl sm)
def JG(h:DE X e f):DO X (↑e) (zt f):=λp s k H Q I ⟨b,j,o,sm,E,F,q⟩=>Lb h p s k H Q I (by
 let(d,D,F):=bs F;let(i,c,rfl):=ai F;cases d<;>try cases c
 exact{b,j,_,sm,E,D,λv a G g r1=>{_,by exact r1,q a G g}})
variable {lo hi:Δ γ}{fl fh:Env->Δ (Δ Int)}
def kf(g:D->Δ Int->Δ Int->Δ β)(fa:Env->Δ D)(fl fh:Env->Δ (Δ Int)):Env->Δ β:=λa=>(fa a).bind λx=>(fl a).bind λl=>(fh a).bind λh=>g x l h
end
def f1(g:D->Δ D)(f:Env->Δ D):Env->Δ D:=λa=>(f a).bind g
end Dl
namespace HT
open PySem PyProof.Rows
section
open PySem.SeqAt
open PySem.AutoSeq1 (wpAny_loadPart')
open PySem.MeetsSeq PySem.MeetsSeq2 PySem.MeetsSeq3
def IH(A:ξ)(s:Ξ)(a:Int)(t:Tok)(c:Int)(u:Tok)(prog:ε)(w:δ)(E:Θ->Ξ->Prop)(Q:Θ->Ξ->Prop)(h:Q (.bool<|decide (c<=a)) s) :
  wpAny (model prog w) A (richCompare .GtE (.int a t)<|.int c u) Q E s:=
 (PyProof.Rows.ge_int h:wpAny (model prog w) A (compareOp .GtE (.int a t)<|.int c u) Q E s)
def tL(l b:Ψ)(items W:Array Θ)(n n2:Nat)(dd D:Δ Ψ)(sl Z:Array (Δ Θ))(ns M:Γ Int)(hi:IntsAre items.toList ns)(J:IntsAre W.toList M) :
  Meets (Builtin.«tuple.__ge__» {[.ref l,.ref b],[]})
   (λ_ R s=>s.heap.get? l=some {cls:=.type "tuple",dict:=dd,data:=.seq items n,slots:=sl}/\s.heap.get? b=some {cls:=.type "tuple",dict:=D,data:=.seq W n2,slots:=Z} /\
    R (.ok<|.ret<|.bool<|!lexLt ns M) s):=
 .of_wp λp w A R s h=>by
  let(P,g,d,k,o):=s;let(T,O,h):=h;have f2:=AutoSeq1.sub_tuple_tuple;have z1:items.size=ns.length:=by rw[<-hi.length];simp
  have z2:W.size=M.length:=by rw[<-J.length];simp
  wp_walk using wpAny_loadPart' T,wpAny_loadPart' O,wpAny_forIn_list _ (λr b G=>b.1=none/\G=⟨P,g,d,k,o⟩/\∃ (v S:Γ Θ) (N m:Γ Int),r=v.zip S /\
   IntsAre v N/\IntsAre S m/\N.length+W.size=m.length+items.size/\R (.ok<|.ret<|.bool<|!lexLt N m) ⟨P,g,d,k,o⟩) _
  case turn =>
   rintro⟨y,x⟩ r b G ⟨E,rfl,v,S,N,m,z,I,i,H,hR⟩;cases I with
   |nil=>rw[List.zip_nil_left]at z;cases z
   |cons a t f =>
    cases i with
    |nil=>rw[List.zip_nil_right]at z;cases z
    |cons c u j =>
     rw[List.zip_cons_cons]at z;injection z with F X
     injection F with hy U
     subst hy U;rw[cy]at hR;simp?[zL]at H;let(e,Q,Y):=Hm A.in1 ⟨P,g,d,k,o⟩ a t c u;refine zV<|Q p w _ _ ?_;cases e with
     |true =>
      rw[yL<|Y.mp rfl]at hR
      wp_walk
      exact{rfl,rfl,_,_,_,_,X,f,j,by lia,hR}
     |false =>
      rw[yN λq=>absurd (Y.mpr q) yZ]at hR;have B:=IH A.in1 ⟨P,g,d,k,o⟩ a t c u p w;have L:(!decide (a<c))=decide (c<=a):=by
       rw[<-decide_not];exact decide_eq_decide.mpr<|by lia
      rw[L]at hR
      wp_walk using B
      exact{_,rfl,hR}
  case fin =>
   rintro⟨b1,b2⟩ G ⟨E,rfl,v,S,N,m,z,I,i,H,hR⟩;simp only at E;subst E;have K:lexLt N m=decide (items.size<W.size):=by
    cases I with
    |nil =>
     cases i with
     |nil =>
      simp?[xK]at H;rw[tq];exact(zZ<|by lia).symm
     |cons c u hw =>
      simp?[xK,zL]at H;rw[r9];exact(yA<|by lia).symm
    |cons a t K =>
     cases i with
     |nil =>
      simp?[xK,zL]at H;rw[sD];exact(zZ<|by lia).symm
     |cons c u hw =>
      rw[List.zip_cons_cons]at z;cases z
   have C:(!lexLt N m)=decide (items.size >= W.size):=by
    rw[K,<-decide_not];exact decide_eq_decide.mpr<|by lia
   rw[C]at hR
   wp_walk
   exact{_,rfl,hR}
  case h =>
   exact{rfl,rfl,items.toList,W.toList,ns,M,rfl,hi,J,by lia,h}
end
end HT
namespace Dl
open PySem L2 PySem.Spec PyProof.Rows
def cC:D->Δ (Γ Int)|.tuple d=>intsOf d|_=>none
def dk(h:cC x=↑ns):x=.tuple (ns.map PyData.int):=by
 cases x<;>try cases h
 rw[fI h]
def Qh:D->D->Δ θ:=λx y=>(cC x).bind λn=>(cC y).map λm=>!lexLt n m
def Pb(U:X.A.units<cLine):il X (compareOp .GtE) (Rn X.K Qh):=by
 intro P s σ H v1 v2 u1 u2 Q I rx ry h;let(j,x,y,k,sm,r1,R,g,q):=h;let(N,L,g):=bs g;let(m,M,rfl):=ai g;rw[dk L]at r1;rw[dk M]at R;have Y:∀{N:Γ Int}{v:V}{u:Θ},Rep X.K j (.tuple<|N.map PyData.int) v->RelV v u->∃a E,u=.ref a/\IsTup s.heap a E/\IntsAre E.toList N:=λ{N v u}r rv=>by
  have p:n8 s.heap u N:=by
   cases qf (X:=X) (us:=[u]) (vs:=[v]) (nss:=[N]) I sm (ar.cons r ar.nil) (.cons rv .nil)with
   |cons p _=>exact p
  let(a,o,E,n,rfl,w,B,G,J):=p.ex;exact{a,E,rfl,{o,w,B,n,G},J}
 let(a,E,rfl,((C,t,f,sl),O,hc,n,i),S):=Y r1 rx;let(b,W,rfl,((l,D,d,z),Z,e,n2,c),T):=Y R ry;simp only at hc i e c;subst hc i e c;exact richCompare_meets_room (op:=.GtE) {_,O,rfl} {_,Z,rfl} PySem.F.slot_tuple_ge PySem.F.entry_tuple_ge (PySem.F.args_tuple_ge_2 _ _) (HT.tL a b E W n n2 t D sl z N m S T)
  {O,Z,show Value.bool (!lexLt N m)≠Value.notImplemented/\EP X P σ Q (.bool<|!lexLt N m) s from {(λx=>nomatch x),{.bl _,H,I,rfl,q}}} U
end Dl
namespace En
open PySem PyProof.Rows
open AutoSeq1 (wpAny_loadPart')
def YM:fillsNumberSlot (.type "tuple") "mul"=pure false:=PySem.fillsNumberSlot_seq F.slot_tuple_mul.lookup (by rfl) F.slot_tuple_rmul.lookup (by rfl)
def YN:seqRepeat? (.type "tuple")=pure (↑(.builtin "tuple.__mul__")):=by
 rw[seqRepeat?,PySem.seqSlot_of (name:="__mul__") F.slot_tuple_mul.lookup<|by rfl,PySem.seqSlot_of (name:="__rmul__") F.slot_tuple_rmul.lookup<|by rfl];rfl
def ZX(a:Int)(t:Tok)(l:Ψ)(E:Array Θ)(n:Nat)(dd:Δ Ψ)(S:Array (Δ Θ)) :
  Meets (Builtin.«int.__rmul__» {[.int a t,.ref l],[]}) (λ_ R s=>s.heap.get? l=some {cls:=.type "tuple",dict:=dd,data:=.seq E n,slots:=S}/\R (.ok<|.ret Value.notImplemented) s):=
 .of_wp λp w A R s h=>by
  let(H,h):=h
  wp_walk
  exact{_,rfl,h}
def Zq(l:Ψ)(E:Array Θ)(n:Nat)(dd:Δ Ψ)(S:Array (Δ Θ))(k:Int)(t:Tok)(a:¬(decide (k < -(2^63))||decide (k >= 2^63))=true)(b:(E.isEmpty||k==1)=true) :
  Meets (Builtin.«tuple.__mul__» {[.ref l,.int k t],[]}) (λ_ R s=>s.heap.get? l=some {cls:=.type "tuple",dict:=dd,data:=.seq E n,slots:=S}/\R (.ok<|.ret<|.ref l) s):=
 .of_wp λp w A R s h=>by
  let(P,g,d,T,o):=s;let(H,h):=h;have f1:=AutoSeq1.idx_int
  wp_walk using wpAny_loadPart' H
  rw[yN a]
  wp_walk using wpAny_loadPart' H
  exact{_,rfl,h}
def Zr(l:Ψ)(E:Array Θ)(n:Nat)(dd:Δ Ψ)(S:Array (Δ Θ))(k:Int)(t:Tok)(a:¬(decide (k < -(2^63))||decide (k >= 2^63))=true)(b:¬(E.isEmpty||k==1)=true)(c:(decide (k<=0)||E.isEmpty)=true) :
  Meets (Builtin.«tuple.__mul__» {[.ref l,.int k t],[]}) (λ_ R s=>s.heap.get? l=some {cls:=.type "tuple",dict:=dd,data:=.seq E n,slots:=S}/\R (.ok<|.ret<|.ref s.heap.objs.size) {s with heap:=s.heap.push {cls:=.type "tuple",data:=.seq #[]}}):=
 .of_wp λp w A R s h=>by
  let(P,g,d,T,o):=s;let(H,h):=h;have f1:=AutoSeq1.idx_int
  wp_walk using wpAny_loadPart' H
  rw[yN a]
  wp_walk using wpAny_loadPart' H
  exact{_,rfl,h}
def Zs(l:Ψ)(E:Array Θ)(n:Nat)(dd:Δ Ψ)(S:Array (Δ Θ))(k:Int)(t:Tok)(a:¬(decide (k < -(2^63))||decide (k >= 2^63))=true)(b:¬(E.isEmpty||k==1)=true)(c:¬(decide (k<=0)||E.isEmpty)=true)
  (h4:¬((E.size:Nat):Int)*k > (2^63-1)/8)(d:¬Builtin.Tuple.tupleTooMany (((E.size:Nat):Int)*k)=true)(z:((List.replicate k.toNat E).foldl (·++·) #[]).size<=sizeLine) :
  Meets (Builtin.«tuple.__mul__» {[.ref l,.int k t],[]}) (λ_ R s=>s.heap.get? l=some {cls:=.type "tuple",dict:=dd,data:=.seq E n,slots:=S}/\R (.ok<|.ret<|.ref s.heap.objs.size) {s with heap:=s.heap.push {cls:=.type "tuple",data:=.seq ((List.replicate k.toNat E).foldl (·++·) #[])}}):=
 .of_wp λp w A R s h=>by
  let(H,h):=h
  wp_walk using wpAny_loadPart' H
  rw[yN a]
  wp_walk using wpAny_loadPart' H
  rw[yN h4]
  wp_walk using wpAny_loadPart' H
  exact{_,rfl,h}
end En
namespace Dl
open PySem L2 PySem.Spec PyProof.Rows
def Nc(K:Φ):R2:=λx y H Q=>∃a k s,x=.ref a/\y=.int k/\gm K H a s/\-(2^62)<=k/\k<2^62/\s.length*k.toNat<=sizeLine/\((List.replicate k.toNat s).flatten=s->Q (.ref a) H) /\
 ∀p,H p=none->Q (.ref p) (upd H p<|.tup (List.replicate k.toNat s).flatten)
def Ms:il X (binaryOp .Mult) (Nc X.K):=by
 intro p s σ H x y v u Q I R Y h;let(a,k,Z,rfl,rfl,w,k1,k2,hz,J,q2):=h;cases R;let(t,rfl):=Y;let(E,r,P,G):=I.tuple w;have hl:=r.length;let((C,d,D,l),O,hc,n,g):=id P;simp only at hc g;subst hc g;have B:¬(decide (k < -(2^63))||decide (k >= 2^63))=true:=by
  grind
 refine wpAny_binaryOp_repeat_ref (T:="tuple") (U:="int") (by rfl) {_,O,rfl} (λS=>typeIs_int S k t) En.YM F.fills_int_mul F.slot_int_rmul En.YN F.slot_int_index.lookup
  (qV F.slot_int_rmul (typeIs_int s k t) F.entry_int_rmul (F.args_int_rmul_2 _ _) (En.ZX k t a E.toArray n d l) {O,rfl,{_,O,rfl},?_})
 have W:∀m:Nat,List.foldl (λL M=>L++M) #[] (List.replicate m E.toArray)=(List.replicate m E).flatten.toArray:=λm=>by
  have:=foldl_rep E m []
  grind
 by_cases c:(E.toArray.isEmpty||k==1)=true
 .refine qV F.slot_tuple_mul {_,O,rfl} wQ (wG _ _) (En.Zq a E.toArray n d l k t B c) {O,{.ref a,H,I,rfl,J ?_}};rw[jA]at c;rcases c with c|c<;>simp_all
 .by_cases f:(decide (k<=0)||E.toArray.isEmpty)=true
  .refine qV F.slot_tuple_mul {_,O,rfl} wQ (wG _ _) (En.Zr a E.toArray n d l k t B c f) {O,?_};have e:k.toNat=0:=by
    grind
   have i:=q2 s.heap.objs.size I.fresh;rw[e]at i;exact{.ref s.heap.objs.size,_,I.laid (t':=s.toks) (o:=.tup []) (λb ob q=>zU _ q) (yM _) {xV _,[],.nil,D8.new _ _},rfl,i}
  .have hm:E.length*k.toNat<=sizeLine:=by grind
   have N:(k.toNat:Int)=k:=by
    grind
   have ZY:((E.toArray.size:Nat))*k=E.length*k.toNat:=by grind
   have A:(List.replicate k.toNat Z).flatten.length<=sizeLine:=by rw[len_rep,Nat.mul_comm];lia
   have z:sizeLine<=(2^63-1)/8:=by decide
   have j:¬Builtin.Tuple.tupleTooMany (E.toArray.size*k)=true:=by
    unfold Builtin.Tuple.tupleTooMany
    grind
   refine qV F.slot_tuple_mul {_,O,rfl} wQ (wG _ _) (En.Zs a E.toArray n d l k t B c f (by lia) j<|by simp_all) {O,?_};rw[W];exact{.ref s.heap.objs.size,_,I.laid (o:=.tup _) (λb ob=>zU _) (yM _) {A,_,(L2.aG.rep r k.toNat),.new _ _},rfl,q2 _ I.fresh}
def HS:D->D->Δ D
 |.tuple d,.int k=>if FA k=true/\d.length*k.toNat<=sizeLine then↑(.tuple (List.replicate k.toNat d).flatten)else none
 |_,_=>none
def sy{K:Φ}(r:ar K HF ds vs):∀k ,ar K HF (List.replicate k ds).flatten (List.replicate k vs).flatten
 |0=>.nil
 |k+1=>by exact r.append<|sy r k
def GR{K:Φ}:fy K (Nc K) HS:=by
 intro F H x y c f d Q sm r1 R g q;cases x<;>cases y<;>simp?[HS]at g<;>try grind
 split at g
 .rename_i s k b;cases g;let(a,v,rfl,A,r):=r1;have o:=b.1;rw[FA,zF]at o;refine{a,k,v,rfl,R,aB sm A,yQ o.1,yQ o.2,by rw[r.length];exact b.2,λe=>q _ H F (.refl sm) ?_,λp P=>q _ _ _ (.new sm P)<|eU (sm.free P)<|sy r _};simp[Rep];have:=sy r k.toNat
  grind
 grind
end Dl
namespace En
open PySem PyProof.Rows
def Zt(hh:A.handled=none)(hl:s.heap.IsTuple l VE)(hi:IntsAre VE.toList ns)(hb:VE.size+1<scanBound)
  (h:∀(h':ι)(k:Nat),h'.SetOf (intKind prog w) s.heap.objs.size (λK=>(firstMet (λi=>ns.getD i 0) VE.size).any (· == K)) (firstMet (λi=>ns.getD i 0) VE.size).length->(∀b o,b<s.heap.objs.size->s.heap.get? b=↑o->h'.get? b=↑o)->Q (.ref s.heap.objs.size) {s with heap:=h',toks:=k}) :
  wpAny (model prog w) A (call (.type "set") [.ref l]) Q E s:=by
 let(c,tl,O):=F.called_set.mro;have M:=F.called_set.made;have Yk:=F.called_set.sub;refine vI<|codeAny_of_tree ?_;show wpAny _ _ (callAny (.type "set") _) _ _ _;refine zW {wH _<|by decide +kernel,kE F.entry_type_call ?_};rw[Around.under_plain (weight_type_call_type "set" [.ref l] []) rfl];have h1:=F.called_set.notType;have h2:=F.called_set.canCreate;have hct:=F.typeCall_set_1<|.ref l
 repeat (any_goals (first|assumption|wp_step))
 refine jR (code_set_new_1 (.ref l) (E:=E) (Q₁:=λobj D=>∃d:θ,obj=.ref s.heap.objs.size/\D={s with heap:=s.heap.push {cls:=.type "set",dict:=none,data:=.set #[] 0 (.fresh 0 0 d)}}) λd=>{d,rfl,rfl}) λr D z=>?_;cases r with
 |error e=>exact z
 |ok fl =>
  cases fl with
  |ret obj =>
   let(d,rfl,rfl):=z;have B:(s.heap.push {cls:=.type "set",dict:=none,data:=.set #[] 0 (.fresh 0 0 d)}).get? s.heap.objs.size=some {cls:=.type "set",dict:=none,data:=.set #[] 0 (.fresh 0 0 d)}:=by exact zX _ rfl
   have hT:Shared.TypeIs {s with heap:=s.heap.push {cls:=.type "set",dict:=none,data:=.set #[] 0 (.fresh 0 0 d)}} (.ref s.heap.objs.size) "set":={_,B,rfl}
   have hli:=F.called_set.init.lookup;have hbi:=F.called_set.init.bind<|.ref s.heap.objs.size
   repeat (any_goals (first|assumption|wp_step))
   refine jR (vX (R:=wants (λr G=>r=.none/\∃h' k,G={s with heap:=h',toks:=k}/\h'.SetOf (intKind prog w) s.heap.objs.size (λK=>(firstMet (λi=>ns.getD i 0) VE.size).any (· == K)) (firstMet (λi=>ns.getD i 0) VE.size).length /\
     (∀b o,b<s.heap.objs.size->s.heap.get? b=↑o->h'.get? b=↑o)) E) F.called_set.init.plain F.entry_set_init<|check_set_init_1 hT ?_) λr2 G H=>?_
   .let(ol,g,Y,N,L):=hl;let(ajy,C,P,I):=ol;simp only at Y L;subst Y L;have a:(s.heap.push {cls:=.type "set",dict:=none,data:=.set #[] 0 (.fresh 0 0 d)}).get? l=some {cls:=.type "tuple",dict:=C,data:=.seq VE N,slots:=I}:=zU _ g;have ajz:=F.sub_tuple_set;have U:=F.sub_tuple_frozenset;have VZ:(Value.type "tuple"==Value.type "dict")=false:=by decide
    have y:(s.heap.push {cls:=.type "set",dict:=none,data:=.set #[] 0 (.fresh 0 0 d)}).IsTuple l VE:={_,a,rfl,N,rfl}
    unfold Builtin.«set.__init__» noKeywords Builtin.Frozenset.updateFrom;generalize q:pyIter=PI
    wp_walk
    subst q;refine xR y<|zV<|wpAny_runValue ?_;have f:l<s.heap.objs.size:=zY g;have x:A.in1.in1.in1.handled=none:=by simp[hh]
    have j:l≠(s.heap.push {cls:=.type "set",dict:=none,data:=.set #[] 0 (.fresh 0 0 d)}).objs.size:=by rw[xJ];exact yR<|jN f
    have u:s.heap.objs.size∉[(s.heap.push {cls:=.type "set",dict:=none,data:=.set #[] 0 (.fresh 0 0 d)}).objs.size,l]:=by
     rw[xJ];simp?[zR,yF,xU,not_or];exact{yR<|kM _,jH f}
    have Z:∀(i:Nat)(v:Θ),VE[i]?=↑v->∃t,v=.int ((λi=>ns.getD i 0) i) t:=λi v hv=>IntsAre.int_at hi i v (by rw[Array.getElem?_toList];exact hv);refine codeAny_set_update_loopS ((Walks.tuple x _ l j VE).toS) s.heap.objs.size u (λi=>ns.getD i 0) Z hb (VE.size-0) 0 _ (by lia) (xV _) {{_,zX _ rfl,rfl,rfl},?ht} ?hS0 ?hR
    case ht=>exact{_,zU _ a,rfl,N,rfl}
    case hS0 =>
     have n:((s.heap.push {cls:=.type "set",dict:=none,data:=.set #[] 0 (.fresh 0 0 d)}).push {cls:=.type "tuple_iterator",data:=.fields #[.ref l,.int 0 0]}).get? s.heap.objs.size=some {cls:=.type "set",dict:=none,data:=.set #[] 0 (.fresh 0 0 d)}:=by exact zU _ B
     exact SetOf_congr ((setObjOf_fresh (knd:=intKind prog w) d).setOf n (by unfold scanBound;lia)) (λ_=>rfl) rfl
    case hR =>
     intro s' m S;let(h',g',d',T,J):=s';have eg:g'=s.gens:=m.gens;have ed:d'=s.drawn:=m.drawn;have eo:J=s.os:=m.os;subst eg ed eo;show wpAny _ _ _ _ _ _;refine zW ?_;show wpAny _ _ (ret Value.none) _ _ _;refine zW {rfl,h',T,rfl,S,λb o W e=>?_};refine m.heap b o ?_<|zU _<|zU _ e;simp?[zR,yF,xU,not_or];exact{yR W,by rw[xJ];exact yR<|jN W}
   .cases r2 with
    |error e=>exact H
    |ok p =>
     cases p with
     |ret r =>
      let(rfl,h',k,rfl,S,X):=H
      repeat (any_goals (first|assumption|wp_step))
      exact h _ _ S X
     |_=>exact H.elim
  |_=>exact z.elim
end En
namespace Dl
open PySem L2 PySem.Spec PyProof.Rows
variable {env:PySem.Env}
def many(ns:Γ Int):Nat:=(firstMet (λi=>ns.getD i 0) ns.length).length
def E9(hc:X.calm=true):gP X (.type "set") (λxs H Q=>∃ (a:Ψ) (ns:Γ Int),xs=[.ref a]/\gm X.K H a (ns.map V.int)/\ns.length+1<scanBound/\∀q S,H q=none->Q (.ref q) (upd H q<|.set S<|many ns)):=by
 intro p s g H xs U Q I r h;let(a,ns,rfl,f,B,q):=h;let(u,rfl,x):=vals1 r;cases x;let(E,v,l,z):=I.tuple f;have n:E.toArray.size=ns.length:=by have:=v.length;grind
 refine En.Zt (I.ok.hd hc) (l) (intsAre_of v) (by rw[n];exact B) λd t c hk=>?_;rw[n]at c;exact{.ref s.heap.objs.size,_,I.laid (λb o e=>hk b o (zY e) e) (yM _) (show dX X.prog X.w _ d _ (.set _ _)from c),rfl,q _ _ I.fresh}
def E7:gP X (.builtin "len") (λxs H Q=>∃ (a:Ψ) (S:Int->θ) (n:Nat),xs=[.ref a]/\H a=↑(.set S n)/\Q (.int n) H):=by
 intro p s c H xs U Q I r h;let(a,S,n,rfl,b,q):=h;let(u,rfl,R):=vals1 r;cases R;let(o,e,E,t,O,x,D,l,A,W,f,N):=(show s.heap.SetOf (intKind X.prog X.w) a S n from I.VH a _ b)
 have d:((e.size:Nat):Int)<2^63:=by unfold scanBound at W;lia
 refine call_len_set O x D f d {.int n,H,I.tok _,{s.toks+1,by rw[N]},q}
def m5:D->Δ D:=λd=>(cC d).bind λn=>if n.length+1<scanBound then↑(.int<|many n)else none
def Fb(hc:X.calm=true)(B:nC X "len" (.builtin "len"))(C:nC X "set" (.type "set"))(h:DE X e f)(E:starEach [e] X.env=(false,eval e X.env)::starEach [] X.env:=by rfl) :
  DE X (.Call (.Name "len" p) [.Call (.Name "set" U) [e] [] pos'] [] pos) (f1 m5 f):=
 aF (kz E7 B.gl B.mg B.bt (ba (uD (E9 hc) C.gl C.mg C.bt (ba h cf E) (by decide) (by decide) E rfl) cf) (by decide) (by decide) rfl rfl) λD H Q z=>by
  let(c,t,d,sm,o,F,q):=z;let(x,m,F):=bs F;let(s,i,F):=bs F;split at F
  .rename_i j;cases F;refine{c,t,x,sm,o,m,λy u G g r1=>?_};rw[dk i]at r1;simp?[Rep]at r1;let(a,A,rfl,l,R):=r1;have k:∀{s:Γ Int}{w:Γ V},ar X.K G (s.map PyData.int) w->w=s.map V.int:=λ{s}=>by
    induction s with
    |nil=>exactλh=>h.nil_inv
    |cons n s I =>
     intro w h;let(v,r,rfl,a,b):=h.cons_inv;simp?[Rep]at a;rw[a,I b];rfl
   have:=k R;subst this;refine{a,s,rfl,aB g.fh l,j,λb S W=>{b,S,_,rfl,av,q _ _ G (g.trans<|.own g.fh W)<|by simp[Rep]}}
  .cases F
def k7(v:Nat->Int):∀i,(firstMet v i).length=i↔((List.range i).map v).Nodup
 |0=>by simp[firstMet]
 |i+1=>by
  have f:=firstMet_length_le v i;rw[firstMet_succ,step_length,vP,qZ,wN];have H:=firstMet_any v i<|v i;have I:=k7 v i;constructor
  .intro h;by_cases Y:(firstMet v i).any (· == v i)=true
   .rw[yL Y]at h;lia
   .rw[yN Y]at h;refine{I.mp<|by lia,by simp,λa m b B z=>?_};have W:b=v i:=by simpa using B
    subst z W;rw[H]at Y;exact Y<|List.any_eq_true.mpr {_,m,by simp}
  .rintro⟨c,_,d⟩;rw[yN ?_]
   .rw[I.mpr c]
   .rw[H];intro Y;let(x,X,E):=List.any_eq_true.mp Y;have e:x=v i:=by simpa using E
    exact d x X (v i) (by simp) e
def Cj(ns:Γ Int):many ns=ns.length↔ns.Nodup:=by
 unfold many;rw[k7];have:(List.range ns.length).map (λi=>ns.getD i 0)=ns:=ku ns 0;rw[this]
def uT{K:Φ}(h:fy K r g)(h':fy K U g'):fy K (λx y H Q=>r x y H Q\/U x y H Q) (λx y=>(g x y).or<|g' x y):=by
 intro F H x y v a d Q sm r1 R G q;cases e:g x y with
 |some D =>
  have G:(g x y).or _=↑d:=G;rw[e]at G;cases G;exact .inl (h F H x y v a d Q sm r1 R e q)
 |none =>
  have G:(g x y).or _=↑d:=G;rw[e]at G;exact .inr<|h' F H x y v a d Q sm r1 R G q
def EA{K:Φ}:fy K (GM K) (λx y=>(pD x y).map PyData.list):=by
 intro F H x y e f d Q sm r1 r G q;let(zs,g,rfl):=ai G;clear G;cases x<;>cases y<;>simp?[pD]at g<;>try cases g
 let(rfl,z):=eV g;simp?[Rep]at r1 r;let(a,v,rfl,A,R):=r1;let(b,u,rfl,c,B):=r;refine{a,b,v,u,rfl,rfl,sm.seq A,sm.seq c,by rw[R.length,B.length,<-zN];exact z,λp P=>q _ _ _ (.new sm P) ?_};simp?[Rep];exact{p,_,rfl,.inl<|.inl av,(R.append B).mono<|eJ<|sm.free P}
def aS:D->D->Δ D:=λx y=>((ye (λ_ _=>True) λi j=>.int<|i+j) x y).or<|(L7 x y).or<|(pD x y).map PyData.list
def Bk.add(C:Bk X N sc k)(H:DE X a fa)(B:DE X b fb):DE X (.BinOp a .Add b pos) (f2 aS fa fb):=Ac (Oy.or<|EH.or sU) (uT A4<|uT LZ EA) H B
def gG:D->D->Δ D:=ye (λ_ _=>True) λi j=>.int<|i-j
def Bk.sub(C:Bk X N sc k)(H:DE X a fa)(B:DE X b fb):DE X (.BinOp a .Sub b pos) (f2 gG fa fb):=Ac FU A4 H B
def hV:D->D->Δ D:=λx y=>((ye wW λi j=>.int<|i*j) x y).or<|HS x y
def Bk.mul(C:Bk X N sc k)(H:DE X a fa)(B:DE X b fb):DE X (.BinOp a .Mult b pos) (f2 hV fa fb):=Ac (Nq.or Ms) (uT Hh GR) H B
def pH:D->D->Δ D:=ye J5 λi j=>.int<|i/j
def Bk.div(C:Bk X N sc k)(H:DE X a fa)(B:DE X b fb):DE X (.BinOp a .FloorDiv b pos) (f2 pH fa fb):=Ac Mc Hh H B
def lK:D->D->Δ D:=ye (λ_ j=>0<j) λi j=>.int<|i%j
def Bk.mod(C:Bk X N sc k)(H:DE X a fa)(B:DE X b fb):DE X (.BinOp a .Mod b pos) (f2 lK fa fb):=Ac NM Hh H B
def MN:D->D->Δ D:=ye (λ_ _=>True) λi j=>.bool<|decide (i<j)
def Me:D->D->Δ D:=ye (λ_ _=>True) λi j=>.bool<|decide (i<=j)
def HM:D->D->Δ D:=ye (λ_ _=>True) λi j=>.bool<|decide (j<i)
def Sz:D->D->Δ D:=λx y=>((ye (λ_ _=>True) λi j=>.bool<|decide (j<=i)) x y).or<|(Qh x y).map PyData.bool
def bV:D->D->Δ D:=λx y=>(Ra x y).map PyData.bool
def dC:D->D->Δ D:=λx y=>(NH x y).map PyData.bool
def Bk.u64(C:Bk X N sc k):X.A.units+64<cLine:=C.room.units
def Bk.u66(C:Bk X N sc k):X.A.units+66<cLine:=by have:=C.room.un;lia
def Bk.eq(C:Bk X N sc k)(H:DE X a fa)(B:DE X b fb):DE X (.Compare a [.Eq] [b] pos) (f2 bV fa fb):=Pi (wX C.u64) lb H B<|gH _
def Bk.tlt(C:Bk X N sc k)(H:DE X a fa)(B:DE X b fb):DT X (.Compare a [.Lt] [b] pos) (fB<|f2 MN fa fb):=j6 RM sE H B<|gH _
def Bk.tgt(C:Bk X N sc k)(H:DE X a fa)(B:DE X b fb):DT X (.Compare a [.Gt] [b] pos) (fB<|f2 HM fa fb):=j6 QX sE H B<|gH _
def Bk.tge(C:Bk X N sc k)(H:DE X a fa)(B:DE X b fb):DT X (.Compare a [.GtE] [b] pos) (fB<|f2 Sz fa fb):=j6 (Q5.or<|Pb C.room.abW) (uT sE lb) H B<|gH _
def Bk.teq(C:Bk X N sc k)(H:DE X a fa)(B:DE X b fb):DT X (.Compare a [.Eq] [b] pos) (fB<|f2 bV fa fb):=j6 (wX C.u64) lb H B<|gH _
def Bk.tne(C:Bk X N sc k)(H:DE X a fa)(B:DE X b fb):DT X (.Compare a [.NotEq] [b] pos) (fB<|f2 dC fa fb):=j6 (IZ C.u64) lb H B<|gH _
def Bk.af5(C:Bk X N sc k)(H:DE X a fa)(B:DE X b fb)(hc:DE X c fc)(m:lastMarks [.LtE,.LtE] [b,c]=false:=by with_unfolding_all rfl):DE X (.Compare a [.LtE,.LtE] [b,c] pos) (me Me Me fa fb fc):=IT MC sE MC sE H B hc m
def fq:D->Δ Int->Δ Int->Δ D|.tuple d,l,i=>↑(.tuple<|cut d l i)|.list d,l,i=>↑(.list<|cut d l i)|_,_,_=>none
def Bk.cut(C:Bk X N sc k){lo:Δ γ}{fl:Env->Δ (Δ Int)}(A:DE X a fa)(L:DO X lo fl)(w:DO X hi fh):DE X (.Subscript a (.Slice lo hi none p2) pos) (kf fq fa fl fh):=aF (Hr (PB.or JN) A L w) λJ H Q z=>by
 let(F,i,d,sm,o,f,q):=z;let(x,B,f):=bs f;let(l,L,f):=bs f;let(u,y,f):=bs f;refine{F,i,x,sm,o,B,λI D t g r1=>{t,i,l,g.fh,o.mono g.ff,L,λE U c=>{U,i,u,c.fh,o.mono<|g.ff.trans c.ff,y,λm n j=>?_}}};have G:=(g.trans c).trans j;have r:=r1.mono<|c.ff.trans j.ff;cases x<;>try cases f
 .simp?[Rep]at r;let(b,v,rfl,s,R):=r;refine .inr {b,v,rfl,G.fh.seq s,λp P=>q _ _ _ (G.trans<|.new G.fh P) ?_};simp?[Rep];exact{p,_,rfl,.inl<|.inl av,(rG R l u).mono<|eJ<|G.fh.free P}
 .simp?[Rep]at r;let(b,v,rfl,s,R):=r;refine .inl {b,v,rfl,aB G.fh s,λe=>q _ m n G ?_,λp P=>q _ _ _ (G.trans<|.new G.fh P)<|eU (G.fh.free P)<|rG R l u};simp?[Rep];refine{b,v,rfl,s,?_};have:=rG R l u;rw[e]at this;exact this
def Nr:D->Δ D|.int i=>↑(.int<|-i)|_=>none
def Bk.neg(C:Bk X N sc k)(A:DE X a fa):DE X (.UnaryOp .USub a pos) (f1 Nr fa):=aF (RK N7 A) λj H Q z=>by
 let(F,i,d,sm,e,f,q):=z;let(x,c,f):=bs f;refine{F,i,x,sm,e,c,λv b G g r1=>?_};cases x<;>try cases f
 exact{_,by exact r1,q _ b G g<|by rfl}
def EY:bootBuiltins "sorted"=↑(.builtin "sorted"):=by rfl
abbrev fP(f:Env->Δ (Γ D)):Env->Δ D:=λa=>(f a).map PyData.list
abbrev cg:Γ D->Δ D:=λd=>(g8 d).map PyData.tuple
def Bk.adF(C:Bk X N sc k)(h:decide (sc.names.lookup x=↑.local)=true):X.env.scope.names.lookup x=↑.local:=by
 rcases C.tb x _ (yQ h)with q|⟨q,_⟩
 .exact q
 .cases q
def isStar(e:γ):θ:=e.ctorIdx==22
def aA(h:isStar e=false):starEach (e::es) env=(false,eval e env)::starEach es env:=by
 cases e<;>first|rfl|cases h
def Ov(H:DE X e f)(hs:DA X es g)(h:isStar e=false:=by rfl):DA X (e::es) (aa f g):=v9 H hs<|aA h
def sQ:swapsWith (.ListComp elt gens scope pos) (↑(.Name x py)) line env=pure (env.blockKind==.function&&env.kindOf x==some .local && py.line==pos.line
     &&!(scope.names.any λ(n,k)=>n==x&&(k==.local || k==.cell))):=rfl
def MD(h:env.scope.kind=.function):env.blockKind=.function:=by unfold PySem.Env.blockKind;rw[h];rfl
def Bk.swap(C:Bk X N sc k)(h:decide (sc.names.lookup x=↑.local)=true)(H:(py.line==pos.line&&!(scope.names.any λ(n,k)=>n==x&&(k==.local || k==.cell)))=true) :
  swapsWith (.ListComp elt gens scope pos) (↑(.Name x py)) line X.env=pure true:=by
 rw[sQ,MD C.kd,show X.env.kindOf x=↑_ from C.adF h,Bool.and_assoc,H];rfl
def Bk.ack(C:Bk X N sc k)(h:decide (sc.names.lookup x=↑.cell)=true) :
  swapsWith (.ListComp elt gens scope pos) (↑(.Name x py)) line X.env=pure false:=by
 have q:X.env.kindOf x=↑.cell:=by
  rcases C.tb x _ (yQ h)with q|⟨q,_⟩<;>lia
 rw[sQ,q,MD C.kd];rfl
section
variable {K:Φ}
structure gR(K:W.Frag)(x:Str)(st:Stmt)(ps:List Str):Prop where
 ex:∃ (f:Ψ) (fd:η),W.nsIn K mainGlobals x=↑(↑(.ref f))/\yg K x x st f fd/\Binds K fd ps []
structure Em(K:W.Frag)(mg:Str->Option Value)(x:Str)(st:Stmt)(ps:List Str):Prop where
 ex:∃ (f:Ψ) (fd:η),mg x=↑(.ref f)/\yg K x x st f fd/\Binds K fd ps []
def gR.mg{h:ι}{mg:Str->Δ Θ}{st:Ω}(D:gR K x st ps)(X:K.In h)(G:h.Ns mainGlobals mg):Em K mg x st ps:=by
 let(f,d,a,b,c):=D.ex;exact{f,d,W.mg_of X G a,b,c}
def dS(st:Ω)(ps:Γ Str):Prop:=∀(x q:Str)(kV d p:Θ)(a:Δ Ψ)(Y c:Θ)(u:Γ Θ),u.length=ps.length->bindArgs (W.fnOf x q (eE st) (aP st) (ah st) .none kV d p a Y c) {u,[]}=pure (ps.zip u)
def Ro{st:Ω}{kV:Θ}(b:dS st ps)(a:W.nsIn K mainGlobals x=↑(↑(.ref f)))(l:K.lookup f=↑{oc,od,.func<|W.fnOf x x (eE st) (aP st) (ah st) .none kV d p n Y t,XJ})
  (c:W.codeIn K Y x=true)(k:W.keepIn K (.ref f)=true):gR K x st ps:={f,_,a,oI l c k,(oI l c k).binds λkV d p n Y t u=>b _ _ kV d p n Y t u}
structure rT(K:W.Frag)(x:Str)(st:Stmt)(ps:List Str):Prop where
 ex:∃ (f:Ψ) (fd:η) (c P:Ψ),W.nsIn K mainGlobals x=↑(↑(.ref f))/\yg K x x st f fd/\Binds K fd ps []/\fd.code=.ref c/\W.codeHdIn K c P=true
structure O7(K:W.Frag)(mg:Str->Option Value)(x:Str)(st:Stmt)(ps:List Str):Prop where
 ex:∃ (f:Ψ) (fd:η) (c P:Ψ),mg x=↑(.ref f)/\yg K x x st f fd/\Binds K fd ps []/\fd.code=.ref c/\W.codeHdIn K c P=true
def rT.mg{h:ι}{mg:Str->Δ Θ}{st:Ω}(D:rT K x st ps)(X:K.In h)(G:h.Ns mainGlobals mg):O7 K mg x st ps:=by
 let(f,d,c,P,a,b):=D.ex;exact{f,d,c,P,W.mg_of X G a,b}
def Ku(K:Φ)(c:Ψ):Ψ:=match K.lookup c with
 |some ⟨_,_,.fields v,_⟩=>(match(v[11]?:Δ Θ)with|some (.ref P)=>P|_=>0)
 |_=>0
def QI{st:Ω}{kV:Θ}(b:dS st ps)(a:W.nsIn K mainGlobals x=↑(↑(.ref f)))(l:K.lookup f=↑{oc,od,.func<|W.fnOf x x (eE st) (aP st) (ah st) .none kV d p n (.ref c) t,XJ})
  (C:W.codeIn K (.ref c) x=true)(k:W.keepIn K (.ref f)=true)(H:W.codeHdIn K c (Ku K c)=true):rT K x st ps:={f,_,c,Ku K c,a,oI l C k,(oI l C k).binds λkV d p n Y t u=>b _ _ kV d p n Y t u,rfl,H}
def N2{K:Φ}(h:(df.all λx=>match W.nsIn K mainGlobals x with|some none=>true|_=>false)=true):∀x∈df,W.nsIn K mainGlobals x=↑none:=by
 intro x H;have:=List.all_eq_true.mp h x H;split at this
 .assumption
 .cases this
def Bw{K:Φ}{H:Hp}{a:Ψ}{ns:Γ Int}{m:Γ D->Δ D}(S:iw K H a (ns.map V.int))(T:cx K H)(h:m [.list<|ns.map PyData.int]=↑(.bool true)){X:_}:Qf K 1 m [.ref a] H (λv _=>v=.bl true) X:=by
 refine{H,[.list _],.bool true,.refl _,T,ar.cons ({a,_,rfl,S,?_}) .nil,rfl,h,λv b d G r=>by exact r};clear h S T
 induction ns with
 |nil=>rfl
 |cons n ns i=>exact ar.cons (by rfl) i
end
def SE(h:isStar e=false)(H:DE X e f)(hs:DA X es g):DA X (e::es) (aa f g):=Ov H hs h
def SN:ao->Δ Out:=λ_=>none
def Qs{st:Ω}:DS X VA VB st SN:=λp s b H E I z=>by let(F,a,o,S,g,q):=z;cases g
def gL(f:Env->Δ D):ao->Δ Out:=λa=>(f<|aI a).map λ_=>.nx a
def Cy(hs:swapsWith e none pos.line X.env=pure false)(h:DE X e f):DS X VA VB (.Expr e pos) (gL f):=bL (iW h hs) λE c H z=>by
 let(F,b,o,S,g,q):=z;let(d,h,rfl):=ai g;exact{H,aI b,d,.refl _,S.all,h,λv a D G r=>q c a F (S.step G.hh)<|.refl _}
def OI(t:Env->Δ θ)(gb:ao->Δ Out):Nat->ao->Δ Out
 |0,_=>none
 |n+1,a=>(t<|aI a).bind λb=>if b=true then(gb a).bind fun|.nx c=>OI t gb n c|.rt d=>↑(.rt d)else↑(.nx a)
def Hi(n:Nat)(P:PassesOwn (model X.prog X.w) X.A X.env X.xe)(hc:DT X c t)(B:Fx X VA VB body gb):DS X VA VB (.While c body [] pos) (OI t gb n):=
 bL (IF P hc B) λE R H z=>by
  let(F,M,o,S,J,q):=z;refine{λm e g=>∃D a,gS X.K VA VB D g a e/\az F D/\OI t gb m a=↑o,{n,F,M,S,.refl _,J},?_};rintro m e g ⟨D,a,s,k,f⟩;cases m with
  |zero=>cases f
  |succ m =>
   let(b,B,f):=bs f;refine{g,aI a,b,.refl _,s.all,B,λl Q G=>?_};cases b with
   |false =>
    cases f;exact q e l D (s.step G.hh) k
   |true =>
    let(o1,I,f):=bs f;refine{λj i=>∃v x,gS X.K VA VB v i x j/\az F v/\OI t gb m x=↑o,λj i z=>by let(v,x,u,y,C):=z;exact {m,kM _,v,x,u,y,C},D,a,o1,s.step G.hh,I,?_};cases o1 with
    |nx W=>exactλN O r p L=>{r,W,p,k.trans L,f}
    |rt d=>cases f;exact q
def As:Γ D->Δ D
 |[.int a,.int b]=>↑(.int<|min a b)
 |[.int a,.int b,.int c]=>↑(.int<|min (min a b) c)
 |_=>none
def Gg(hc:X.calm=true):gP X (.builtin "min") (λxs H Q=>(∃a b ,xs=[.int a,.int b]/\Q (.int<|min a b) H)\/(∃a b c ,xs=[.int a,.int b,.int c]/\Q (.int<|min (min a b) c) H)):=by
 intro p s i H xs U Q I r h;have e:=I.ok.hd hc;rcases h with ⟨a,b,rfl,q⟩|⟨a,b,c,rfl,q⟩
 .cases r with
  |cons r1 r =>
   cases r with
   |cons R r =>
    cases r;let(t,rfl):=r1;let(u,rfl):=R;refine min_two_ints e λf T k=>{.int _,H,I.kept k,?_,q}
    by_cases h:b<a
    .rw[yL h,show min a b=b by lia];exact{_,rfl}
    .rw[yN h,show min a b=a by lia];exact{_,rfl}
 .cases r with
  |cons r1 r =>
   cases r with
   |cons R r =>
    cases r with
    |cons g r =>
     cases r;let(t,rfl):=r1;let(u,rfl):=R;let(x,rfl):=g;refine min_three_ints e λf T k=>{.int _,H,I.kept k,?_,q}
     by_cases h:b<a
     .rw[yL h];by_cases d:c<b
      .rw[yL d,show min _ c=c by lia];exact{_,rfl}
      .rw[yN d,show min _ c=b by lia];exact{_,rfl}
     .rw[yN h];by_cases d:c<a
      .rw[yL d,show min _ c=c by lia];exact{_,rfl}
      .rw[yN d,show min _ c=a by lia];exact{_,rfl}
def zd{K:Φ}(r:Rep K H d v):∀{ds:Γ D}{vs:Γ V}(j:Nat),ar K H ds vs->ar K H (ds.set j d) (vs.set j v)
 |[],vs,j,h=>by rw[h.nil_inv];exact ar.nil
 |x::ds,vs,j,h=>by
  let(u,s,rfl,a,b):=h.cons_inv;cases j with
  |zero=>exact ar.cons r b
  |succ j=>exact ar.cons a<|zd r j b
def BN(i:Nat)(fz:Γ Nat)(fk f:Env->Δ D):ao->Δ Out:=λa=>(lM fz f a).bind λp=>(fk<|aI p.2).bind λkd=>match kd with
 |.int k=>oN i (λd=>(Fy d.length k).map λj=>d.set j p.1) p.2
 |_=>none
def Jd(i:Nat)(fz:Γ Nat)(B:X.N[i]?=↑x)(K:nW X.env.scope x)(hk:DE X e fk)(h:DE X b f)(F:(x==("__debug__":Str))=false:=by decide)(R:(x==("__classdict__":Str))=false:=by decide)
  (C:∀v,assign (.Subscript (.Name x px) e U) X.env v=(do
   let O <- holding [v]<|eval (.Name x px) X.env
   let I <- holding [v,O]<|eval e X.env
   standAt U
   holding [v,O,I] (setItem O I v)
   release [v,O,I] []):=by intro _;rfl)
  (hs:swapsWithSole [.Subscript (.Name x px) e U] b pos.line X.env=pure false:=by rfl)(hw:swappedStores [.Subscript (.Name x px) e U] b X.env=pure none:=by rfl)
  (l:(assignEach [.Subscript (.Name x px) e U] X.env).map (·.2)=[assign (.Subscript (.Name x px) e U) X.env]:=by rfl):DS X VA VB (.Assign [.Subscript (.Name x px) e U] b pos) (BN i fz fk f):=
 bL (Oo h (Nj (bQ B K F R) hk set_list C) hs hw l) λE M H z=>by
  let(Q,ρ,o,S,g,q):=z;let((d,p),l,g):=bs g;let(kd,y,g):=bs g;cases kd<;>try cases g
  rename_i k;let(D,es,m,A,rfl):=iC g;let(j,J,rfl):=ai A;refine oF S l λv u w L s s2 r=>?_;let(a,vs,c,b,Y,e5,Z):=s.own i D m;refine{.ref a,c,u,aI p,.int k,.refl _,s.all,y,λkv P T G rk=>?_};simp?[Rep]at rk;have t:=s.step G.hh;let(W,n,f1,f2,f3,f5,f4):=t.own i D m;rw[c]at f1;cases f1;exact{a,n,k,j,rfl,rk,f2,by rw[f4.length];exact J,q M _ w (t.mut m c f2<|zd r j f4) L}
def RX:D->θ|.none=>true|_=>false
def pU{K:Φ}(r:Rep K HF d v):decide (v=.VC)=RX d:=by
 cases d<;>simp?[Rep]at r<;>first
  | (subst r;rfl)
  | (let(a,s,rfl,_):=r;rfl)
  | (let(a,x,rfl,_):=r;rfl)
  |exact r.elim
def Lg:D->D->Δ D:=λx y=>if RX y=true then↑(.bool<|RX x)else match x,y with
 |.bool a,.bool b=>↑(.bool<|a==b)
 |_,_=>none
def yk:D->D->Δ D:=λx y=>if RX y=true then↑(.bool<|!RX x)else match x,y with
 |.bool a,.bool b=>↑(.bool<|!(a==b))
 |_,_=>none
def Ph{X:Cx}:il X (compareOp .Is) (λx y H Q=>∃a b,x=.bl a/\y=.bl b/\Q (.bl<|a==b) H):=by
 intro p s c H x y v u Q I r R q;let(a,b,rfl,rfl,q):=q;cases r;cases R;exact wpAny_is_plain rfl {.bl _,H,I,rfl,by cases a<;>cases b<;>exact q}
def Mx{X:Cx}:il X (compareOp .IsNot) (λx y H Q=>∃a b,x=.bl a/\y=.bl b/\Q (.bl<|!(a==b)) H):=by
 intro p s c H x y v u Q I r R q;let(a,b,rfl,rfl,q):=q;cases r;cases R;exact wpAny_isNot_plain rfl {.bl _,H,I,rfl,by cases a<;>cases b<;>exact q}
def KL{K:Φ}:fy K (λx y H Q=>(y=.VC/\Q (.bl<|decide (x=.VC)) H)\/∃a b,x=.bl a/\y=.bl b/\Q (.bl<|a==b) H) Lg:=by
 intro F H x y v e d Q sm r1 r g q;unfold Lg at g;split at g
 .rename_i h;cases g;have c:=pU r;rw[h,zJ]at c;refine .inl {c,?_};rw[pU r1];exact q _ H F (.refl sm)<|by simp[Rep]
 .split at g
  .cases g;simp?[Rep]at r1 r;exact .inr {_,_,r1,r,q _ H F (.refl sm)<|by simp[Rep]}
  .cases g
def Je{K:Φ}:fy K (λx y H Q=>(y=.VC/\Q (.bl<|!decide (x=.VC)) H)\/∃a b,x=.bl a/\y=.bl b/\Q (.bl<|!(a==b)) H) yk:=by
 intro F H x y v e d Q sm r1 r g q;unfold yk at g;split at g
 .rename_i h;cases g;have c:=pU r;rw[h,zJ]at c;refine .inl {c,?_};rw[pU r1];exact q _ H F (.refl sm)<|by simp[Rep]
 .split at g
  .cases g;simp?[Rep]at r1 r;exact .inr {_,_,r1,r,q _ H F (.refl sm)<|by simp[Rep]}
  .cases g
def Bk.af6(C:Bk X N sc k)(H:DE X a fa)(B:DE X b fb):DT X (.Compare a [.Is] [b] pos) (fB<|f2 Lg fa fb):=j6 (Nk.or Ph) KL H B<|gH _
def Bk.adG(C:Bk X N sc k)(H:DE X a fa)(B:DE X b fb):DT X (.Compare a [.IsNot] [b] pos) (fB<|f2 yk fa fb):=j6 (Ko.or Mx) Je H B<|gH _
def OJ(hc:X.calm=true)(B:nC X "min" (.builtin "min"))(E:starEach (e::es) X.env=(false,eval e X.env)::starEach es X.env)(W:(backTo pos<|starEach es X.env).any (·.1)=false)(j:DA X (e::es) fs):DE X (.Call (.Name "min" p) (e::es) [] pos) (cQ As fs):=
 m9 (Gg hc) (by
  intro F H s S d Q sm r g q;unfold As at g;split at g
  .cases g;let(v,r1,rfl,a,b):=r.cons_inv;let(k,R,rfl,A,c):=b.cons_inv;rw[c.nil_inv];exact .inl {_,_,by rw[a,A],q _ H F (.refl sm)<|by rfl}
  .cases g;let(v,r1,rfl,a,b):=r.cons_inv;let(k,R,rfl,A,c):=b.cons_inv;let(m,l,rfl,f,i):=c.cons_inv;rw[i.nil_inv];exact .inr {_,_,_,by rw[a,A,f],q _ H F (.refl sm)<|by rfl}
  grind) B j (by decide) (by rfl) E W
section
variable {fl fs:Env->Δ (Γ D)}
end
def Tu(ns:Γ Int):θ:=decide (ns.length<=1000)&&ns.all λn=>decide (-1000000<=n)&&decide (n<=1000000)
def D1{ns:Γ Int}{E:Γ Θ}(r:aG (ns.map V.int) E){i:Nat}(h:E.toArray[i]?=↑v):∃t,v=.int (ns.getD i 0) t:=by
 rw[List.getElem?_toArray]at h
 induction ns generalizing E i with
 |nil=>cases r;simp at h
 |cons n ns I =>
  cases r with
  |cons r1 R =>
   cases i with
   |zero =>
    simp?[xQ,yK]at h;subst h;let(t,rfl):=r1;exact{t,rfl}
   |succ i =>
    simp?[yY]at h;exact I R h
def iI{K:Φ}:∀{ns:Γ Int}{vs:Γ V},ar K H (ns.map PyData.int) vs->vs=ns.map V.int
 |[],vs,h=>h.nil_inv
 |b::bs,vs,h=>by
  let(v,r,rfl,a,c):=h.cons_inv;rw[a,iI c];rfl
def P8(i:Int):Θ->θ|.int a _=>a==i|_=>false
def Ep:Mt X "list.index" (λx vs H Q=>∃ (l:Ψ) (ns:Γ Int) (i:Int) (j:Nat),x=.ref l/\vs=[.int i]/\iw X.K H l (ns.map V.int)/\ns[j]?=↑i/\(∀m,m<j->ns[m]?≠some i)/\Q (.int j) H):=by
 intro p s B H x vs v U Q I w k h;let(l,ns,i,j,rfl,rfl,g,c,o,q):=h;cases w;let(u,rfl,R):=k.one;let(t,rfl):=R;let(E,r,P,z):=I.list g;let((C,f,d,S),O,hc,n,D):=id P.isList;simp only at hc D;subst hc D;have L:E.length=ns.length:=by rw[<-r.length,zD]
 have b:j<ns.length:=(List.getElem?_eq_some_iff.mp c).1;have Z:ns.length<=sizeLine:=by rwa[zD]at z
 have A:(sizeLine:Nat)<2^62:=by decide
 have a:∀m(M:m<E.toArray.size),∃T,E.toArray[m]=.int (ns.getD m 0) T:=λm M=>D1 r<|jX M;refine qV F.slot_list_index {_,O,rfl} F.entry_list_index (F.args_list_index_2 _ _) (PySem.SeqAt.list_indexAt l E.toArray n f S (.int i t) (P8 i) j (by rw[zH,L];exact b) (by lia) ?_ ?_) {O,?_,?_}
 .let(T,e):=a j (by rw[zH,L];exact b);rw[e,P8,zG,c];simp
 .intro m M J;let(T,e):=a m M;have W:m<ns.length:=by lia
  have:=o m J;rw[e,P8,zG];rw[zK W]at this ⊢;simp?[qG,beq_eq_false_iff_ne];exactλh=>this<|by rw[h]
 .intro y Y;let(m,M,rfl):=Array.getElem_of_mem Y;let(T,e):=a m M;rw[e];exact PySem.SeqAt.EqAt.int_int _ _ _ _
 .exact{.int j,H,I.tok _,{_,rfl},q}
def zg(i:Int):Γ Int->Δ Nat
 |[]=>none
 |n::s=>if n=i then↑0 else(zg i s).map (·+1)
def nV:∀{ns:Γ Int}{j:Nat},zg i ns=↑j->ns[j]?=↑i/\∀m,m<j->ns[m]?≠some i
 |[],j,h=>by cases h
 |n::ns,j,h=>by
  unfold zg at h;split at h
  .cases h;rename_i e;exact{by rw[e];rfl,λm H=>absurd H<|vO _}
  .rename_i e;let(k,hk,rfl):=ai h;let(a,b):=nV hk;refine{by simpa using a,λm H=>?_};cases m with
   |zero=>simpa using e
   |succ m=>simpa using b m (by lia)
def Th:D->D->Δ D
 |.list e,.int i=>(intsOf e).bind λn=>(zg i n).map λj=>.int ((j:Nat):Int)
 |_,_=>none
def GE{fo:Env->Δ D}(W:attributeBase o "index" X.env (eval o X.env)=eval o X.env)
  (s:((backTo cpos<|starEach [e] X.env).all (λx=>!x.1)&&(backToKw cpos<|keywordEach [] X.env).all (λx=>x.1.isSome)&&decide ([e].length+([]:Γ Keyword).length+(if([]:Γ Keyword).isEmpty then 0 else 1)<30))=true)
  (I:(apos.endLine==cpos.line)=true)(hs:starEach [e] X.env=(false,eval e X.env)::starEach [] X.env)(O:DE X o fo)(A:DE X e fe):DE X (.Call (.Attribute o "index" apos) [e] [] cpos) (f2 Th fo fe):=
 aF (ni qM PySem.F.slot_list_index PySem.F.type_list_index Ep O (ba A cf hs) W s I hs rfl) λM H Q z=>by
  let(p,m,d,sm,E,f,q):=z;let(x,B,f):=bs f;let(y,Y,g):=bs f;refine{p,m,x,sm,E,B,λK C v G r1=>?_};cases x<;>try cases g
  cases y<;>try cases g
  rename_i S i;let(N,u,g):=bs g;let(j,w,rfl):=ai g;have t:=fI u;subst t;simp?[Rep]at r1;let(l,J,rfl,k,R):=r1;have:=iI R;subst this;refine{.inl {rfl,_,G.fh.seq k},v,m,.int i,G.fh,E.mono G.ff,Y,λL n U c r=>?_};simp?[Rep]at r;let(a,b):=nV w;exact{l,N,i,j,rfl,by rw[r],c.fh.seq<|c.ff.seq k,a,b,q _ n U (G.trans c)<|by simp[Rep]}
end Dl
namespace Tx
open PySem PySem.SeqAt PyProof.Rows
open PySem.AutoSeq1 (wpAny_loadPart')
open PySem.MeetsSeq PySem.MeetsSeq2 PySem.MeetsSeq3
def wpR(f:Nat->β->Sem (ForInStep β))(I:Γ Nat->β->Ξ->Prop)(Q:β->Ξ->Prop)
  (turn:∀x rest b s,I (x::rest) b s->wpAny M A (f x b) (λr s'=>match r with|.yield B=>I rest B s'|.done B=>Q B s') E s)
  (fin:∀b s,I [] b s->Q b s)(n:Nat)(b:β)(h:I (List.range' 0 n 1) b s):wpAny M A (forIn [:n] b f) Q E s:=by
 have e:forIn [:n] b f=forIn (List.range' 0 n 1) b f:=by
  simp
 rw[e];exact wpAny_forIn_list f I Q turn fin _ b h
def Xx(l:Ψ)(items:Array Θ)(n:Nat)(dd:Δ Ψ)(q:Array (Δ Θ))(x:Θ)(e:Θ->θ)(j:Nat)(J:j<items.size)(H:e items[j]=true)(f:∀m(M:m<items.size),m<j->e items[m]=false) :
  Meets (Builtin.«tuple.index» {[.ref l,x],[]})
   (λA R s=>s.heap.get? l=some {cls:=.type "tuple",dict:=dd,data:=.seq items n,slots:=q}/\(∀y,y∈items->EqAt A.in1 s y x (e y))/\R (.ok<|.ret<|.int (j:Nat) s.toks) {s with toks:=s.toks+1}):=
 .of_wp λp w A R s h=>by
  let(P,g,d,t,O):=s;let(L,k,h):=h
  wp_walk using wpAny_loadPart' L,wpR _ (λr b S=>S={P,g,d,t,O}/\b.1=none/\∃i,i<=j/\r=List.range' i (items.size-i) 1) _
  case turn =>
   rintro i r b S ⟨rfl,B,I,o,E⟩;have W:I<items.size:=by lia
   rw[show items.size-I=(items.size-(I+1))+1 by lia,vF]at E;injection E with a c
   subst a;subst c;simp?[jX W];refine zV<|k _ (Array.getElem_mem W) p w _ _ ?_;by_cases N:i=j
   .subst N;rw[H]
    wp_walk
    exact{_,rfl,h}
   .rw[f i W<|by lia]
    wp_walk
    exact{rfl,rfl,i+1,by lia,rfl}
  case fin =>
   rintro b S ⟨rfl,B,i,o,E⟩;have:=jB List.length E;simp at this;lia
  case h =>
   exact{rfl,rfl,0,xV _,by simp}
end Tx
namespace Dl
open PySem L2 PySem.Spec PyProof.Rows
def E8:Mt X "tuple.index" (λx vs H Q=>∃ (l:Ψ) (ns:Γ Int) (i:Int) (j:Nat),x=.ref l/\vs=[.int i]/\gm X.K H l (ns.map V.int)/\ns[j]?=↑i/\(∀m,m<j->ns[m]?≠some i)/\Q (.int j) H):=by
 intro p s A H x vs v U Q I w k h;let(l,ns,i,j,rfl,rfl,g,c,o,q):=h;cases w;let(u,rfl,R):=k.one;let(t,rfl):=R;let(E,r,P,z):=I.tuple g;let((C,f,d,S),O,hc,n,D):=id P;simp only at hc D;subst hc D;have L:E.length=ns.length:=by rw[<-r.length,zD]
 have b:j<ns.length:=(List.getElem?_eq_some_iff.mp c).1;have a:∀m(M:m<E.toArray.size),∃T,E.toArray[m]=.int (ns.getD m 0) T:=λm M=>D1 r<|jX M;refine qV F.slot_tuple_index {_,O,rfl} F.entry_tuple_index (F.args_tuple_index_2 _ _) (Tx.Xx l E.toArray n f S (.int i t) (P8 i) j (by rw[zH,L];exact b) ?_ ?_) {O,?_,?_}
 .let(T,e):=a j (by rw[zH,L];exact b);rw[e,P8,zG,c];simp
 .intro m M J;let(T,e):=a m M;have W:m<ns.length:=by
   rw[zH]at M;lia
  have:=o m J;rw[e,P8,zG];rw[zK W]at this ⊢;simp?[qG,beq_eq_false_iff_ne];exactλh=>this<|by rw[h]
 .intro y Y;let(m,M,rfl):=Array.getElem_of_mem Y;let(T,e):=a m M;rw[e];exact PySem.SeqAt.EqAt.int_int _ _ _ _
 .exact{.int j,H,I.tok _,{_,rfl},q}
def M4(h:PE X e t)(g:PE X e u):PE X e (λσ H Q=>t σ H Q\/u σ H Q):=λp s σ H Q I q=>q.elim (h p s σ H Q I)<|g p s σ H Q I
def Al:D->D->Δ D
 |.list e,.int i=>(intsOf e).bind λn=>(zg i n).map λj=>.int ((j:Nat):Int)
 |.tuple e,.int i=>(intsOf e).bind λn=>(zg i n).map λj=>.int ((j:Nat):Int)
 |_,_=>none
def D3{fo:Env->Δ D}(W:attributeBase o "index" X.env (eval o X.env)=eval o X.env)
  (s:((backTo cpos<|starEach [e] X.env).all (λx=>!x.1)&&(backToKw cpos<|keywordEach [] X.env).all (λx=>x.1.isSome)&&decide ([e].length+([]:Γ Keyword).length+(if([]:Γ Keyword).isEmpty then 0 else 1)<30))=true)
  (I:(apos.endLine==cpos.line)=true)(hs:starEach [e] X.env=(false,eval e X.env)::starEach [] X.env)(O:DE X o fo)(n:DE X e fe):DE X (.Call (.Attribute o "index" apos) [e] [] cpos) (f2 Al fo fe):=
 aF (M4 (GE W s I hs O n)<|ni PySem.F.plainAttrs_tuple PySem.F.slot_tuple_index PySem.F.type_tuple_index E8 O (ba n cf hs) W s I hs rfl) λM H Q z=>by
  let(m,k,d,sm,E,f,q):=z;let(x,r,f):=bs f;let(y,Y,g):=bs f;cases x<;>try cases g
  .cases y<;>try cases g
   exact .inl {m,k,d,sm,E,by simp[f2,r,Y,zA];exact g,q}
  .cases y<;>try cases g
   rename_i S i;let(N,w,g):=bs g;let(j,A,rfl):=ai g;have u:=fI w;subst u;refine .inr {m,k,_,sm,E,r,λK C v G r1=>?_};let(l,J,rfl,p,B):=r1;have:=iI B;subst this;refine{(.inr<|.inl {rfl,_,aB G.fh p}),v,k,.int i,G.fh,E.mono G.ff,Y,λL t U c R=>?_}
   .simp[Rep]at R;let(a,b):=nV A;exact{l,N,i,j,rfl,by grind,aB c.fh<|aB c.ff p,a,b,q _ t U (G.trans c)<|by rfl}
end Dl
namespace Zp
open PySem PyProof.Rows
def Wo(b:θ)(h:ι)(it l:Ψ)(k:Nat):Prop:=match b with|true=>h.IsTupleIter it l k|false=>h.IsListIter it l k
def Wv(b:θ)(h:ι)(l:Ψ)(xs:Array Θ):Prop:=match b with|true=>h.IsTuple l xs|false=>h.IsList l xs
def Wo.obj(x:Wo b h it l k):∃o,h.get? it=↑o/\∀v,o.data≠.cell v:=by
 cases b
 .let(o,e,_,d):=(x);exact{o,e,λv q=>by grind}
 .let(o,e,_,d):=(x);exact{o,e,λv q=>by grind}
def Wo.at(x:Wo b h it l k)(e:∀o,h.get? it=↑o->h'.get? it=↑o):Wo b h' it l k:=by
 cases b
 .exact Heap.IsListIter.at x e
 .exact Heap.IsTupleIter.at x e
def Wo.extBut(x:Wo b h it l k)(e:Heap.ExtBut a h h')(n:it≠a):Wo b h' it l k:=x.at λo=>e it o n
def Wv.at(x:Wv b h l xs)(e:∀o,h.get? l=↑o->h'.get? l=↑o):Wv b h' l xs:=by
 cases b
 .let(o,q,r):=(x);exact{o,e o q,r}
 .let(o,q,r):=(x);exact{o,e o q,r}
def Wv.extBut(x:Wv b h l xs)(e:Heap.ExtBut a h h')(n:l≠a):Wv b h' l xs:=x.at λo=>e l o n
section
def nxt(J:Wo b s.heap j t k)(ht:Wv b s.heap t VE)(a:VE[k]?=↑v)
  (H:∀g,Wo b g j t (k+1)->Heap.SameBut j s.heap g->Q v {s with heap:=g}):wpAny (model prog w) A (Builtin.SmallTypes.nextOf<|.ref j) Q E s:=by
 cases b
 .exact wpAny_nextOf_list_item J ht a H
 .exact En.YK J ht a H
def aa1{Q:Θ->Ξ->Prop}(a:A.handled=none)(J:Wo b s.heap j t k)(ht:Wv b s.heap t VE)(v:VE[k]?=none)
  (H:∀g x,Heap.ExtBut j s.heap g->(∃o,g.get? x=↑o/\o.cls=.type "StopIteration")->E (.ref x) {s with heap:=g}):wpAny (model prog w) A (Builtin.SmallTypes.nextOf<|.ref j) Q E s:=by
 cases b
 .exact wpAny_nextOf_list_end a J ht v H
 .exact En.Zo a J ht v H
structure ZS(VS V4:Bool)(h₀ h:Heap)(z TI TO i j l m:Addr)(xs ys:Array Value)(f:Value)(p q:Nat)(a b:Value):Prop where
 zo:IsZip h z TI TO f
 ti:IsPair h TI (.ref i) (.ref j)
 to:IsPair h TO a b
 wi:Wo VS h i l p
 wj:Wo V4 h j m q
 sl:Wv VS h l xs
 sm:Wv V4 h m ys
 kp:∀c o,c≠z->c≠TO->c≠i->c≠j->h₀.get? c=↑o->h.get? c=↑o
 sz:h.objs.size=h₀.objs.size
section
variable {z TI TO i j l m:Ψ}
def ZS.fl(Z:ZS U V4 h₀ h z TI TO i j l m xs ys f p q a b)(D:ZipApart z TI TO i j l m)(e:IsZip g z TI TO f')(t:Heap.SameBut z h g):ZS U V4 h₀ g z TI TO i j l m xs ys f' p q a b:=
 {e,t.extBut _ _ D.TIz Z.ti,t.extBut _ _ D.TOz Z.to,Z.wi.extBut t.extBut D.i1z,Z.wj.extBut t.extBut D.i2z,Z.sl.extBut t.extBut D.l1z,Z.sm.extBut t.extBut D.l2z,λc o n N d k r=>t.extBut _ _ n<|Z.kp c o n N d k r,t.1.trans Z.sz}
def ZS.fst(Z:ZS U V4 h₀ h z TI TO i j l m xs ys f p q a b)(D:ZipApart z TI TO i j l m)(e:Wo U g i l (p+1))(t:Heap.SameBut i h g):ZS U V4 h₀ g z TI TO i j l m xs ys f (p+1) q a b:=
 {t.extBut _ _ D.i1z.symm Z.zo,t.extBut _ _ D.TIi1 Z.ti,t.extBut _ _ D.TOi1 Z.to,e,Z.wj.extBut t.extBut D.i12.symm,Z.sl.extBut t.extBut D.l1i1,Z.sm.extBut t.extBut D.l2i1,λc o N d n k r=>t.extBut _ _ n<|Z.kp c o N d n k r,t.1.trans Z.sz}
def ZS.snd(Z:ZS U V4 h₀ h z TI TO i j l m xs ys f p q a b)(D:ZipApart z TI TO i j l m)(e:Wo V4 g j m (q+1))(t:Heap.SameBut j h g):ZS U V4 h₀ g z TI TO i j l m xs ys f p (q+1) a b:=
 {t.extBut _ _ D.i2z.symm Z.zo,t.extBut _ _ D.TIi2 Z.ti,t.extBut _ _ D.TOi2 Z.to,Z.wi.extBut t.extBut D.i12,e,Z.sl.extBut t.extBut D.l1i2,Z.sm.extBut t.extBut D.l2i2,λc o N d k n r=>t.extBut _ _ n<|Z.kp c o N d k n r,t.1.trans Z.sz}
def ZS.put(Z:ZS U V4 h₀ h z TI TO i j l m xs ys f p q a b)(D:ZipApart z TI TO i j l m)(e:IsPair g TO x y)(t:Heap.SameBut TO h g):ZS U V4 h₀ g z TI TO i j l m xs ys f p q x y:=
 {t.extBut _ _ D.TOz.symm Z.zo,t.extBut _ _ D.TITO Z.ti,e,Z.wi.extBut t.extBut D.TOi1.symm,Z.wj.extBut t.extBut D.TOi2.symm,Z.sl.extBut t.extBut D.l1TO,Z.sm.extBut t.extBut D.l2TO,λc o N n d k r=>t.extBut _ _ n<|Z.kp c o N n d k r,t.1.trans Z.sz}
end
variable {z TI TO i j l m:Ψ}
def adI{Q:Θ->Ξ->Prop}(P:A.handled=none)(D:ZipApart z TI TO i j l m)(Z:ZS U V4 s.heap s.heap z TI TO i j l m xs ys .none p q a b)
  (I:∀x y g g',xs[p]?=↑x->ys[q]?=↑y->ZS U V4 s.heap g z TI TO i j l m xs ys .ellipsis (p+1) (q+1) x y->IsZip g' z TI TO (rawInt g.objs.size) ->
   Heap.SameBut z (g.push {cls:=.type "tuple",data:=.seq #[x,y]}) g'->Q (.ref g.objs.size) {s with heap:=g'})
  (O:(xs[p]?=none\/ys[q]?=none)->∀g e,(∀c o,c≠z->c≠TO->c≠i->c≠j->s.heap.get? c=↑o->g.get? c=↑o)->(∃o,g.get? e=↑o/\o.cls=.type "StopIteration")->E (.ref e) {s with heap:=g}) :
  wpAny (model prog w) A (Builtin.«zip.__next__» {[.ref z],[]}) (λr s'=>∃v,r=.done (.ret v)/\Q v s') E s:=by
 have S:∀{B G:ι}{e:Ψ}{c:Ψ}{T W:Nat}{L M:Θ},ZS U V4 s.heap B z TI TO i j l m xs ys .ellipsis T W L M->(c=i\/c=j)->(xs[p]?=none\/ys[q]?=none)->Heap.ExtBut c B G ->
   (∃o,G.get? e=↑o/\o.cls=.type "StopIteration")->wpAny (model prog w) A (setField (.ref z) 0 Value.none) (λ_ t=>E (.ref e) t) E {s with heap:=G}:=by
  intro B G e c T W L M Y hc hv k ⟨o,ho,ht⟩;have X:IsZip G z TI TO .ellipsis:=k _ _ (hc.elim (λe=>e▸D.i1z.symm) λe=>e▸D.i2z.symm) Y.zo;refine kY X (by simp) λN _ t=>O hv N e (λd u R n2 n3 n4 r=>t.extBut _ _ R<|k _ _ ?_<|Y.kp d u R n2 n3 n4 r) {o,t.extBut _ _ ?_ ho,ht}<;>grind
 show wpAny _ _ (field (.ref z) 2 >>= _) _ _ _;refine zV<|qS Z.zo rfl (x:=.bool false) rfl (zV<|qS Z.zo rfl (x:=.ref TI) rfl (zV<|kG Z.ti rfl (zV (m:=Builtin.SmallTypes.ownedTupleIsFree _)<|zV<|qS Z.zo rfl (x:=.none) rfl (zW ?_))));rw[yL rfl];refine zV<|wC<|zV<|qS Z.zo rfl (x:=.ref TO) rfl (zV<|kY Z.zo (by simp) λB e1 t1=>?_);have f:=Z.fl D (f':=.ellipsis) e1 t1;refine zV ?_;simp?[List.zipIdx_cons,List.zipIdx_nil,List.forIn_cons,List.forIn_nil];refine zV<|zV<|wpAny_onRaise<|zV (m:=Builtin.SmallTypes.nextOf _) ?_;cases H:xs[p]? with
 |none=>exact aa1 P f.wi f.sl H λG e k o=>S f (.inl rfl) (.inl H) k o
 |some x =>
 refine nxt f.wi f.sl H λG e2 t2=>zW ?_;have F:=f.fst D e2 t2;refine zV<|kG F.to rfl (zV<|wpAny_updateSeq_pair F.to λN e3 t3=>zV<|wpAny_letGo<|zW ?_);have n:=F.put D (x:=x) (y:=b) e3 t3;refine zV<|zV<|wpAny_onRaise<|zV (m:=Builtin.SmallTypes.nextOf _) ?_;cases C:ys[q]? with
 |none=>exact aa1 P n.wj n.sm C λg4 e k=>S n (.inr rfl) (.inr C) k
 |some y =>
 refine nxt n.wj n.sm C λg4 e4 t4=>zW ?_;have J:=n.snd D e4 t4;refine zV<|kG J.to rfl (zV<|wpAny_updateSeq_pair J.to λg5 e5 t5=>zV<|wpAny_letGo<|zW<|zW ?_);have K:=J.put D e5 t5;exact zV<|kG K.to rfl (zV<|wpAny_newTuple<|zV<|zV<|kY (zU _ K.zo) (by simp) λg6 e6 t6=>kY e6 (by simp) λg7 e7 t7=>zW {_,rfl,(I x y g5 g7 H C K e7<|t6.trans t7)})
def adJ(v:A.handled=none)(D:ZipApart z TI TO i j l m)
  (u:IsZip s.heap z TI TO .none)(J:IsPair s.heap TI (.ref i) (.ref j))(O:IsPair s.heap TO a b)
  (P:Wo U s.heap i l p)(p2:Wo V4 s.heap j m q)(r1:Wv U s.heap l xs)(R:Wv V4 s.heap m ys)(X:xs[p]?=↑x)(d:ys[q]?=↑y)
  (K:∀g,IsZip g z TI TO (rawInt s.heap.objs.size)->IsPair g TO x y->Wo U g i l (p+1)->Wo V4 g j m (q+1)->IsPair g s.heap.objs.size x y->g.objs.size=s.heap.objs.size+1 ->
   (∀c o,c≠z->c≠TO->c≠i->c≠j->s.heap.get? c=↑o->g.get? c=↑o)->Q (↑(.ref s.heap.objs.size)) {s with heap:=g}) :
  wpAny (model prog w) A (pyNext<|.ref z) Q E s:=by
 have T:s.TypeIs (.ref z) "zip":={_,u,rfl}
 have Z:ZS U V4 s.heap s.heap z TI TO i j l m xs ys .none p q a b:={u,J,O,P,p2,r1,R,λ_ _ _ _ _ _ e=>e,rfl}
 refine zV<|kO<|qC (name:=Str.ofString "__next__") T vS<|qU vS T F.entry_zip_next (adI v D Z ?_ ?_)<|F.args_zip_next_1 _
 .intro M S g G H k Y f t;rw[X]at H;rw[d]at k;cases H;cases k;rw[Y.sz]at f ⊢;have L:=zY Y.zo;have up:∀c o,c≠z->g.get? c=↑o->G.get? c=↑o:=λc o n e=>t.extBut _ _ n<|zU _ e;refine zW<|K G f (up _ _ D.TOz Y.to) (Y.wi.at λo e=>up _ _ D.i1z e) (Y.wj.at λo e=>up _ _ D.i2z e) ?_ (by rw[t.1,xJ,Y.sz]) λc o r B C I e=>up c o r<|Y.kp c o r B C I e;rw[<-Y.sz];exact t.extBut _ _ (jH L)<|zX _ rfl
 .intro N;rw[X,d]at N;rcases N with N|N<;>cases N
def acm(H:A.handled=none)(D:ZipApart z TI TO i j l m)
  (d:IsZip s.heap z TI TO .none)(I:IsPair s.heap TI (.ref i) (.ref j))(f:IsPair s.heap TO a b)
  (P:Wo U s.heap i l p)(p2:Wo V4 s.heap j m q)(r1:Wv U s.heap l xs)(r:Wv V4 s.heap m ys)(S:xs[p]?=none\/ys[q]?=none)
  (k:∀g,(∀c o,c≠z->c≠TO->c≠i->c≠j->s.heap.get? c=↑o->g.get? c=↑o)->Q none {s with heap:=g}):wpAny (model prog w) A (pyNext<|.ref z) Q E s:=by
 have t:s.TypeIs (.ref z) "zip":={_,d,rfl}
 have Z:ZS U V4 s.heap s.heap z TI TO i j l m xs ys .none p q a b:={d,I,f,P,p2,r1,r,λ_ _ _ _ _ _ e=>e,rfl}
 refine zV<|kO<|qC (name:=Str.ofString "__next__") t vS<|qU vS t F.entry_zip_next (adI H D Z ?_ ?_)<|F.args_zip_next_1 _
 .intro x y g G X Y;rw[X,Y]at S;rcases S with n|n<;>cases n
 .rintro _ g e K ⟨o,O,ht⟩;exact zV<|wpAny_isInstance (T:="StopIteration") (b:=true) {o,O,ht} isSubtype_stop<|zW<|k _ K
end
abbrev itO(b:θ)(l:Ψ):Obj:={cls:=.type (if b then "tuple_iterator"else "list_iterator"),data:=.fields #[.ref l,.int 0 0]}
abbrev z1(b:θ)(h:ι)(l:Ψ):ι:=h.push<|itO b l
abbrev z2(b c:θ)(h:ι)(l m:Ψ):ι:=(z1 b h l).push<|itO c m
abbrev z3(b c:θ)(h:ι)(l m:Ψ):ι:=(z2 b c h l m).push {cls:=.type "tuple",data:=.seq #[.ref h.objs.size,.ref (z1 b h l).objs.size]}
abbrev z4(b c:θ)(h:ι)(l m:Ψ):ι:=(z3 b c h l m).push {cls:=.type "tuple",data:=.seq #[.none,.none]}
abbrev z5(b c:θ)(h:ι)(l m:Ψ):ι:=(z4 b c h l m).push {cls:=.type "zip",data:=.fields #[.none,.bool false,.bool false,.ref (z2 b c h l m).objs.size,.ref (z3 b c h l m).objs.size]}
def Wv.push(x:Wv b h l xs)(o:Obj):Wv b (h.push o) l xs:=x.at λO=>zU _
def aa2(b c:θ)(l m:Ψ)(xs ys:Array Θ):Meets (Builtin.«zip.__new__» {[.type "zip",.ref l,.ref m],[]}) (λ_ R s=>Wv b s.heap l xs/\Wv c s.heap m ys/\R (.ok<|.ret<|.ref (z4 b c s.heap l m).objs.size) {s with heap:=z5 b c s.heap l m}):=
 .of_wp λP w A R s h=>by
  let(p,g,d,t,o):=s;let(q,q2,h):=h;have Y:=sub_zip;cases b<;>cases c
  .have L:Heap.IsList (Shared.heap ⟨p,g,d,t,o⟩) l xs:=q;have L2:Heap.IsList (Shared.heap {p.push {cls:=.type "list_iterator",data:=.fields #[.ref l,.int 0 0]},g,d,t,o}) m ys:=Wv.push (b:=false) q2 _
   wp_walk using qK L,qK L2
   exact{_,rfl,h}
  .have L:Heap.IsList (Shared.heap ⟨p,g,d,t,o⟩) l xs:=q;have L2:Heap.IsTuple (Shared.heap {p.push {cls:=.type "list_iterator",data:=.fields #[.ref l,.int 0 0]},g,d,t,o}) m ys:=Wv.push (b:=true) q2 _
   wp_walk using qK L,xR L2
   exact{_,rfl,h}
  .have L:Heap.IsTuple (Shared.heap ⟨p,g,d,t,o⟩) l xs:=q;have L2:Heap.IsList (Shared.heap {p.push {cls:=.type "tuple_iterator",data:=.fields #[.ref l,.int 0 0]},g,d,t,o}) m ys:=Wv.push (b:=false) q2 _
   wp_walk using xR L,qK L2
   exact{_,rfl,h}
  .have L:Heap.IsTuple (Shared.heap ⟨p,g,d,t,o⟩) l xs:=q;have L2:Heap.IsTuple (Shared.heap {p.push {cls:=.type "tuple_iterator",data:=.fields #[.ref l,.int 0 0]},g,d,t,o}) m ys:=Wv.push (b:=true) q2 _
   wp_walk using xR L,xR L2
   exact{_,rfl,h}
def Y5(e:h.get? it=↑(itO b l)):Wo b h it l 0:=by
 cases b
 .exact{_,e,rfl,rfl}
 .exact{_,e,rfl,rfl}
def ZZ(q:Wv b s.heap l xs)(q2:Wv c s.heap m ys)
  (h:∀g,IsZip g (s.heap.objs.size+4) (s.heap.objs.size+2) (s.heap.objs.size+3) .none->IsPair g (s.heap.objs.size+2) (.ref s.heap.objs.size) (.ref<|s.heap.objs.size+1)->IsPair g (s.heap.objs.size+3) .none .none ->
   Wo b g s.heap.objs.size l 0->Wo c g (s.heap.objs.size+1) m 0->(∀a o,s.heap.get? a=↑o->g.get? a=↑o)->Q (.ref<|s.heap.objs.size+4) {s with heap:=g}) :
  wpAny (model prog w) A (call (.type "zip") [.ref l,.ref m]) Q E s:=by
 refine callType_new F.called_zip (by rfl) (F.typeCall_zip_2 _ _) (F.newCall_zip_2 _ _) (λobj=>F.args_object_init_3 obj _ _) F.entry_zip_new (aa2 b c l m xs ys) {q,q2,?_};have n:(z1 b s.heap l).objs.size=s.heap.objs.size+1:=xJ ..;have N:(z2 b c s.heap l m).objs.size=s.heap.objs.size+2:=by simp
 have i:(z3 b c s.heap l m).objs.size=s.heap.objs.size+3:=by simp
 have j:(z4 b c s.heap l m).objs.size=s.heap.objs.size+4:=by simp
 have G:(z5 b c s.heap l m).get? _=↑_:=zX _ rfl;have f:(z5 b c s.heap l m).get? _=↑_:=zU _<|zX _ rfl;have e:(z5 b c s.heap l m).get? _=↑_:=zU _<|zU _<|zX _ rfl;have d:(z5 b c s.heap l m).get? _=↑_:=zU _<|zU _<|zU _<|zX _ rfl;rw[N,i,j]at G;rw[n,N]at e;rw[i]at f;rw[n]at d;rw[j];exact{{_,G,rfl},h _ G e f (Y5 (zU _ (zU _<|zU _<|zU _<|zX _ rfl):(z5 b c s.heap l m).get? s.heap.objs.size=↑_)) (Y5 d) λa o x=>zU _<|zU _<|zU _<|zU _<|zU _ x}
end Zp
namespace Dl
open PySem L2 PySem.Spec PyProof.Rows Zp
def uC(K:Φ)(b:θ)(a:Ψ)(H:Hp)(xs:Γ V):Prop:=match b with|true=>gm K H a xs|false=>iw K H a xs
def uC.src(I:Inv X pins σ H s)(h:uC X.K b a H xs):∃E ,aG xs E/\Wv b s.heap a E.toArray/\xs.length<=sizeLine:=by
 cases b
 .let(E,r,p,z):=I.list<|h;exact{E,r,p.isList,z}
 .let(E,r,p,z):=I.tuple<|h;exact⟨E,r,p,z⟩
def uC.ne(I:Inv X pins σ H s)(f:di X pins H c)(h:uC X.K b a H xs):a≠c:=by
 cases b
 .exact Os I f h
 .exact Nt I f h
def uC.inj(I:Inv X pins σ H s)(h:uC X.K b a H xs)(h':uC X.K b a H ys):xs=ys:=by
 cases b
 .exact I.Yc h h'
 .exact I.XA h h'
def uC.mono{K:Φ}(e:az H H')(h:uC K b a H xs):uC K b a H' xs:=by
 cases b
 .exact e.seq h
 .exact aB e h
def ET{K:Φ}(b c:θ)(M N z TI TO i1 i2:Ψ)(Z:U4 z TI TO i1 i2) :
  Turn P w K (.Tuple elts k pos) (Tg (uC K b M)<|uC K c N) [z,TI,TO,i1,i2] z (λi h=>IsZip h z TI TO .none/\IsPair h TI (.ref i1) (.ref i2)/\(∃a b,IsPair h TO a b)/\Wo b h i1 M i/\Wo c h i2 N i) where
 mem:=by simp
 obj:=λi h st d hd=>by
  let(m,j,(a,G,O),C,p2):=st;simp?[zR,yF,xU]at hd;rcases hd with rfl|rfl|rfl|rfl|rfl
  .exact{_,m,λv q=>by have q:Data.fields _=Data.cell v:=q;cases q}
  .exact{_,j,λv q=>by have q:Data.seq _ _=Data.cell v:=q;cases q}
  .exact{_,O,λv q=>by have q:Data.seq _ _=Data.cell v:=q;cases q}
  .exact C.obj
  .exact p2.obj
 keep:=λi h h' st A=>by
  let(m,j,(a,G,O),p,t):=st;exact{A z (by simp) _ m,A TI (by simp) _ j,{a,G,A TO (by simp) _ O},p.at λo q=>A i1 (by simp) o q,t.at λo q=>A i2 (by simp) o q}
 item:=by
  intro X U hw T hc i F s σ H E I f st hg;subst U hw T;let(xs,ys,x,y,Y,l,J,hy):=hg;let(Q,r,C,hz1):=Y.src I;let(WA,R,p2,hz2):=l.src I;let(u1,hu1,ru1):=r.get J;let(u2,hu2,ru2):=R.get hy;have D:ZipApart z TI TO i1 i2 M N:={Z.a1,Z.a2,Z.a3,Z.a4,Z.a5,Z.a6,Z.a7,Z.a8,Z.a9,Z.a0,Y.ne I<|f z<|by simp,Y.ne I<|f TO<|by simp,Y.ne I<|f i1<|by simp,Y.ne I<|f i2<|by simp,l.ne I<|f z<|by simp,l.ne I<|f TO<|by simp,l.ne I<|f i1<|by simp,l.ne I<|f i2<|by simp}
  let(m,j,(a,G,O),p,t):=st;refine adJ (I.ok.hd hc) D m j O p t C p2 (x:=u1) (y:=u2) (by simpa using hu1) (by simpa using hu2) λg b1 b2 b3 b4 b5 b6 hk=>{.ref s.heap.objs.size,rfl,?_}
  have L:∀{c:Ψ}{o:Obj},s.heap.get? c=↑o->s.heap.objs.size≠c:=λe=>jH<|zY e;refine wpAny_letOwnedTupleGo_zip (s:={s with heap:=g}) b1 λg' hz' n=>?_;have u:g'.get? s.heap.objs.size=some {cls:=.type "tuple",data:=.seq #[u1,u2]}:=n.extBut _ _ (L m) b5;have ht:D8 g' s.heap.objs.size (List.toArray [u1,u2]):={{_,u,rfl,_,rfl},_,u,rfl}
  refine⟨.ref s.heap.objs.size,_,Ae (ch:=[z,TI,TO,i1,i2]) (xs:=[x,y]) (t':=s.toks) I f (λb o B q=>?_) (yM _) ht (.cons ru1<|.cons ru2 .nil) (by show 2<=sizeLine;decide),rfl,
   {s.heap.objs.size,x,y,rfl,I.fresh,rfl,λzs S=>by rw[S.inj I Y];exact J,λzs S=>by rw[S.inj I l];exact hy},
   {hz',n.extBut _ _ Z.a1<|hk _ _ D.TIz D.TITO D.TIi1 D.TIi2 j,{_,_,n.extBut _ _ Z.a2 b2},b3.extBut n.extBut Z.a3,b4.extBut n.extBut Z.a4},λb B=>?_⟩
  .simp?[zR,yF,xU,not_or]at B;exact n.extBut _ _ B.1<|hk b o B.1 B.2.2.1 B.2.2.2.1 B.2.2.2.2 q
  .have:s.heap.objs.size≠b:=by
    simp?[zR,yF,xU]at B;let(o1,g1,_):=p.obj;let(o2,g2,_):=t.obj;rcases B with rfl|rfl|rfl|rfl|rfl
    .exact L m
    .exact L j
    .exact L O
    .exact L g1
    .exact L g2
   rw[ak<|jM this];exact(f b B).1
 done:=by
  intro X U hw T hc i F s σ H E I f st hg;subst U hw T;let(xs,ys,Y,l,J):=hg;let(Q,r,C,hz1):=Y.src I;let(WA,R,p2,hz2):=l.src I;have D:ZipApart z TI TO i1 i2 M N:={Z.a1,Z.a2,Z.a3,Z.a4,Z.a5,Z.a6,Z.a7,Z.a8,Z.a9,Z.a0,Y.ne I<|f z<|by simp,Y.ne I<|f TO<|by simp,Y.ne I<|f i1<|by simp,Y.ne I<|f i2<|by simp,l.ne I<|f z<|by simp,l.ne I<|f TO<|by simp,l.ne I<|f i1<|by simp,l.ne I<|f i2<|by simp}
  let(m,j,(a,G,O),p,t):=st;have e1:=r.length;have e2:=R.length;refine acm (I.ok.hd hc) D m j O p t C p2 (J.elim (λq=>.inl (by simp;lia)) λq=>.inr (by simp;lia)) λg hk=>{rfl,?_}
  refine Er (ch:=[z,TI,TO,i1,i2]) (t':=s.toks) I f λb o B q=>?_;simp?[zR,yF,xU,not_or]at B;exact hk b o B.1 B.2.2.1 B.2.2.2.1 B.2.2.2.2 q
 self:=λ_ _ _ _ _ st h=>wpAny_pyIter_zip st.1 h
def Lw(B:nC X "zip" (.type "zip"))(A:PA X [l,U] tl)(hs:starEach [l,U] X.env=(false,eval l X.env)::starEach [U] X.env)(Z:(backTo pos<|starEach [U] X.env).any (·.1)=false) :
  PI X (.Tuple elts k tp) (.Call (.Name "zip" p) [l,U] [] pos) (λσ H R=>tl σ H λvs f=>∃a b,vs=[.ref a,.ref b]/\∃c d xs ys,uC X.K c a f xs/\uC X.K d b f ys/\R (Tg (uC X.K c a)<|uC X.K d b) f):=by
 refineλP s σ H R I h=>Call_<|fO I B.gl B.mg B.bt<|qQ (b0 (A pos P s σ H _ I h) λN m z=>?_) hs Z;let(vs,f,i,r1,Q):=z;let(a,b,e,c,d,xs,ys,Y,y,q):=Q;subst e;let(u,M,rfl,C,D):=vals2 r1;cases C;cases D;let(F,J,w,G):=Y.src i;let(S,x,L,z):=y.src i;refine ZZ w L λg j n o r t v=>wpAny_pyIter_zip j <| {_,_,_,_,f,rfl,i.kept v,ET c d a b _ _ _ m.heap.objs.size _ ?_,{j,n,{_,_,o},r,t},λc hc=>?_,q}
 .constructor<;>(simp)
 .have E:m.heap.objs.size<=c:=by
   simp  at hc;rcases hc with rfl|rfl|rfl|rfl|rfl
   .apply jU
   .apply jU
   .apply jU
   .apply yM
   .apply jU
  exact i.W8 E<|i.VH.fresh E
def QG:Γ D->Δ (Γ D):=λd=>match d with
 |[x,y]=>(ix x).bind λs=>(ix y).map λY=>l6 s Y
 |_=>none
def BS{K:Φ}(h:ix d=↑xs)(r:Rep K HF d v):∃b a vs,v=.ref a/\uC K b a HF vs/\ar K HF xs vs:=by
 rcases l4 h with rfl|rfl
 .let(a,vs,rfl,q,R):=r;exact{true,a,vs,rfl,q,R}
 .let(a,vs,rfl,q,R):=r;exact{false,a,vs,rfl,q,R}
def sv(fs:Env->Δ (Γ D)):Env->Δ (Γ D):=λa=>(fs a).bind QG
def Mr(B:nC X "zip" (.type "zip"))(hs:starEach [l,U] X.env=(false,eval l X.env)::starEach [U] X.env)(Z:(backTo pos<|starEach [U] X.env).any (·.1)=false)(h:DA X [l,U] fs) :
  DI X (.Tuple elts k tp) (.Call (.Name "zip" p) [l,U] [] pos) (sv fs):=
 v8 (Lw B h hs Z) λN H R z=>by
  let(F,E,I,sm,o,f,q):=z;let(x,t,f):=bs f;refine{F,E,_,sm,o,t,λL i G g r1=>?_};unfold QG at f;split at f
  .let(M,m,f):=bs f;let(Y,n,rfl):=ai f;let(v,J,rfl,a,b):=r1.cons_inv;let(K,w,rfl,A,j):=b.cons_inv;rw[j.nil_inv];let(c,D,S,rfl,e,y):=BS m a;let(C,d,u,rfl,Q,r):=BS n A;exact{D,d,rfl,c,C,S,u,e.mono g.fh,Q.mono g.fh,q _ i G g<|Gr e (λ_ _ s h=>h.mono s) Q (λ_ _ s h=>h.mono s) y r}
  .cases f
end Dl
namespace Zp
open PySem PyProof.Rows
def Wo.ne(x:Wo b h it l k)(y:Wv b h l xs):l≠it:=by
 cases b
 .let(o,e,c,d):=(x)
  let(O,E,r):=(y)
  grind
 .let(o,e,c,d):=(x)
  let(O,E,r):=(y)
  grind
def aco(n:A.handled=none)(b:θ)(it l:Ψ)(xs:Array Θ):Draws prog w A it [it,l] xs.size (λi x=>xs[i]?=↑x) (λi h=>Wo b h it l i/\Wv b h l xs) where
 live:=λi h st=>let ⟨o,e,_⟩:=st.1.obj;{o,e}
 frame:=λi h a st k=>{st.1.at<|k it<|by simp,st.2.at<|k l<|by simp}
 item:=λi s Q E I st H=>nxt st.1 st.2 (v:=xs[i]) (by simp) λg e t=>H _ g s.toks (by simp) {e,st.2.extBut t.extBut<|st.1.ne st.2} t
 done:=λs Q E st=>aa1 n st.1 st.2 (by simp)
def adK{S:θ}{e it l:Ψ}{i:Nat}{items:Array Θ}{x O:Θ}{Q:Δ Θ->Ξ->Prop}(j:A.handled=none)
  (qe:IsEnum s.heap e it i O)(I:Wo S s.heap it l i)(q:Wv S s.heap l items)(X:items[i]?=↑x)(n:e≠it)
  (K:∀g t,IsEnumOut g e it ((i:Int)+1) x s.heap.objs.size->Wo S g it l (i+1)->g.get? s.heap.objs.size=some {cls:=.type "tuple",data:=.seq #[.int i t,x]} ->
   g.objs.size=s.heap.objs.size+1->(∀c o,c≠e->c≠it->s.heap.get? c=↑o->g.get? c=↑o)->Q (↑(.ref s.heap.objs.size)) {s with heap:=g,toks:=t+1}) :
  wpAny (model prog w) A (pyNext<|.ref e) Q E s:=by
 have N:e≠l:=by
  rintro rfl;cases S
  .let(o,f,r):=(show s.heap.IsList e items from q)
   rw[qe]at f;cases f;simp at r
  .let(o,f,r):=(show s.heap.IsTuple e items from q)
   rw[qe]at f;cases f;simp at r
 have D:Draws prog w A.in1 it [it,l] items.size (λi x=>items[i]?=↑x) (λi h=>Wo S h it l i/\Wv S h l items):=aco (A:=A.in1) j S it l items;refine wpAny_pyNext_enum_itemD D qe {I,q} (Array.getElem?_eq_some_iff.mp X).1 n (by simp[n,N]) λy g t H a b c d k=>?_;rw[X]at H;cases H;exact K g t a b.1 c d k
end Zp
namespace Dl
open PySem L2 PySem.Spec PyProof.Rows Zp
def rC{K:Φ}(b:θ)(a it e:Ψ)(l:e≠it):Turn P w K (.Tuple elts k pos) (TN<|uC K b a) [e,it] e (λi h=>(∃d,IsEnum h e it i d)/\Wo b h it a i) where
 mem:=by simp
 obj:=λi h st c hc=>by
  let((d,f),j):=st;rcases List.mem_cons.mp hc with z|z
  .subst z;exact{_,f,λv q=>by have q:Data.fields _=Data.cell v:=q;cases q}
  .rw[List.mem_singleton.mp z];exact j.obj
 keep:=λi h h' st N=>{let ⟨d,f⟩:=st.1;{d,N e (by simp) _ f},st.2.at λo q=>N it (by simp) o q}
 item:=by
  intro X A hw y hc i S s σ H E I r st G;subst A hw y;let(O,x,Q,M):=G;let(U,R,p,hz):=Q.src I;let(u,hu,ru):=R.get M;let((d,f),j):=st;refine adK (I.ok.hd hc) f j p (by simpa using hu) l λg tk Z b2 b3 b4 hk=>{.ref s.heap.objs.size,rfl,?_}
  have lt:∀{c:Ψ}{o:Obj},s.heap.get? c=↑o->s.heap.objs.size≠c:=λe=>jH<|zY e;refine wpAny_letOwnedTupleGo_enum Z λg' D t=>?_;have B:=t.extBut _ _ (lt f) b3;refine⟨.ref s.heap.objs.size,_,Ae (xs:=[.int i,x]) I r (λc o n q=>?_) (yM _) ({{_,B,rfl,_,rfl},_,B,rfl}) (.cons {_,rfl}<|.cons ru .nil) (by show 2<=sizeLine;decide),rfl,
   {s.heap.objs.size,x,rfl,I.fresh,rfl,λzs L=>by rw[L.inj I Q];lia},{{_,D},b2.extBut t.extBut<|jM l},λc Y=>?_⟩
  .simp  at n;exact t.extBut _ _ n.1<|hk c o n.1 n.2 q
  .have:s.heap.objs.size≠c:=by
    let(o1,g1,_):=j.obj
    grind
   rw[ak<|jM this];exact(r c Y).1
 done:=by
  intro X A hw y hc i S s σ H E I r st G;subst A hw y;let(O,Q,M):=G;let(U,R,p,hz):=Q.src I;have hl:=R.length;let((d,f),j):=st;have T:s.TypeIs (.ref e) _:={_,f,rfl}
  refine zV<|kO<|qC T F.slot_enumerate_next<|qU F.slot_enumerate_next T F.entry_enumerate_next (zV (m:=field _ 2)<|qS f rfl rfl (zV<|aa1 (I.ok.hd hc) j p (by simp;lia) λh1 x k1 J=>?_))<|F.args_enumerate_next_1 _;let(o,ho,C):=J;refine zV<|wpAny_isInstance {o,ho,C} isSubtype_stop<|zW {rfl,?_};let(f0,f1,f2,f3,f4,f5):=r it (by simp);exact I.turned (k1) f0 f1 f3 f4 f5
 self:=λ_ _ _ _ _ st h=>let ⟨_,f⟩:=st.1;wM f h
def Kp(B:nC X "enumerate" (.type "enumerate"))(A:PA X [l] tl)(hs:starEach [l] X.env=[(false,eval l X.env)]):PI X (.Tuple elts k U) (.Call (.Name "enumerate" p) [l] [] pos) (λσ H R=>tl σ H λvs c=>∃a,vs=[.ref a]/\∃b xs,uC X.K b a c xs/\R (TN<|uC X.K b a) c):=by
 refineλP s σ H R I h=>Call_<|fO I B.gl B.mg B.bt<|qQ (b0 (A pos P s σ H _ I h) λw S z=>?_) hs rfl;let(vs,c,i,r1,m):=z;let(a,e,b,xs,Q,q):=m;subst e;let(u,rfl,r):=vals1 r1;cases r;have f:∀b∈[S.heap.objs.size+1,S.heap.objs.size],di X P c b:=λb j=>by
  rcases List.mem_cons.mp j with z|z
  .subst z;exact i.W8 (Nat.le_succ _)<|i.VH.fresh<|Nat.le_succ _
  .cases List.mem_singleton.mp z;exact i.W8 (yM _) i.fresh
 let(v,o,L,n):=Q.src i;cases b with
 |false =>
  exact call_enumerate_list L λg E t Z d=>wM E <| {_,_,_,_,c,rfl,i.kept d,rC false a S.heap.objs.size _<|Nat.succ_ne_self _,{{_,E},t},f,q}
 |true =>
  exact En.YL (L) λg E t Z d=>wM E<|{_,_,_,_,c,rfl,i.kept d,rC true a S.heap.objs.size _<|Nat.succ_ne_self _,{{_,E},t},f,q}
def cW(fs:Env->Δ (Γ D)):Env->Δ (Γ D):=λa=>(fs a).bind λd=>(g8 d).map<|b8 0
def Lu(B:nC X "enumerate" (.type "enumerate"))(h:DA X [l] fs)(hs:starEach [l] X.env=[(false,eval l X.env)]):DI X (.Tuple elts k U) (.Call (.Name "enumerate" p) [l] [] pos) (cW fs):=
 v8 (Kp B h hs) λw H R z=>by
  let(F,n,D,sm,o,f,q):=z;let(x,i,f):=bs f;let(E,e,rfl):=ai f;let(d,m,e):=bs e;rw[ji m]at i;refine{F,n,_,sm,o,i,λS j G g r1=>?_};let(v,t,rfl,a,b):=r1.cons_inv;rw[b.nil_inv];let(c,A,u,rfl,Q,r):=BS e a;exact{A,rfl,c,u,Q.mono g.fh,q _ j G g<|Ei Q (λ_ _ s h=>h.mono s) r}
end Dl
namespace Y4
open PySem PySem.W PySem.Calls PyProof.Rows L2
def di.at(h:di X pins H b)(e:H' b=none):di X pins H' b:={e,h.2}
def W7{g:Array Θ->Array Θ}(I:Inv X pins σ H s)(f:di X pins H b):Inv X pins σ H {s with heap:=s.heap.update b (Obj.mapSeq g)}:=by
 let(F,f1,f2,f3,f4,f5):=f;exact I.turned (λc o hc=>(xN _ _<|jM hc).trans) F f1 f3 f4 f5
def Y8(I:Inv X (pins++xn fp h) σ H' s')(H:b∈fp)(e:h.get? b=↑o):s'.heap.get? b=↑o/\H' b=none:=
 let q:=I.pin _<|yE _<|yE _<|eS H e;{q.1,q.2.1}
def YO(I:Inv X pins σ H s)(ho:s.heap.get? a=↑(seqObj "list" vs.toArray n))(fa:di X pins H a)(YJ:vs.length<64)
  (J:Γ Θ->Hp->Prop)(j0:J [] H)
  (step:∀us v,vs[us.length]?=↑v->∀pl s' H',Inv X (pins++pl) σ H' s'->J us H'->wpAny (model X.prog X.w) A (call f [v]) (λu q=>∃d,Inv X (pins++pl) σ d q/\J (us++[u]) d) (λ_ _=>False) s')
  (fin:∀us H',us.length=vs.length->J us H'->∃ (z:Nat->Int) (Y:SortKind),(2<=vs.length->∀s',Inv X pins σ H' s'->(∀Q':SortKind->Ξ->Prop,Q' Y s'->wpAny (model X.prog X.w) A (keyKind' us.toArray) Q' (λ_ _=>False) s') /\
    ∀i j C,i<vs.length->j<vs.length->C (SP.ik z i j) s'->kas_ask X.prog X.w A Y us i j C s') /\
   ∀s' c,Inv X pins σ H' s'->di X pins H' a->s'.heap.get? a=↑(seqObj "list" (V3 z vs).toArray c)->P (.done<|.ret .none) s') :
  wpAny (model X.prog X.w) A (ksk_tree a f false) P E s:=by
 have hsl:vs.length<=sizeLine:=by rw[qT];lia
 unfold ksk_tree;refine zV<|vK ho rfl ?_;refine zV<|jZ ho rfl ?_ (by omega) (xV _);obtain⟨e1,ZJ⟩:∃e,(s.heap.update a (Obj.mapSeq λ_=>(#[]:Array Θ))).get? a=↑(seqObj "list" #[] e):={_,kC ho λ_=>#[]}
 have I1:=W7 (g:=λ_=>(#[]:Array Θ)) I fa;refine zV<|seqEpoch_at ZJ rfl ?_;refine zV<|wpAny_newTuple ?_ (by lia);refine zV<|kN ?_<|xV _;refine xX ?_;have F:(((s.heap.update a<|Obj.mapSeq λ_=>(#[]:Array Θ)).push<|seqObj "tuple" vs.toArray 0).push<|seqObj "list" #[] 0).get? a=↑(seqObj "list" #[] e1):=zU _<|zU _ ZJ;have l:(((s.heap.update a<|Obj.mapSeq λ_=>(#[]:Array Θ)).push<|seqObj "tuple" vs.toArray 0).push<|seqObj "list" #[] 0).get? ((s.heap.update a<|Obj.mapSeq λ_=>(#[]:Array Θ)).push<|seqObj "tuple" vs.toArray 0).objs.size=↑(seqObj "list" #[] 0):=zX _ rfl;have I3:=(I1.kept (t':=s.toks) (h':=((s.heap.update a<|Obj.mapSeq λ_=>(#[]:Array Θ)).push<|seqObj "tuple" vs.toArray 0).push<|seqObj "list" #[] 0) λb o e=>zU _<|zU _ e)
 have I2:=(I1.kept (t':=s.toks) (h':=(s.heap.update a<|Obj.mapSeq λ_=>(#[]:Array Θ)).push<|seqObj "tuple" vs.toArray 0) λb o e=>zU _ e)
 have L:di X pins H ((s.heap.update a<|Obj.mapSeq λ_=>(#[]:Array Θ)).push<|seqObj "tuple" vs.toArray 0).objs.size:=I2.W8 (yM _)<|I2.VH.fresh<|yM _;have D:((s.heap.update a<|Obj.mapSeq λ_=>(#[]:Array Θ)).push<|seqObj "tuple" vs.toArray 0).objs.size≠a:=by
  have Z:=zY ZJ;rw[xJ];exact jH<|jN Z
 show wpAny _ A _ P E {s with heap:=((s.heap.update a<|Obj.mapSeq λ_=>(#[]:Array Θ)).push<|seqObj "tuple" vs.toArray 0).push (seqObj "list" #[] 0)};generalize ((s.heap.update a<|Obj.mapSeq λ_=>(#[]:Array Θ)).push<|seqObj "tuple" vs.toArray 0).objs.size=S at l L D;generalize e3:({s with heap:=((s.heap.update a<|Obj.mapSeq λ_=>(#[]:Array Θ)).push<|seqObj "tuple" vs.toArray 0).push (seqObj "list" #[] 0)}:Ξ)=s3 at I3;have F:s3.heap.get? a=↑(seqObj "list" #[] e1):=by rw[<-e3];exact F
 have l:s3.heap.get? S=↑(seqObj "list" #[] 0):=by rw[<-e3];exact l
 refine zV<|wC ?_;rw[List.forIn_toArray];refine zV (ksk_fold (λi s'=>∃us H' e,us.length=i/\Inv X pins σ H' s'/\H' a=none/\H' S=none/\s'.heap.get? a=↑_/\s'.heap.get? S=↑(seqObj _ us.toArray e)/\J us H') vs 0 s3
  {[],H,0,rfl,I3,fa.1,L.1,F,l,j0} ?step ?done)
 case step =>
  rintro j x s' hx ⟨us,H',e,U,T,k,Xu,m,K,j'⟩;have U:us.length=j:=by lia
  have hj:=(List.getElem?_eq_some_iff.mp hx).1;have Ip:=T.pinned (λb B=>by
   rcases List.mem_cons.mp B with rfl|B
   .exact di.at fa k
   .rw[List.mem_singleton.mp B];exact di.at L Xu) (λb B=>by
   rcases List.mem_cons.mp B with rfl|B
   .exact{_,m,λv z=>by cases z}
   .rw[List.mem_singleton.mp B];exact{_,K,λv z=>by cases z})
  refine zV<|kO<|xA (step us x (by rw[U];exact hx) _ s' H' Ip j') (λu q he=>?_) λ_ _ hF=>hF.elim;let(d,y,j''):=he;let(ga,na):=Y8 y zE m;let(gk,nk):=Y8 y (zC _ zE) K;have I4:=y.Wf;obtain⟨c2,Y1⟩:∃c2,(q.heap.update S (Obj.mapSeq (·.push u))).get? S=↑_:={_,kC gk _}
  refine zV<|jZ gk rfl (zW {rfl,us++[u],d,c2,by rw[zN,U];simp,W7 I4<|di.at L nk,na,nk,(xN _ _ D).trans ga,?_,j''}) (by rw[zH,qT];lia) (yD (Nat.le_of_eq<|Array.size_push ..) (by rw[zH,qT];lia));rw[Y1];simp
 case done =>
  rintro s' ⟨us,H',e,U,T,k,Xu,m,K,j'⟩;have U:us.length=vs.length:=by lia
  refine zV<|vK K rfl ?_;let(z,Y,hz,hP):=fin us H' U j';have t:∀W ,(arrOf W).map _=(V3 z vs).toArray->failedOf W=none->wpAny (model X.prog X.w) A (ksk_tail a false e1 _ W) P E s':=λW h1 r=>by
   unfold ksk_tail;rw[h1,r];have N:(s'.heap.update S<|Obj.mapSeq λ_=>#[]).get? a=↑_:=(xN _ _ D).trans m;have I6:=W7 (g:=λ_=>(V3 z vs).toArray) (W7 (g:=λ_=>(#[]:Array Θ)) T<|di.at L Xu)<|di.at fa k;refine zV<|jZ K rfl ?_ (by rw[zH,qT];lia) (xV _);refine zV<|wpAny_letGo<|zV<|seqEpoch_at N rfl ?_;refine zV (jZ N rfl ?_ (xV _) (by
    simp?[yO,qN];rw[zH,Yi];lia))
   obtain⟨c,hc⟩:∃c,((s'.heap.update S (Obj.mapSeq _)).update a (Obj.mapSeq λ_=>(V3 z vs).toArray)).get? a=↑_:={_,kC N _}
   simp ;exact zW<|hP _ c I6 (di.at fa k) hc
  unfold ksk_end;simp?[yO,qN];by_cases r:vs.toArray.size<2
  .rw[yL r,yL r];refine zV<|zW<|t _ ?_ rfl;rw[V3,yL<|by simpa using r];show((us.toArray.zip vs.toArray).map _)=vs.toArray;simp ;exact List.map_snd_zip (by rw[U];apply yM)
  .rw[yN r,yN r];have M:2<=vs.length:=by
    have:¬vs.length<2:=by exact r
    lia
   let(hk,Z):=hz M s' T;refine zV<|xA (hk (λR q=>R=Y/\q=s') ⟨rfl,rfl⟩) (λR q hs=>?_) λ_ _ x=>x.elim;let(rfl,rfl):=hs;refine zV (xA (kat_run (Q:=λW O=>O=q/\(arrOf W).map (·.2)=(V3 z vs).toArray/\failedOf W=none) (G:=λp O=>O=q/\p=SP.run _ _)
    U M YJ (λp W O a1 a2 a3 a4=>{a4.1,?_,a3}) (SP.wp_run Z _ (SP.Gi<|by lia) {rfl,rfl})) ?_ λ_ _ e=>e)
   .rw[kat_snds U a2,a4.2];rw[V3,yN<|by lia]
   .rintro⟨⟨⟩,W⟩ O ⟨hs,h4,h5⟩;subst hs;exact t W h4 h5
def sortedK{l:Θ}{f:Ψ}{Q:Θ->Ξ->Prop}(I:Inv X pins σ H s)(Y:vs.length<64)
  (k:∀{q:Γ Θ->Ξ->Prop},(∀h':ι,(∀b o,s.heap.get? b=↑o->h'.get? b=↑o)->q vs {s with heap:=h'})->wpAny (model X.prog X.w) A.in1 (collect l) q E s)
  (J:Γ Θ->Hp->Prop)(t:J [] H)
  (step:∀us v,vs[us.length]?=↑v->∀pl s' H',Inv X (pins++pl) σ H' s'->J us H'->wpAny (model X.prog X.w) A.in1.in1 (call (.ref f) [v]) (λu W=>∃a,Inv X (pins++pl) σ a W/\J (us++[u]) a) (λ_ _=>False) s')
  (fin:∀us H',us.length=vs.length->J us H'->∃ (z:Nat->Int) (d:SortKind),(2<=vs.length->∀s',Inv X pins σ H' s'->(∀q:SortKind->Ξ->Prop,q d s'->wpAny (model X.prog X.w) A.in1.in1 (keyKind' us.toArray) q (λ_ _=>False) s') /\
    ∀i j C,i<vs.length->j<vs.length->C (SP.ik z i j) s'->kas_ask X.prog X.w A.in1.in1 d us i j C s') /\
   ∀s' D c,Inv X pins σ H' s'->di X pins H' D->s'.heap.get? D=↑(seqObj "list" (V3 z vs).toArray c)->Q (.ref D) s') :
  wpAny (model X.prog X.w) A (call (.builtin "sorted") [l] [(Str.ofString "key",.ref f)]) Q E s:=by
 have L:vs.length<=sizeLine:=by rw[qT];lia
 apply call_function_entry_kw kind_sorted plain_sorted entry_sorted<|ksk_s1 _ _;refine zV<|zW<|zV<|k λm K=>(zV<|kN ?_<|by lia);have g:=I.kept (t':=s.toks) K;have Z:(m.push<|seqObj "list" vs.toArray 0).get? m.objs.size=↑_:=zX _ rfl;refine zV<|xX<|wpAny_call_entry_kw slot_list_sort {_,Z,rfl} entry_list_sort ?body<|ksk_l1 _ _
 case body =>
  refine YO (g.kept λb o=>zU _) Z (g.W8 (yM _)<|g.VH.fresh<|yM _) Y J t step λus H' U r=>?_;let(z,d,p,P):=fin us H' U r;exact{z,d,p,λs' c n F e=>{_,rfl,zW {_,rfl,P s' _ c n F e}}}
end Y4
namespace Dl
open PySem L2 PySem.Spec PyProof.Rows
def _root_.L2.Inv.adL(I:Inv X pins σ H s)(f:di X pins H b)(i:dX X.prog X.w (upd H b o) s.heap b o):Inv X pins σ (upd H b o) s:=by
 let(F,f1,f2,f3,f4,f5):=f;have up:∀c u,H c=↑u->upd H b o c=↑u:=λc u e=>by rw[ak<|aM e F];lia
 refine{I.ok,I.os,I.bare,{I.base.keep,I.base.slot,λc O e n a=>?_,I.base.there,λc S e=>up c _<|I.base.WT c S e,λc O u e=>up c _<|I.base.WJ c O u e,λc u e t=>up c u<|I.base.Wx.st c u e t,I.base.Wx.gr},I.loc,I.cell,?_,λx c e=>?_,λp P=>?_,λc u e=>?_,I.len}
 .have Z:c≠b:=λz=>by
   rcases f3 with g|g
   .exact a<|z▸g
   .exact absurd (zP (zY e)<|z▸g)<|qE _
  rw[ak Z];exact I.base.free c O e n a
 .rw[ak<|jM f1];exact I.free
 .rw[ak<|f4 x c e];exact I.VV x c e
 .let(e,n,r):=I.pin p P;exact{e,by rw[ak<|f5 p P];lia,r}
 .by_cases hc:c=b
  .subst hc;rw[av]at e;grind
  .rw[ak hc]at e;exact(I.VH c u e).Wa (λd w _ q=>q) (λd=>up d _) λd w q _=>up d _ q
def y0(scope:ζ)(N:Γ Str)(p:Str):θ:=scope.names.all (λq=>!decide (q.2=NameKind.cell))&&decide (N[0]?=↑p)&&decide (scope.names.lookup p=↑.local)&&decide (scope.isCoroutine=false)&&decide (scope.isGenerator=false)
section
def O8(C:Bk X N sc (k+3))(a:bT (k+1) A)(hk:scope.kind=.function)(pR:U.Nodup)(l:y0 scope U p=true):Bk (pz X A qual scope U f c s H) U scope k where
 n:=rfl
 nd:=pR
 tb:=λx kd=>.inl
 calm:=rfl
 fn:=λx b=>by
  simp?[y0,zF,xG,yP,xB]at l;exact absurd rfl (l.1.1.1.1 _<|mem_of_lookup b)
 room:=a.deeper _
 xe:=rfl
 kd:=hk
structure C1(X:Cx)(qual:Str):Prop where
 ex:∃c P,X.env.code=.ref c/\X.env.qual++"<lambda>"=qual/\W.codeHdIn X.K c P=true/\∀HF,cx X.K HF->HF P=↑(.tab qual)
def pF(te:Env->Δ D)(ρ:Env):Γ D->Δ (Γ D)
 |[]=>↑[]
 |d::s=>(te<|ρ.set 0<|↑d).bind λx=>(pF te ρ s).map (x::·)
def ux:∀{ds k:Γ D},pF te ρ ds=↑k->k.length=ds.length
 |[],k,h=>by cases h;rfl
 |d::ds,k,h=>by
  let(y,a,h):=bs h;let(s,H,rfl):=ai h;simp[ux H]
def Ab:∀{ds k:Γ D}{i:Nat}{d:D},pF te ρ ds=↑k->ds[i]?=↑d->∃x,te (ρ.set 0<|↑d)=↑x/\k[i]?=↑x
 |[],k,i,d,h,e=>by simp at e
 |f::ds,k,i,d,h,e=>by
  let(y,H,h):=bs h;let(s,c,rfl):=ai h;cases i with
  |zero=>simp at e;subst e;exact{y,H,rfl}
  |succ i=>let(x,a,b):=Ab c<|e;exact⟨x,a,b⟩
def oG(cs:Γ Nat)(fl te:Env->Δ D):Env->Δ (Γ D):=λa=>(fl a).bind λl=>match l with
 |.list d=>(pF te (fQ 1 cs a) d).bind λk=>(intsOf k).bind λzs=>if d.length<64 then↑(AL (λi=>zs.getD i 0) d .none)else none
 |_=>none
def ID{K:Φ}{cs:Γ Nat}(e:cu K HF ρ σ)(r:Rep K HF d v):cu K HF ((fQ 1 cs ρ).set 0<|↑d) ((kh 1 cs σ).set 0<|↑v):=pS (Di e) r
def mO{K:Φ}:∀{k:Γ D}{zs:Γ Int}{c:Γ V}{us:Γ Θ},intsOf k=↑zs->ar K HF k c->aG c us->IntsAre us zs
 |[],zs,c,us,h,r,v=>by
  cases h;rw[r.nil_inv]at v;cases v;exact .nil
 |d::k,zs,c,us,h,r,v=>by
  cases d<;>simp?[intsOf]at h<;>try grind
  rename_i i;let(y,H,rfl):=ai h;let(w,s,rfl,a,b):=r.cons_inv;subst a;cases v with
  |cons r1 R =>
   let(t,rfl):=r1;exact .cons i t<|mO H b R
def jh:∀{us:Γ Θ}{zs:Γ Int}{i:Nat},IntsAre us zs->i<us.length->∃t,us.getD i Value.none=.int (zs.getD i 0) t
 |_,_,i,.nil,h=>by simp at h
 |_,_,0,.cons n t r,h=>{t,rfl}
 |_,_,i+1,.cons n t r,h=>by
  let(T,e):=jh (i:=i) r (by simpa using h);exact{T,by simpa using e}
variable {fl te:Env->Δ D}{cs:Γ Nat}
def Bk.Z0(C:Bk X N sc (k+3))(B:nC X "sorted" (.builtin "sorted"))(L:C1 X qual)(ok:kj sc scope N N' 1 cs=true)(hl:y0 scope N' p=true)
  (J:∀(cl:Γ (Str×Ψ))(pm YE u:Θ)(c:Ψ),bindArgs (W.kla_fn "<lambda>" qual params body scope cl pm (.ref c) YE) {[u],[]}=pure [(p,u)])(ab9:defaultsOf params X.env=([],[]))(h:DE X l fl)
  (hY:∀A f c s H,Bk (pz X A qual scope N' f c s H) N' scope k->DE (pz X A qual scope N' f c s H) body te)
  (Wu:starEach [l] X.env=(false,eval l X.env)::starEach [] X.env)(he:backTo pos (starEach [l] X.env)=(false,eval l X.env)::backTo pos (starEach [] X.env))(Wh:(backTo pos<|starEach [l] X.env).any (·.1)=false) :
  DF X (.Call (.Name "sorted" p0) [l] [{↑"key",.Lambda params body scope YF,adM}] pos) (oG cs fl te):=by
 let(S,_):=C.comp ok;have pR:N'.Nodup:=by
  unfold kj at ok;simp?[zF,zJ]at ok;exact ok.2
 have T:=hl;simp?[y0,zF,xG,yP,xB,zJ]at T;obtain⟨⟨⟨⟨hnc,hN0⟩,hp⟩,ZI⟩,ab7⟩:=T;let(cc,P,Y3,adN,hhd,jz):=L.ex;intro Z s σ H Q I ⟨HF,ρ,out,sm,eo,F,q⟩;let(ld,hld,F):=bs F;cases ld<;>try cases F
 rename_i ds;let(ks,M,F):=bs F;let(zs,hzs,F):=bs F;split at F<;>cases F;refine qX<|fO I B.gl B.mg B.bt ?_ (by decide) (by rfl);refine PyProof.Rows.callWith_kw (b0 (v9 h BF Wu pos Z s σ H _ I {HF,ρ,[.list ds],sm,eo,by simp[aa,ag,hld],λvs H1 g a r1=>({g,a,r1}:∃g,bc HF H g H1/\ar X.K g [.list ds] vs)}) λU s1 z=>?_) he Wh rfl rfl;let(vs,H1,I1,rv,g,a,r1):=z;let(v,vr,rfl,a1,b1):=r1.cons_inv;rw[b1.nil_inv]at rv;let(u,rfl,rx):=vals1 rv;let(la,ws,rfl,hq,rr):=a1;cases rx;refine wpAny_evalAll_cons<|zV ?_;refine IG I1 S adN Y3 (W.codeHd_of_K I1.ok.mod.kin hhd) (a.fh _ _<|jz g<|eo.tb.mono a.ff) I1.ok.mod.bmd ab9 λf c' pm YE s2 H2 I2 O hfn ab8 n fp2 _=>(zV<|vC<|zW<|wpAny_evalAll_nil ?_)
 have Ip:=I2.pinned (fp:=[f]) (λb J=>by rw[List.mem_singleton.mp J];exact fp2) (λb J=>by rw[List.mem_singleton.mp J];exact{_,O,λv z=>by cases z});have g2:bc g H1 g H2:={n,.refl _,a.fh.trans n,λ_ _=>.inl}
 let(VE,r,pl,hz):=Ip.list<|n.seq<|a.fh.seq hq;have hlen:VE.length=ds.length:=by rw[<-r.length,rr.length]
 have hkl:=ux M;have hR:=C.room.in1.in1;refine Y4.sortedK (vs:=VE) Ip (by lia) (λ{Q'}hQ=>?_) (λU H'=>∃VD E,bc g H2 VD H'/\ar X.K VD (ks.take U.length) E/\aG E U) {g,[],.refl g2.fh,by rfl,.nil} (λU x hx pl' s3 H3 t ⟨V9,E,m,rk,R⟩=>?_) λU H3 hu ⟨V9,E,m,rk,R⟩=>?_
 .exact collect_list pl.isList (hQ _ λb o e=>((xN _ _<|jH<|zY e).trans<|zU _ e)) (by rw[qT];lia)
 .have hi:U.length<VE.length:=(List.getElem?_eq_some_iff.mp hx).1;obtain⟨w,hw⟩:∃w,ws[U.length]?=↑w:={_,zK (by rw[r.length];exact hi)}
  let(x',Y,rw'):=r.get hw;rw[hx]at Y;cases Y;let(d,hd,rd):=rr.get hw;let(kd,hkd,hki):=Ab M hd;refine xA (IM (Q:=λv H4=>∃y,bc V9 H3 y H4/\Rep X.K y kd v) t hR t.ok.frames S hnc hN0 hp pR ZI ab7 ((t.pin (f,_)<|yE _<|qJ _<|yE _<|eS zE O).1) (m.hh _ _ ab8) (J _ _ _ _ _) rw' (hY _ _ _ _ _<|O8 C hR S.kind pR hl)
   {V9,_,kd,m.fh,ID (eo.mono<|a.ff.trans m.ff)<|rd.mono m.ff,hkd,λv H4 y g4 r4=>{y,g4,r4}}) (λu s4 ⟨v4,H4,I4,r4,y,g4,rp⟩=>{H4,I4,y,E++[v4],m.trans g4,?_,R.append<|.cons r4 .nil}) λ_ _ e=>e
  rw[zN,xC,List.take_add_one,hki];exact(rk.mono g4.ff).append<|ar.cons rp .nil
 .rw[(kK<|by lia)]at rk;have ia:=mO hzs rk R;refine{λi=>zs.getD i 0,oneType',λh2 s3 t=>{λQ' q'=>?_,λi j Cc hi hj q'=>?_},λs3 Dn c t fD e=>?_}
  .rw[PyProof.Rows.ksk_kind (by exact ia)<|by simpa [hu]using h2];exact zW q'
  .let(t1,e1):=jh ia (i:=i) (by lia);let(t2,e2):=jh ia (i:=j) (by lia);rw[W.kas_ask,e1,e2];exact W.kat_lt_int q'
  .have D:=fD.1;have I4:=Inv.adL (o:=.lst _) t fD {by rw[(jy _ _ _).length_eq];exact hz,_,c,(qr (λi=>zs.getD i 0) r),e};have G:=(a.trans g2).trans m;exact{.ref Dn,_,I4.Wf,rfl,q Dn _ _ V9 (G.trans<|.own G.fh D) (G.hh.free D) (G.fh.free D) av<|(sk (λi=>zs.getD i 0) rr).mono m.ff}
end
end Dl
namespace Y4
open PySem PySem.W PySem.Calls PyProof.Rows L2
end Y4
namespace Dl
open PySem L2 PySem.Spec PyProof.Rows
section
variable {cs:Γ Nat}
end
def vf(d:D):Γ D->Δ Nat
 |[]=>none
 |x::s=>if PyData.eqv x d=true then↑0 else(vf d s).map (·+1)
def ui:∀{xs:Γ D}{j:Nat},vf d xs=↑j->j<xs.length/\(∀x,xs[j]?=↑x->PyData.eqv x d=true)/\∀m,m<j->∀x,xs[m]?=↑x->PyData.eqv x d=false
 |[],j,h=>by cases h
 |x::xs,j,h=>by
  unfold vf at h;split at h
  .cases h;rename_i e;exact{Nat.succ_pos _,λy H=>by cases H;exact e,λm M=>absurd M<|vO _}
  .rename_i e;let(k,hk,rfl):=ai h;let(a,b,c):=ui hk;refine{by simpa using a,λy H=>b y<|by simpa using H,λm M y H=>?_};cases m with
   |zero=>cases H;simpa using e
   |succ m=>exact c m (by lia) y (by simpa using H)
def EV(hu:X.A.units+66<cLine):Mt X "list.index" (λx vs H Q=>∃ (HF:Hp) (ds:Γ D) (d:D) (y:V) (j:Nat),az HF H/\Rep X.K HF (.list ds) x/\vs=[y]/\Rep X.K HF d y/\SeqAt.shaped d=true/\SeqAt.shaped (.list ds)=true/\ds.length<=sizeLine/\vf d ds=↑j/\Q (.int j) H):=by
 intro P s σ H x vs v us Q I T O h;let(HF,ds,d,y,j,sm,r1,rfl,R,r,L,hz,z,q):=h;let(u,rfl,U):=O.one;let(S,B):=cY I sm r1 T;let(bs,G):=cY I sm R U;have c1:=kJ r;have c2:=kJ L;have Z:=SeqAt.depth_of_shaped r;simp?[PyData.canLay0]at c2;have m:=Nat.min_le_right (PyData.depthAll ds) d.depth;let(b,c,e):=ui z;cases B with
 |list g i k p =>
  rename_i l o E n S;let(C,w,f,Y):=o;simp only at i k;subst i k;have M:=SeqAt.readsAll_map _ _ _ c2 p;have N:E.size=ds.length:=by rw[<-M];simp
  have t:(sizeLine:Nat)<2^62:=by decide
  have a:∀m(M:m<E.size),ds[m]?=↑(SeqAt.readOf s.heap E[m]):=λm W=>by
   rw[<-M,zO,Array.getElem?_toList,jX W];rfl
  refine qV F.slot_list_index {_,g,rfl} F.entry_list_index (F.args_list_index_2 _ _) (PySem.SeqAt.list_indexAt l E n w Y u (λy=>PyData.eqv (SeqAt.readOf s.heap y) d) j (by rw[N];exact b) (by lia) ?_ ?_) {g,?_,?_}
  .exact c _<|a j (by rw[N];exact b)
  .intro m W J;exact e m J _<|a m W
  .exact SeqAt.items_eqAt p G c2 c1<|by lia
  .exact{.int j,H,I.tok _,{_,rfl},q}
def Pa:Γ D->Δ D
 |[.int a,.int b]=>↑(.int<|max a b)
 |_=>none
def Gs(hc:X.calm=true):gP X (.builtin "max") (λxs H Q=>∃a b ,xs=[.int a,.int b]/\Q (.int<|max a b) H):=by
 intro p s d H xs U Q I r h;let(a,b,rfl,q):=h;cases r with
 |cons r1 r =>
  cases r with
  |cons R r =>
   cases r;let(t,rfl):=r1;let(u,rfl):=R;refine max_two_ints (I.ok.hd hc) λc T k=>{.int _,H,I.kept k,?_,q}
   by_cases h:b > a
   .rw[yL h,show max a b=b by lia];exact{_,rfl}
   .rw[yN h,show max a b=a by lia];exact{_,rfl}
def NY(hc:X.calm=true)(B:nC X "max" (.builtin "max"))(E:starEach (e::es) X.env=(false,eval e X.env)::starEach es X.env)(W:(backTo pos<|starEach es X.env).any (·.1)=false)(f:DA X (e::es) fs):DE X (.Call (.Name "max" p) (e::es) [] pos) (cQ Pa fs):=
 m9 (Gs hc) (by
  intro F H s S d Q sm r g q;unfold Pa at g;split at g
  .cases g;let(v,r1,rfl,a,b):=r.cons_inv;let(i,R,rfl,A,c):=b.cons_inv;rw[c.nil_inv];simp?[Rep]at a A;exact{_,_,by rw[a,A],q _ H F (.refl sm)<|by simp[Rep]}
  .cases g) B f (by decide) (by decide) E W
def R7(x y:D):Δ θ:=match y with
 |.tuple d=>if SeqAt.shaped x=true/\SeqAt.shaped y=true then↑(!d.any λz=>PyData.eqv z x)else none
 |.list d=>if SeqAt.shaped x=true/\SeqAt.shaped y=true then↑(!d.any λz=>PyData.eqv z x)else none
 |_=>none
def NJ(u:X.A.units+66<cLine):il X (compareOp .NotIn) (Rn X.K R7):=by
 intro p s i H v f U e Q I c Y h;let(F,x,y,k,sm,r1,R,g,q):=h;let(S,r):=cY I sm r1 c;let(bs,b):=cY I sm R Y;cases y<;>simp?[R7]at g<;>try cases g
 all_goals
  split at g<;>cases g;rename_i d a;have c1:=kJ a.1;have c2:=kJ a.2;have D:=SeqAt.depth_of_shaped a.1;simp?[PyData.canLay0]at c2;have m:=Nat.min_le_right (PyData.depthAll d) x.depth
  first
   |exact SeqAt.notIn_list_reads b r c2 c1 (by lia) {.bl _,H,I,rfl,q}
   |exact SeqAt.notIn_tuple_reads b r c2 c1 (by lia) {.bl _,H,I,rfl,q}
def Au:D->D->Δ D:=λx y=>(R7 x y).map PyData.bool
def Bk.agn(C:Bk X N sc k)(H:DE X a fa)(B:DE X b fb)(m:behindInMarks .NotIn b=false:=by rfl):DT X (.Compare a [.NotIn] [b] pos) (fB<|f2 Au fa fb):=j6 (NJ C.u66) lb H B m
structure Uv(h:Heap)(v:Value)(r:List Int):Prop where
 ex:∃ (a:Ψ) (o:Obj) (n:Nat) (p:Θ) (x y m:Int) (t:Tok),v=.ref a/\r=[x,y,m]/\h.get? a=↑o/\o.cls=.type "tuple"/\o.data=.seq #[p,.int m t] n/\n8 h p [x,y]
end Dl
namespace HT
open PySem PyProof.Rows
section
open PySem.SeqAt
open PySem.AutoSeq1 (wpAny_loadPart')
open PySem.MeetsSeq PySem.MeetsSeq2 PySem.MeetsSeq3
end
end HT
namespace Dl
open PySem L2 PySem.Spec PyProof.Rows
def jj:Γ D->Δ (Γ<|Γ Int)
 |[]=>↑[]
 |d::r=>(cC d).bind λn=>(jj r).map (n::·)
section
variable {fl te:Env->Δ D}{cs:Γ Nat}
end
end Dl
namespace HT
open PySem PyProof.Rows
section
open PySem.SeqAt
open PySem.AutoSeq1 (wpAny_loadPart')
open PySem.MeetsSeq PySem.MeetsSeq2 PySem.MeetsSeq3
end
end HT
namespace Dl
open PySem L2 PySem.Spec PyProof.Rows
structure Vz(h:Heap)(v:Value)(r:List Int):Prop where
 ex:∃ (a:Ψ) (o:Obj) (n:Nat) (p:Θ) (x y:Int) (t u:Tok) (ns:Γ Int),v=.ref a/\r=x::y::ns/\h.get? a=↑o/\o.cls=.type "tuple"/\o.data=.seq #[.int x t,.int y u,p] n/\n8 h p ns
inductive TB{α:Type}(X:Cx)(R:Addr->α->Prop):List Expr->List α->List V->Prop
 |nil:TB X R [] [] []
 |cons {x:Str}{p:Pos}{m:α}{f:Ψ}{es:Γ γ}{ms:Γ α}{vs:Γ V}(hg:Gl X x) (hm:X.mg x=↑(.ref f)) (hd:(x==("__debug__":Str))=false) (r:R f m) (t:TB X R es ms vs):TB X R (.Name x p::es) (m::ms) (.ref f::vs)
end Dl
namespace Sx
open PySem
variable {mask:Nat}{P:Nat->Prop}
def WV:∀{l m:Γ Nat},l.Nodup->(∀x∈l,x∈m)->l.length<=m.length
 |[],m,_,_=>xV _
 |x::l,m,n,s=>by
  rw[kR]at n;let(m1,m2,rfl):=List.append_of_mem<|s x zE;have:=WV (m:=m1++m2) n.2 λy H=>by
   have:=s y<|zC _ H;rw[List.mem_append,zR]at this;rw[List.mem_append];rcases this with h|rfl|h
   .exact .inl h
   .exact absurd H n.1
   .exact .inr h
  simp?[zN,zL]at this ⊢;lia
def sm:Nat->Nat
 |0=>0
 |n+1=>5^n+sm n
def sm4:∀n,4*sm n+1=5^n
 |0=>rfl
 |n+1=>by have:=sm4 n;rw[sm,Nat.pow_succ];lia
def acr(e:Nat):sm (2*e)=2*(sm e*(2*sm e+1)):=by
 have H:=sm4<|2*e;have a:=sm4 e;have b:5^(2*e)=(4*sm e+1)*(4*sm e+1):=by rw[Nat.two_mul,Nat.pow_add,a]
 rw[b]at H;have E:(4*sm e+1)*(4*sm e+1)=16*(sm e*sm e)+8*sm e+1:=by
  simp?[Nat.add_mul,Nat.mul_add,Nat.one_mul,Nat.mul_one];rw[show 4*sm e*(4*sm e)=16*(sm e*sm e)by rw[Nat.mul_mul_mul_comm]];lia
 have c:2*(sm e*(2*sm e+1))=4*(sm e*sm e)+2*sm e:=by
  rw[Nat.mul_add,Nat.mul_one,Nat.mul_left_comm];lia
 lia
def Z6:∀n,sm n%2=n%2
 |0=>rfl
 |n+1=>by
  have:=Z6 n;have h:=sm4 n;rw[sm];lia
def YQ(k a:Nat):Nat.Coprime (2^k) (2*a+1):=by
 refine Nat.Coprime.pow_left k ?_;rw[Nat.coprime_comm];have:Nat.gcd (2*a+1) 2=Nat.gcd 1 2:=by
  rw[Nat.gcd_comm,Nat.gcd_rec,show(2*a+1)%2=1 by lia]
 exact this.trans rfl
def Z7:∀(k d:Nat),2^k ∣ sm d->2^k ∣ d
 |0,d,_=>{d,by simp}
 |k+1,d,h=>by
  have o:=Z6 d;have s:sm d%2=0:=by
   let(c,hc):=h;rw[hc,Nat.pow_succ,Nat.mul_right_comm,Nat.mul_mod_left]
  obtain⟨e,rfl⟩:∃e,d=2*e:={d/2,by lia}
  rw[acr,Nat.pow_succ,Nat.mul_comm<|2^k]at h;have H:=Nat.dvd_of_mul_dvd_mul_left (by decide) h;have a:=(YQ k<|sm e).dvd_of_dvd_mul_right H;rw[Nat.pow_succ,Nat.mul_comm];exact Nat.mul_dvd_mul_left 2<|Z7 k e a
def it(M:Nat):Nat->Nat->Nat
 |0,x=>x
 |n+1,x=>it M n<|(5*x+1)%M
def YR(M:Nat):∀n x,it M n x%M=(5^n*x+sm n)%M
 |0,x=>by simp[it,sm]
 |n+1,x=>by
  rw[it,YR M n,sm,Nat.pow_succ];rw[Nat.add_mod,Nat.mul_mod,Nat.mod_mod,<-Nat.mul_mod,<-Nat.add_mod]
  congr 1
  rw[Nat.mul_add,Nat.mul_one,Nat.mul_assoc];lia
def aby{M:Nat}(H:0<M):∀n x,x<M->it M n x<M
 |0,x,h=>h
 |n+1,x,h=>aby H n _<|Nat.mod_lt _ H
def adO{k:Nat}{x m d:Nat}(D:0<d)(L:d<2^k):it (2^k) m x%2^k≠it (2^k) (m+d) x%2^k:=by
 intro h;rw[YR,YR]at h;have a:=sm4 m;have b:=sm4 d;have c:=sm4<|m+d;have e:5^(m+d)=5^m*5^d:=Nat.pow_add ..;have f:5^(m+d)*x+sm (m+d)=(5^m*x+sm m)+5^m*(sm d*(2*(2*x)+1)):=by
  have g:5^(m+d)=5^m*(4*sm d)+5^m:=by rw[e,<-b,Nat.mul_add,Nat.mul_one]
  have G:sm (m+d)=5^m*sm d+sm m:=by
   rw[g]at c;have:5^m*(4*sm d)=4*(5^m*sm d):=Nat.mul_left_comm ..;lia
  rw[g,G,Nat.add_mul];have i:5^m*(4*sm d)*x=5^m*(sm d*(2*(2*x))):=by
   rw[Nat.mul_assoc]
   congr 1
   rw[Nat.mul_assoc,Nat.mul_left_comm]
   congr 1
   lia
  rw[i,Nat.mul_add,Nat.mul_add,Nat.mul_one];lia
 rw[f]at h;have H:2^k ∣ 5^m*(sm d*(2*(2*x)+1)):=by
  have:=(Nat.sub_mod_eq_zero_of_mod_eq h.symm)
  rw[Nat.add_sub_cancel_left]at this;exact Nat.dvd_of_mod_eq_zero this
 have j:Nat.Coprime (2^k) (5^m):=by rw[<-a];exact(show 4*sm m+1=2*(2*sm m)+1 by lia)▸YQ k _
 have l:=(YQ k<|2*x).dvd_of_dvd_mul_right<|j.dvd_of_dvd_mul_left H;have n:=Nat.le_of_dvd D<|Z7 k d l;lia
def acs{k x j:Nat}(X:x<2^k)(J:j<2^k):∃n,n<2^k/\it (2^k) n x=j:=by
 have M:0<2^k:=Nat.two_pow_pos k;by_cases h:j∈(List.range<|2^k).map λn=>it (2^k) n x
 .let(n,N,e):=List.mem_map.mp h;exact{n,List.mem_range.mp N,e}
 .exfalso;have E:∀a b,a<b->b<2^k->it (2^k) a x≠it (2^k) b x:=λa b W B e=>by
   have:=adO (k:=k) (x:=x) (m:=a) (d:=b-a) (by lia) (by lia);rw[show a+(b-a)=b by lia,e]at this;exact this rfl
  have D:((List.range<|2^k).map λn=>it (2^k) n x).Nodup:=by
   rw[List.nodup_iff_pairwise_ne,jD];exact List.pairwise_lt_range.imp_of_mem λA B W=>E _ _ W<|List.mem_range.mp B
  have:=WV (l:=j::(List.range<|2^k).map λn=>it (2^k) n x) (m:=List.range<|2^k) (List.nodup_cons.mpr {h,D}) λy H=>by
   rw[List.mem_range];rcases List.mem_cons.mp H with rfl|H
   .exact J
   .let(n,_,rfl):=List.mem_map.mp H;exact aby M n x X
  rw[zL,zD,zS]at this;lia
def run(mask:Nat):Nat->Nat×Nat->Nat×Nat
 |0,z=>z
 |n+1,z=>run mask n<|SetTable.leap mask z.1 z.2
def Y9(mask:Nat):∀a b z,run mask (a+b) z=run mask b (run mask a z)
 |0,b,z=>by rw[jC];rfl
 |a+1,b,z=>by rw[show a+1+b=a+b+1 by lia];exact Y9 mask a b _
def Ym(mask:Nat):∀n z,(run mask n z).2=z.2/32^n
 |0,z=>by simp[run]
 |n+1,z=>by rw[run,Ym mask n];show z.2/32/32^n=_;rw[Nat.div_div_eq_div_mul,Nat.pow_succ,Nat.mul_comm]
def Yn(mask:Nat):∀n i,run mask n (i,0)=(it (mask+1) n i,0)
 |0,i=>rfl
 |n+1,i=>by
  rw[run,it];have:SetTable.leap mask i 0=((5*i+1)%(mask+1),0):=by unfold SetTable.leap;simp[Nat.mul_comm]
  rw[this];exact Yn mask n _
def Z8(mask:Nat):∀n z,0<n->(run mask n z).1<mask+1
 |1,z,_=>Nat.mod_lt _ (Nat.succ_pos _)
 |n+2,z,_=>Z8 mask (n+1) _<|Nat.succ_pos _
def reach{mask k j:Nat}(hk:mask+1=2^k){z:Nat×Nat}(p:z.2<2^64)(J:j<=mask):∃n,n<mask+14/\(run mask n z).1=j:=by
 have a:(run mask 13 z).2=0:=by
  rw[Ym];exact Nat.div_eq_of_lt<|wL p<|by decide
 have H:=Z8 mask 13 z (by decide);rw[hk]at H;let(n,N,e):=acs H (show j<2^k by lia);refine{13+n,by lia,?_};rw[Y9,show run mask 13 z=((run mask 13 z).1,0)from Prod.ext rfl a,Yn,hk];exact e
open PySem SetTable
def Z9(mask i:Nat):i<=runEnd mask i/\runEnd mask i<=i+9:=by
 unfold runEnd;split<;>lia
def VT(t:SetTable):Nat->Probe->Probe
 |0,p=>p
 |n+1,p=>VT t n<|t.advance p
def Xb(t:SetTable):∀a b p,VT t (a+b) p=VT t b (VT t a p)
 |0,b,p=>by rw[jC];rfl
 |a+1,b,p=>by rw[show a+1+b=a+b+1 by lia];exact Xb t a b _
def rs(t:SetTable)(z:Nat×Nat):Probe:={j:=z.1,more:=runEnd t.mask z.1-z.1,i:=z.1,perturb:=z.2,dummy:=none}
def Xc(t:SetTable):∀(m:Nat)(p:Probe),p.more=m->p.dummy=none->VT t (m+1) p=rs t (leap t.mask p.i p.perturb)
 |0,p,h,H=>by
  show t.advance p=_;unfold advance;rw[yN<|by lia];let(a,b,c,d,e):=p;cases H;rfl
 |m+1,p,h,H=>by
  show VT t (m+1) (t.advance p)=_;have e:t.advance p={p with j:=p.j+1,more:=p.more-1}:=by
   unfold advance;rw[yL<|by lia]
  rw[e];exact Xc t m _ (by show p.more-1=m;lia) H
def Za(t:SetTable):∀(r:Nat)(z:Nat×Nat),∃n,n<=10*r/\VT t n (rs t z)=rs t (run t.mask r z)
 |0,z=>{0,yM _,rfl}
 |r+1,z=>by
  let(n,H,e):=Za t r<|leap t.mask z.1 z.2;refine{(runEnd t.mask z.1-z.1)+1+n,?_,?_}
  .have:=Z9 t.mask z.1;lia
  .rw[Xb,Xc t (runEnd t.mask z.1-z.1) (rs t z) rfl rfl];exact e
def aaa{t:SetTable}(d:t.dummies=#[])(j:Nat):t.slot j≠.dummy:=by
 unfold slot has;dsimp only;split
 .exactλz=>by cases z
 .rw[d];split
  .rename_i q;simp at q
  .exactλz=>by cases z
def Zu{t:SetTable}(d:t.dummies=#[])(L:t.place.size<=t.mask):∃j,j<=t.mask/\t.slot j=.empty:=by
 by_cases h:∃j,j<=t.mask/\t.slot j=.empty
 .exact h
 .exfalso;have:=WV (l:=List.range<|t.mask+1) (m:=t.place.toList) List.nodup_range λj H=>by
   have H:=List.mem_range.mp H;cases q:t.slot j with
   |empty=>exact absurd {j,by lia,q} h
   |dummy=>exact absurd q (aaa d _)
   |live i =>
    unfold slot at q;dsimp only at q;split at q
    .rename_i z;have z:=eq_of_beq z;let(I,e):=Array.getElem?_eq_some_iff.mp z;rw[<-e];exact Array.getElem_mem_toList I
    .split at q<;>cases q
  rw[zS,wA]at this;lia
def Zb(h:Int):bits h<2^64:=by
 unfold bits;have H:=kZ h (show(0:Int)<2^64 by decide);have a:=vR h (show(2^64:Int)≠0 by decide);lia
def Zc{α:Type}{f g:Nat->Δ α}:∀(l:Γ Nat),(∀i∈l,g i=f i)->l.filterMap g=l.filterMap f
 |[],_=>rfl
 |a::l,h=>by
  have I:=Zc l λi H=>h i<|zC _ H;have e:=h a zE;cases q:f a with
  |none=>rw[List.filterMap_cons_none<|e.trans q,List.filterMap_cons_none q,I]
  |some v=>rw[List.filterMap_cons_some<|e.trans q,List.filterMap_cons_some q,I]
def Zd{α:Type}{f g:Nat->Δ α}{j:Nat}{v:α}(H:f j=none)(G:g j=↑v)(Z:∀i,i≠j->g i=f i):∀(l:Γ Nat),l.Nodup->j∈l->(l.filterMap g).Perm (v::l.filterMap f)
 |a::l,n,J=>by
  rw[kR]at n;by_cases e:a=j
  .subst e;rw[List.filterMap_cons_some G,List.filterMap_cons_none H];refine .cons _<|.of_eq<|Zc l λi b=>Z i λz=>n.1<|z▸b
  .have I:=Zd H G Z l n.2<|(List.mem_cons.mp J).resolve_left<|jM e;cases q:f a with
   |none=>rw[List.filterMap_cons_none<|by rw[Z a e,q],List.filterMap_cons_none q];exact I
   |some u=>rw[List.filterMap_cons_some<|by rw[Z a e,q],List.filterMap_cons_some q];exact(I.cons u).trans<|.swap _ _ _
structure Lay(mask:Nat)(owner:Array (Option Nat))(k:Nat):Prop where
 size:owner.size=mask+1
 pm:((List.range<|mask+1).filterMap λj=>owner.getD j none).Perm (List.range k)
def Lay.init(mask:Nat):Lay mask (Array.replicate (mask+1) none) 0 where
 size:=Array.size_replicate
 pm:=by
  refine .of_eq<|List.filterMap_eq_nil_iff.mpr λj _=>?_;simp[Array.getD]
def Lay.room{owner:Array (Δ Nat)}{k:Nat}(L:Lay mask owner k)(h:k<=mask):∃j,j<=mask/\(owner.getD j<|↑0).isNone=true:=by
 by_cases e:∃j,j<=mask/\(owner.getD j<|↑0).isNone=true
 .exact e
 .exfalso;have:∀l:Γ Nat,(∀x∈l,x<=mask)->(l.filterMap λj=>owner.getD j none).length=l.length:=by
   intro l
   induction l with
   |nil=>intro _;rfl
   |cons a l i =>
    intro b;have A:=b a zE;have c:a<owner.size:=by rw[L.size];lia
    cases q:owner.getD a none with
    |none =>
     refine absurd {a,A,?_} e;have Q:owner.getD a (↑0)=none:=by
      simp?[Array.getD,c,dite_true]at q ⊢;exact q
     rw[Q];rfl
    |some v=>rw[List.filterMap_cons_some (f:=λj=>owner.getD j none) q,zL,zL,i λx H=>b x<|zC _ H]
  have d:=this (List.range<|mask+1) λx H=>by have:=List.mem_range.mp H;lia
  rw[L.pm.length_eq,zS,zS]at d;lia
def Lay.put{owner:Array (Δ Nat)}{k j:Nat}(L:Lay mask owner k)(J:(owner.getD j<|↑0).isNone=true):Lay mask (owner.setIfInBounds j<|↑k) (k+1):=by
 have H:j<owner.size:=by
  by_cases h:j<owner.size
  .exact h
  .simp[Array.getD,h]at J
 have a:owner.getD j none=none:=by
  simp?[Array.getD,H,dite_true]at J ⊢;simpa using J
 have g:(owner.setIfInBounds j<|↑k).getD j none=↑k:=by simp[Array.getD,H]
 have G:∀i,i≠j->(owner.setIfInBounds j<|↑k).getD i none=owner.getD i none:=λi I=>by
  by_cases h:i<owner.size
  .simp[Array.getD,h,Array.getElem_setIfInBounds,jM I]
  .simp[Array.getD,h]
 refine{by rw[Array.size_setIfInBounds];exact L.size,?_};refine(Zd a g G _ List.nodup_range<|List.mem_range.mpr (by rw[<-L.size];exact H)).trans<|(L.pm.cons k).trans ?_;rw[vP];exact List.perm_append_comm (l₁:=[k])
def YS{α:Type}(f:Nat->Δ α):∀l:Γ Nat,(l.filterMap λj=>(f j).map (j,·)).map (·.1)=l.filter λj=>(f j).isSome
 |[]=>rfl
 |a::l=>by
  cases q:f a with
  |none=>rw[List.filterMap_cons_none (by rw[q];rfl),List.filter_cons_of_neg (by rw[q];simp),YS f l]
  |some v=>rw[List.filterMap_cons_some (by rw[q];rfl),List.filter_cons_of_pos (by rw[q];rfl),zI,YS f l]
def YT{α:Type}(f:Nat->Δ α):∀l:Γ Nat,(l.filterMap λj=>(f j).map (j,·)).map (·.2)=l.filterMap f
 |[]=>rfl
 |a::l=>by
  cases q:f a with
  |none=>rw[List.filterMap_cons_none (by rw[q];rfl),List.filterMap_cons_none q,YT f l]
  |some v=>rw[List.filterMap_cons_some (by rw[q];rfl),List.filterMap_cons_some q,zI,YT f l]
def Yp:∀(f s n:Nat),n<s*2^f->∃m,sizeAbove.go n f s=s*2^m/\n<s*2^m/\(sizeAbove.go n f s=s\/sizeAbove.go n f s<=2*n)
 |0,s,n,h=>{0,by simp[sizeAbove.go],by simpa using h,.inl rfl}
 |f+1,s,n,h=>by
  unfold sizeAbove.go;by_cases q:s<=n
  .rw[yL q];let(m,a,b,H):=Yp f (s*2) n (by rw[Nat.mul_assoc,Nat.mul_comm 2,<-Nat.pow_succ];exact h);refine{m+1,by rw[a,Nat.pow_succ,Nat.mul_comm<|2^m,Nat.mul_assoc],by rw[Nat.pow_succ,Nat.mul_comm<|2^m,<-Nat.mul_assoc];exact b,.inr ?_};rcases H with H|H
   .rw[H];lia
   .exact H
  .rw[yN q];exact{0,by simp,by simpa using q,.inl rfl}
def above{n:Nat}(h:n<2^60):∃k,sizeAbove n=2^k/\n<sizeAbove n/\(sizeAbove n=8\/sizeAbove n<=2*n):=by
 let(m,H,a,b):=Yp 64 8 n<|wL h (by decide);refine{m+3,?_,?_,b}
 .show sizeAbove.go n 64 8=_;rw[H,Nat.pow_add,Nat.mul_comm]
 .show n<sizeAbove.go n 64 8;rw[H];exact a
def wt(mask:Nat):SetTable:={mask,#[],#[],0,true,0,true}
def XB(t:SetTable):∀n p,VT t n p=VT (wt t.mask) n p
 |0,p=>rfl
 |n+1,p=>XB t n _
def Ze(t:SetTable):∀(k:Nat)(p:Probe),k<=p.more->VT t k p={p with j:=p.j+k,more:=p.more-k}
 |0,p,_=>rfl
 |k+1,p,h=>by
  show VT t k (t.advance p)=_;have e:t.advance p={p with j:=p.j+1,more:=p.more-1}:=by
   unfold advance;rw[yL<|by lia]
  rw[e,Ze t k _ (by show k<=p.more-1;lia)];simp?[Probe.mk.injEq,and_true];lia
def Xd(t:SetTable):∀n p,(VT t n p).dummy=p.dummy
 |0,p=>rfl
 |n+1,p=>(Xd t n _).trans (by unfold advance;split<;>rfl)
def wy(mask:Nat)(h:Int)(n:Nat):Nat:=(VT (wt mask) n<|rs (wt mask) (bits h%(mask+1),bits h)).j
def Fo(mask:Nat)(P:Nat->Prop)(h:Int)(j:Nat):Prop:=∃n,n<10*turns mask/\wy mask h n=j/\∀m,m<n->P (wy mask h m)/\wy mask h m≠j
def Fo.imp{P Q:Nat->Prop}(f:Fo mask P h j)(z:∀x,P x->Q x):Fo mask Q h j:=let ⟨n,a,b,c⟩:=f;{n,a,b,λm H=>{z _ (c m H).1,(c m H).2}}
def acu(mask:Nat)(p:Probe)(h:p.j+p.more<=mask):((wt mask).advance p).j+((wt mask).advance p).more<=mask:=by
 unfold advance;split
 .show p.j+1+(p.more-1)<=mask;lia
 .show (leap mask p.i p.perturb).1+(runEnd mask (leap mask p.i p.perturb).1-(leap mask p.i p.perturb).1)<=mask;have H:(leap mask p.i p.perturb).1<mask+1:=Nat.mod_lt _<|Nat.succ_pos _;unfold runEnd;split<;>lia
def Zf(mask:Nat):∀n p,p.j+p.more<=mask->(VT (wt mask) n p).j+(VT (wt mask) n p).more<=mask
 |0,p,h=>h
 |n+1,p,h=>Zf mask n _<|acu mask p h
def adP(mask:Nat)(h:Int)(n:Nat):wy mask h n<=mask:=by
 have H:bits h%(mask+1)<mask+1:=Nat.mod_lt _<|Nat.succ_pos _;have:=Zf mask n (rs (wt mask) (bits h%(mask+1),bits h)) (by
  show bits h%(mask+1)+(runEnd mask (bits h%(mask+1))-bits h%(mask+1))<=mask;unfold runEnd;split<;>lia)
 exact yD (jU _ _) this
def least:∀n,P n->∃m,m<=n/\P m/\∀k,k<m->¬P k:=λn=>by
 induction n using Nat.strongRecOn with
 |ind n i =>
  intro N;by_cases z:∃m,m<n/\P m
  .let(m,H,M):=z;let(k,a,b):=i m H M;exact{k,by lia,b}
  .exact{n,yM _,N,λk hk p=>z {k,hk,p}}
def Yq{mask:Nat}{owner:Array (Δ Nat)}:∀(f i p:Nat),(∃r,r<f/\(owner.getD (run mask r (i,p)).1<|↑0).isNone=true)->∃n,n<10*f/\layClean.free mask owner f i p=↑(VT (wt mask) n<|rs (wt mask) (i,p)).j/\(owner.getD (VT (wt mask) n<|rs (wt mask) (i,p)).j<|↑0).isNone=true/\∀m,m<n->¬(owner.getD (VT (wt mask) m<|rs (wt mask) (i,p)).j<|↑0).isNone=true
 |0,i,p,⟨r,R,_⟩=>absurd R (vO r)
 |f+1,i,p,⟨r,R,e⟩=>by
  have E:=Z9 mask i;have w:∀k,k<=runEnd mask i-i->(VT (wt mask) k<|rs (wt mask) (i,p)).j=i+k:=λk hk=>by rw[Ze _ k _ hk];rfl
  unfold layClean.free;cases q:(List.range<|runEnd mask i+1-i).find? λk=>(owner.getD (i+k)<|↑0).isNone with
  |some k =>
   let(Q,q2,d):=List.find?_range_eq_some.mp q;have hk:=List.mem_range.mp q2;refine{k,by lia,by rw[w k<|by lia],by rw[w k<|by lia];exact Q,λm H=>?_};rw[w m<|by lia];have:=d m H;intro z;rw[z]at this;cases this
  |none =>
   have o:∀k,k<=runEnd mask i-i->¬(owner.getD (i+k)<|↑0).isNone=true:=λk hk=>List.find?_eq_none.mp q k<|List.mem_range.mpr (by lia);cases r with
   |zero=>exact absurd e (o 0<|xV _)
   |succ r =>
    let(n,g,N,a,b):=Yq f _ _ {r,by lia,e};have lp:∀k,VT (wt mask) (runEnd mask i-i+1+k) (rs (wt mask) (i,p))=VT (wt mask) k (rs (wt mask)<|leap mask i p):=λk=>by
     rw[Xb,Xc (wt mask) (runEnd mask i-i) (rs (wt mask) (i,p)) rfl rfl];rfl
    refine{runEnd mask i-i+1+n,by lia,?_,by rw[lp];exact a,λm H=>?_}
    .rw[lp];exact N
    .by_cases c:m<=runEnd mask i-i
     .rw[w m c];exact o m c
     .rw[show m=runEnd mask i-i+1+(m-(runEnd mask i-i+1))by lia,lp];exact b _ (by lia)
def Ow(owner:Array (Δ Nat))(j:Nat):Prop:=(owner.getD j none).isSome=true
structure acv(mask:Nat)(hs:List Int)(owner:Array (Option Nat))(k:Nat):Prop where
 lay:Lay mask owner k
 fo:∀j i,owner.getD j none=↑i->Fo mask (Ow owner) (hs.getD i 0) j
def Yr{mask:Nat}(hk:∃k,mask+1=2^k)(a:Γ Int):∀(hs:Γ Int)(owner:Array (Δ Nat))(k:Nat),acv mask a owner k->(∀i,i<hs.length->a.getD (k+i) 0=hs.getD i 0)->k+hs.length<=mask+1->∃b,(hs.foldl (init:=↑(owner,k)) λacc h=>do let (owner,k) <- acc;let j <- layClean.free mask owner (turns mask) (bits h%(mask+1))<|bits h;pure (owner.setIfInBounds j<|↑k,k+1))=↑(b,k+hs.length)/\acv mask a b (k+hs.length)
 |[],owner,k,L,_,_=>{owner,rfl,L}
 |h::hs,owner,k,L,A,w=>by
  rw[zL]at w;let(j,u,e):=L.lay.room (by lia);let(K,X):=hk;let(r,y,R):=reach X (z:=(bits h%(mask+1),bits h)) (Zb h) u;let(n,N,q,g,l):=Yq (mask:=mask) (owner:=owner) (turns mask) (bits h%(mask+1)) (bits h) {r,by unfold turns;lia,by rw[R];exact e};generalize d:(VT (wt mask) n<|rs (wt mask) (bits h%(mask+1),bits h)).j=J at *;have p:∀x,Ow owner x->Ow (owner.setIfInBounds J<|↑k) x:=λx H=>by
   unfold Ow at H ⊢;by_cases c:x<owner.size
   .by_cases c2:J=x
    .subst c2;simp[Array.getD,c]
    .simpa [Array.getD,c,Array.getElem_setIfInBounds,c2]using H
   .simp[Array.getD,c]at H
  have f:∀x,x<=mask->¬(owner.getD x<|↑0).isNone=true->Ow owner x:=λx H z=>by
   have c:x<owner.size:=by rw[L.lay.size];lia
   unfold Ow;rw[qD,jX c]at z ⊢;cases e:owner[x]with
   |none=>rw[e]at z;exact absurd rfl z
   |some v=>rfl
  have st:acv mask a (owner.setIfInBounds J<|↑k) (k+1):=⟨L.lay.put g,λx i H=>by
   by_cases c:x=J
   .subst c;have E:i=k:=by
     by_cases c:x<owner.size
     .have:↑k=↑i:=by simpa [Array.getD,c]using H
      cases this;rfl
     .simp[Array.getD,c]at H
    subst E;have o:a.getD i 0=h:=by have:=A 0 (by simp);simpa using this
    rw[o];exact⟨n,N,d,λm M=>⟨p _<|f _ (adP mask h m)<|l m M,λz=>l m M (by
     have z:(VT (wt mask) m<|rs (wt mask) (bits h%(mask+1),bits h)).j=x:=z;rw[z];exact g)⟩⟩
   .refine (L.fo x i ?_).imp p;by_cases c2:x<owner.size
    .simpa [Array.getD,c2,Array.getElem_setIfInBounds,jM c]using H
    .simp[Array.getD,c2]at H⟩
  let(O,s,t):=Yr ⟨K,X⟩ a hs (owner.setIfInBounds J<|↑k) (k+1) st (λi I=>by
   have:=A (i+1) (by rw[zL];lia)
   rwa [vZ,show k+(i+1)=k+1+i by lia]at this)<|by lia
  refine{O,?_,?_}
  .rw[yI,zL,show k+(hs.length+1)=k+1+hs.length by lia];have:(do let (owner,k) <- some (owner,k);let j <- layClean.free mask owner (turns mask) (bits h%(mask+1))<|bits h;pure (owner.setIfInBounds j<|↑k,k+1))=↑(owner.setIfInBounds J<|↑k,k+1):=by
    show(layClean.free mask owner (turns mask) (bits h%(mask+1))<|bits h).bind _=_;rw[q];rfl
   rw[this];exact s
  .rw[zL,show k+(hs.length+1)=k+1+hs.length by lia];exact t
def aa5{mask finger moves:Nat}{led plain:θ}{hs:Array Int}(hk:∃k,mask+1=2^k)(l:hs.size<=mask+1) :
  ∃pl d,laid mask finger moves led plain hs=↑({mask,pl,#[],finger,led,moves,plain},d)/\pl.size=hs.size/\pl.toList.Pairwise (· < ·)/\d.toList.Perm (List.range hs.size)/\∀i,i<pl.size->Fo mask (·∈pl.toList) (hs.toList.getD (d.toList.getD i 0) 0) (pl.toList.getD i 0):=by
 let(o,f,L):=Yr hk hs.toList hs.toList _ 0 ⟨Lay.init mask,λj i h=>by
  rw[qD,Array.getElem?_replicate]at h;split at h<;>cases h⟩ (λi _=>by rw[jC]) (by rw[wA];lia)
 have hc:layClean mask hs=↑o:=by
  unfold layClean;rw[<-Array.foldl_toList,f];rfl
 let(L,fo):=L;rw[jC,wA]at L;have E:=YS (λj=>o.getD j none)<|List.range<|mask+1;have a:=YT (λj=>o.getD j none)<|List.range<|mask+1;have n:=jB List.length a;rw[zD,L.pm.length_eq,zS]at n;have m:∀x,Ow o x->x∈(((List.range<|mask+1).filterMap λj=>(o.getD j none).map (j,·)).map (·.1)):=λx H=>by
  rw[E,List.mem_filter,List.mem_range];refine{?_,H};unfold Ow at H;by_cases c:x<o.size
  .rw[<-L.size];exact c
  .simp[Array.getD,c]at H
 refine{(((List.range<|mask+1).filterMap λj=>(o.getD j none).map (j,·)).map (·.1)).toArray,(((List.range<|mask+1).filterMap λj=>(o.getD j none).map (j,·)).map (·.2)).toArray,?_,?_,?_,?_,λi I=>?_}
 .unfold laid;rw[hc];rfl
 .simpa using n
 .rw[List.toList_toArray,E];exact List.Pairwise.filter _ List.pairwise_lt_range
 .rw[List.toList_toArray,a];exact L.pm
 .rw[List.toList_toArray,List.toList_toArray];rw[zH,zD]at I;obtain⟨p,P⟩:∃p,((List.range (mask+1)).filterMap λj=>(o.getD j none).map (j,·))[i]?=↑p:={_,zK I}
  have M:=qB P;rw[List.mem_filterMap]at M;let(j,J,e):=M;let(k,b,rfl):=Option.map_eq_some_iff.mp e;simp?[zG,zO,P,zB,qG];have:=(fo j k b).imp m;simpa only[zG]using this
end Sx
namespace Se
open PySem PySem.W PySem.Calls PyProof.Rows
variable {Q:Δ Θ->Ξ->Prop}
def slot_next:Slot "set_iterator" "__next__" "set_iterator.__next__" :=
 .of (owner:="set_iterator") (n:="__next__") (by rw[typeLookup_type,builtinLookup_eq_fast];kernel_rfl) (by decide +kernel) (by decide +kernel) (by decide +kernel) (by first|exact .inl (by decide +kernel)|exact .inr (by decide +kernel)) (by rw[isSubtype_type];kernel_rfl)
def entry_next:entryFor table "set_iterator.__next__"=↑Builtin.«set_iterator.__next__»:=entryFor_of_tree (by kernel_rfl)
def args_next(a:Θ):argsOk "set_iterator.__next__" {[a],[]}:=by unfold argsOk;kernel_rfl
def YU:entryFor table "set.__iter__"=↑Builtin.«frozenset.__iter__»:=entryFor_alias (id':="frozenset.__iter__") (by kernel_rfl) rfl (by decide +kernel) (by kernel_rfl)
def Xe:∀(l:Γ α)(i:Nat)(h:i<l.length),(l[i]::l.eraseIdx i).Perm l
 |a::l,0,_=>.refl _
 |a::l,i+1,h=>by
  rw[List.getElem_cons_succ,List.eraseIdx_cons_succ];exact(List.Perm.swap a _ _).trans<|(Xe l i<|by simpa using h).cons a
def XC{α:Type}(next:Nat->Nat):∀(n k:Nat)(left:Γ α)(o:Array α),left.length=n->(pickOrder.go next n k left o).toList.Perm (o.toList++left)
 |0,_,left,o,h=>by
  rw[List.length_eq_zero_iff.mp h,qF];exact .refl _
 |n+1,k,left,o,h=>by
  have l:next k%left.length<left.length:=Nat.mod_lt _<|by lia
  have e:left[next k%left.length]?=↑left[next k%left.length]:=by simp[l]
  rw[pickOrder.go,e];refine(XC next n (k+1) _ _ (by rw[List.length_eraseIdx,yL l];lia)).trans ?_;rw[Array.toList_push,List.append_assoc];refine List.Perm.append_left _ ?_;exact Xe left _ l
def aac{α:Type}(next:Nat->Nat)(xs:Array α):(pickOrder next xs).toList.Perm xs.toList:=by
 unfold pickOrder;exact XC next xs.size 0 xs.toList #[] (by simp)
def Wq(w:δ)(a:Ψ)(ep:Nat)(es:Array (Int×Θ)):Array (Int×Θ):=if w.params.followText "set-order"=true then pickOrder (w.params.setOrder a ep) es else es
def WW:(Wq w a ep es).toList.Perm es.toList:=by
 unfold Wq;split
 .exact aac _ _
 .exact .refl _
def V6:(Wq w a ep es).size=es.size:=by rw[<-wA,WW.length_eq,wA]
structure VX(w:World)(h:Heap)(a:Addr)(es:Array (Int×Value))(ep:Nat)(t:SetTable):Prop where
 get:∃o,h.get? a=↑o/\o.ExactSet/\o.data=.set es ep t
 fits:t.fits es.size=true
 plain:t.plain=true
 led:t.led=!(w.params.followText "set-order")
 ris:∀i j,i<j->j<t.place.size->t.place.getD i 0<t.place.getD j 0
def Xf(h:ι)(I a:Ψ)(s i n ep:Nat):Prop:=∃o,h.get? I=↑o/\o.cls=.type "set_iterator"/\o.data=.fields #[.int s 0,.int i 0,.ref a,.int n 0,.int ep 0]
def Xg(xs:Array Nat)(j:Nat)(r:∀a b,a<b->b<xs.size->xs.getD a 0<xs.getD b 0)(k:Nat)(hk:k<=xs.size)(H:∀a,a<k->xs.getD a 0<j)(g:∀a,k<=a->a<xs.size->j<=xs.getD a 0):∀(f lo hi:Nat),lo<=k->k<=hi->hi<=xs.size->hi-lo<=f->SetTable.below.go xs j f lo hi=k
 |0,lo,hi,a,b,_,d=>by
  rw[SetTable.below.go];lia
 |f+1,lo,hi,a,b,c,d=>by
  rw[SetTable.below.go];split
  .rename_i W;have m:(lo+hi)/2<xs.size:=by lia
   have e:xs.getD ((lo+hi)/2) j=xs.getD ((lo+hi)/2) 0:=by simp[m]
   dsimp only;rw[e];by_cases x:xs.getD ((lo+hi)/2) 0<j
   .rw[yL x];refine Xg xs j r k hk H g f ((lo+hi)/2+1) hi ?_ b c (by lia);rcases Nat.lt_or_ge ((lo+hi)/2) k with z|z
    .lia
    .have:=g _ z m;lia
   .rw[yN x];refine Xg xs j r k hk H g f lo ((lo+hi)/2) a ?_ (by lia) (by lia);rcases Nat.lt_or_ge ((lo+hi)/2) k with z|z
    .exact absurd (H _ z) x
    .exact z
  .lia
def Xh{xs:Array Nat}{j k:Nat}(r:∀a b,a<b->b<xs.size->xs.getD a 0<xs.getD b 0)(hk:k<=xs.size)(H:∀a,a<k->xs.getD a 0<j)(c:∀a,k<=a->a<xs.size->j<=xs.getD a 0):SetTable.below xs j=k:=by
 unfold SetTable.below;exact Xg xs j r k hk H c _ _ _ (xV _) hk (yM _) (by lia)
def VM(w:δ)(t:SetTable)(i:Nat):Nat:=if w.params.followText "set-order"=true then 0 else if i=0 then 0 else t.place.getD (i-1) 0+1
def YV(S:VX w h a es ep t)(b:w.params.followText "set-order"=false)(hi:i<=es.size):SetTable.below t.place (VM w t i)=i:=by
 have f:=S.fits;simp?[SetTable.fits,zF,vJ]at f;have s:t.place.size=es.size:=f.1;unfold VM;rw[yN (by rw[b];exact yZ)];refine Xh S.ris (by lia) (λa H=>?_) λa H b=>?_
 .rw[yN<|by lia];rcases Nat.lt_or_ge a (i-1)with z|z
  .have:=S.ris a (i-1) z (by lia);lia
  .have:a=i-1:=by lia
   rw[this];lia
 .by_cases z:i=0
  .rw[yL z];exact xV _
  .rw[yN z];exact S.ris (i-1) a (by lia) b
def ago(S:VX w h a es ep t):t.place.size=es.size/\t.fill<=t.mask:=by
 have f:=S.fits;simp?[SetTable.fits,zF,vJ,zJ]at f;exact f
def Xi{Q:Δ (Θ×Nat)->Ξ->Prop}(S:VX w s.heap a es ep t)(hi:i<=es.size)(h:Q (((Wq w a ep es)[i]?).map λe=>(e.2,VM w t<|i+1)) s):wpAny (model prog w) A (setNext a (VM w t i) i ep) Q E s:=by
 let(o,H,x,d):=S.get;let(k,F):=ago S;unfold setNext;refine zV<|wpAny_setState_of H d S.fits ?_;dsimp only;refine zV (m:=setsByText) ?_;unfold setsByText;refine zV<|wpAny_askSetting<|zW ?_;show wpAny _ _ (if w.params.followText "set-order"=true then _ else _) _ _ _;cases b:w.params.followText "set-order"with
 |true =>
  rw[yL rfl];have j:(ep != ep)=false:=by simp
  simp?[j,yO,qN];refine zV ?_;unfold setWalk;refine zV<|wpAny_setState_of H d S.fits ?_;dsimp only;refine zV (m:=setsByText) ?_;unfold setsByText;refine zV<|wpAny_askSetting<|zW ?_;show wpAny _ _ (if w.params.followText "set-order"=true then _ else _) _ _ _;rw[yL b];refine zV<|wpAny_askSetting<|zW<|zW ?_;have c:Wq w a ep es=pickOrder (w.params.setOrder a ep) es:=yL b;have f:VM w t i=VM w t (i+1):=by unfold VM;rw[yL b,yL b]
  rw[c]at h;rw[f];exact h
 |false =>
  rw[yN yZ];have c:Wq w a ep es=es:=yN (by rw[b];exact yZ);rw[c]at h;have c1:(!t.plain&&decide (es.size > 1))=false:=by rw[S.plain];rfl
  show wpAny _ _ (if(!t.plain&&decide (es.size > 1))=true then _ else _) _ _ _;rw[yN (by rw[c1];exact yZ)];have l:t.led=true:=by rw[S.led,b];rfl
  refine zV<|wpAny_of_eq (a:=()) ?_ ?_
  .show (if(!t.led&&!es.isEmpty)=true then _ else _)=_;rw[yN (by rw[l];exact yZ)]
  .rw[YV S b hi];refine zW ?_;rcases Nat.lt_or_ge i es.size with z|z
   .have Z:i<t.place.size:=by lia
    have g:VM w t (i+1)=t.place[i]+1:=by
     unfold VM;rw[yN (by rw[b];exact yZ),yN<|by lia];simp[Z]
    rw[jX z,g]at h;rw[jX z,jX Z];exact h
   .rw[Array.getElem?_eq_none z]at h ⊢;exact h
def XD:Slot "set_iterator" "__iter__" "set_iterator.__iter__" :=
 .of (owner:="set_iterator") (n:="__iter__") (by rw[typeLookup_type,builtinLookup_eq_fast];kernel_rfl) (by decide +kernel) (by decide +kernel) (by decide +kernel) (by first|exact .inl (by decide +kernel)|exact .inr (by decide +kernel)) (by rw[isSubtype_type];kernel_rfl)
def Xy:entryFor table "set_iterator.__iter__"=↑Builtin.«dict_keyiterator.__iter__»:=entryFor_alias (id':="dict_keyiterator.__iter__") (by kernel_rfl) rfl (by decide +kernel) (by kernel_rfl)
def XQ(a:Θ):argsOk "set_iterator.__iter__" {[a],[]}:=by unfold argsOk;kernel_rfl
def Xf.typeIs(x:Xf s.heap I a slot i n ep):Shared.TypeIs s (.ref I) "set_iterator":=let ⟨o,H,hc,_⟩:=x;{o,H,hc}
def next_item(S:VX w s.heap a es ep t)(x:Xf s.heap I a (VM w t i) i es.size ep)(X:(Wq w a ep es)[i]?=↑e)
  (q:∀h',Xf h' I a (VM w t<|i+1) (i+1) es.size ep->Heap.SameBut I s.heap h'->Q (↑e.2) {s with heap:=h'}):wpAny (model prog w) A (pyNext<|.ref I) Q E s:=by
 let(o,O,hc,d):=id x;let(j,l,f,Y):=S.get;have g:i<=es.size:=by
  rcases Nat.lt_or_ge i es.size with z|z
  .lia
  .rw[Array.getElem?_eq_none (by rw[V6];exact z)]at X;cases X
 unfold pyNext;refine zV<|kO<|qC (name:=Str.ofString "__next__") x.typeIs slot_next<|qU slot_next x.typeIs entry_next ?_<|args_next _;unfold Builtin.«set_iterator.__next__»;refine zV<|zW ?_;refine zV<|wpAny_fieldsOf O d ?_;show wpAny _ _ (setEntries a >>= _) _ _ s;refine zV<|wpAny_setEntries_of l Y S.fits ?_;have c:(((es.size:Nat):Int) != ((es.size:Nat):Int))=false:=by simp
 simp?[c,yO,qN];show wpAny _ _ (setNext a (Int.toNat ((VM w t i:Nat):Int)) (Int.toNat ((i:Nat):Int)) (Int.toNat ((ep:Nat):Int)) >>= _) _ _ s;rw[yG,yG,yG];refine zV<|Xi S g ?_;rw[X];show wpAny _ _ (setField (.ref I) 0 (rawInt ((VM w t (i+1):Nat):Int)) >>= _) _ _ s;refine zV<|wpAny_setField O d (by simp) ?_;have H:=Obj.data_mapFields d (·.setIfInBounds 0 (rawInt ((VM w t (i+1):Nat):Int)));have Z:(s.heap.update I (Obj.mapFields (·.setIfInBounds 0 (rawInt ((VM w t (i+1):Nat):Int))))).get? I=↑(Obj.mapFields (·.setIfInBounds 0 (rawInt ((VM w t (i+1):Nat):Int))) o):=Heap.get?_update_self _ O<|Obj.isFreed_of_fields H;refine zV<|wpAny_setField Z H (by simp) ?_;have b:=Obj.data_mapFields H (·.setIfInBounds 1 (rawInt<|((i:Nat):Int)+1));refine zW {_,rfl,zW<|q _ {_,Heap.get?_update_self _ Z<|Obj.isFreed_of_fields b,?_,?_}<|(Heap.SameBut.update ..).trans<|Heap.SameBut.update ..}
 .exact ((Obj.cls_mapFields ..).trans<|Obj.cls_mapFields ..).trans hc
 .rw[b];simp[rawInt]
def next_end(e:A.handled=none)(S:VX w s.heap a es ep t)(x:Xf s.heap I a (VM w t es.size) es.size es.size ep)
  (q:∀h',Heap.ExtBut I s.heap h'->Q none {s with heap:=h'}):wpAny (model prog w) A (pyNext<|.ref I) Q E s:=by
 let(o,H,hc,d):=id x;let(O,Z,X,Y):=S.get;unfold pyNext;refine zV<|kO<|qC (name:=Str.ofString "__next__") x.typeIs slot_next<|qU slot_next x.typeIs entry_next ?_<|args_next _;unfold Builtin.«set_iterator.__next__»;refine zV<|zW ?_;refine zV<|wpAny_fieldsOf H d ?_;show wpAny _ _ (setEntries a >>= _) _ _ s;refine zV<|wpAny_setEntries_of Z Y S.fits ?_;have c:(((es.size:Nat):Int) != ((es.size:Nat):Int))=false:=by simp
 simp?[c,yO,qN];show wpAny _ _ (setNext a (Int.toNat ((VM w t es.size:Nat):Int)) (Int.toNat ((es.size:Nat):Int)) (Int.toNat ((ep:Nat):Int)) >>= _) _ _ s;rw[yG,yG,yG];refine zV<|Xi S (yM _) ?_;rw[Array.getElem?_eq_none (by rw[V6];exact yM _)];show wpAny _ _ (setField (.ref I) 2 .none >>= _) _ _ s;refine zV<|wpAny_setField H d (by simp) ?_;show wpAny _ _ (newExc (.type "StopIteration") [] >>= _) _ _ _;refine zV ?_;simp?[newExc,newTuple];refine zV<|qL ?_ (by size_fits);refine zV (m:=firstArgMember _ _)<|wpAny_of_eq (a:=Value.none) (by first|rfl|(simp?[firstArgMember];rfl)) ?_;refine qL ?_ (by size_fits);simp?[raiseNew];refine zV<|wpAny_handled ?_;rw[show A.in1.handled=none from e];refine zV<|zW<|wpAny_throw ?_;refine zV<|wpAny_isInstance (T:="StopIteration") (b:=true) {_,zX _ rfl,rfl} isSubtype_stop ?_;exact zW<|q _<|((Heap.SameBut.update ..).extBut.push _).push _
def VX.at(S:VX w h a es ep t)(e:∀o,h.get? a=↑o->h'.get? a=↑o):VX w h' a es ep t:={let ⟨o,H,r⟩:=S.get;{o,e _ H,r},S.fits,S.plain,S.led,S.ris}
def Xf.at(x:Xf h I a slot i n ep)(e:∀o,h.get? I=↑o->h'.get? I=↑o):Xf h' I a slot i n ep:=let ⟨o,H,r⟩:=x;{o,e _ H,r}
def YW{Q:Θ->Ξ->Prop}(S:VX w s.heap a es ep t)
  (q:Q (.ref s.heap.objs.size) {s with heap:=s.heap.push {cls:=.type "set_iterator",data:=.fields #[.int 0 0,.int 0 0,.ref a,.int es.size 0,.int ep 0]}}):wpAny (model prog w) A (pyIter<|.ref a) Q E s:=by
 let(o,H,x,d):=S.get;have T:Shared.TypeIs s (.ref a) "set":={o,H,x.1}
 refine wpAny_pyIter_slot T PySem.F.slot_set_iter<|qU PySem.F.slot_set_iter T YU ?_<|PySem.F.args_set_iter_1 _;unfold Builtin.«frozenset.__iter__»;refine zV<|wpAny_of_eq (a:=a) (by rfl) ?_;refine zV ?_;unfold Builtin.Frozenset.sizeOf;refine zV<|wpAny_setEntries_of H d S.fits<|zW ?_;refine zV ?_;unfold setDrawn;refine zV<|wpAny_setState_of H d S.fits ?_;dsimp only;refine zV (m:=setsByText) ?_;unfold setsByText;refine zV<|wpAny_askSetting<|zW<|zW ?_;have c1:(!(w.params.followText "set-order")&&(!t.plain&&decide (es.size > 1)))=false:=by rw[S.plain];simp
 show wpAny _ _ (if(!(w.params.followText "set-order")&&(!t.plain&&decide (es.size > 1)))=true then _ else _) _ _ _;rw[yN (by rw[c1];exact yZ)];refine zV<|zW ?_;refine zV<|wpAny_setEpoch_of H d S.fits ?_;refine zV<|qL<|zW {_,rfl,"set_iterator",_,{_,zX _ rfl,rfl},slot_next.lookup,?_};exact q
def Zv{Q:Θ->Ξ->Prop}(x:Xf s.heap I a slot i n ep)(H:Q (.ref I) s):wpAny (model prog w) A (pyIter<|.ref I) Q E s:=by
 refine wpAny_pyIter_slot x.typeIs XD<|qU XD x.typeIs Xy ?_<|XQ _;show wpAny _ _ (ret<|.ref I) _ _ s;exact zW {_,rfl,"set_iterator",_,x.typeIs,slot_next.lookup,H}
def walks(g:A.handled=none)(I a:Ψ)(Z:a≠I):Walks prog w A I [I,a] [I] es.size (λi v=>∃e,(Wq w a ep es)[i]?=↑e/\e.2=v) (λi h=>Xf h I a (VM w t i) i es.size ep/\VX w h a es ep t) where
 sub:=λb H=>by simp at H;simp[H]
 frame:=λ_ _ _ st hk=>{st.1.at λo e=>hk I (by simp) o e,st.2.at λo e=>hk a (by simp) o e}
 item:=λi s Q E d st q=>by
  obtain⟨e,x⟩:∃e,(Wq w a ep es)[i]?=↑e:={(Wq w a ep es)[i]'(by rw[V6];exact d),by simp[V6,d]}
  refine next_item st.2 st.1 x λc T S=>?_;exact q e.2 c s.toks {e,x,rfl} {T,st.2.at λo z=>S.extBut a o Z z} λb o H z=>S.extBut b o (λh=>H<|by simp[h]) z
 done:=λs Q E st q=>next_end g st.2 st.1 λc f=>q c s.toks λb o H z=>f b o (λh=>H<|by simp[h]) z
 self:=λi s Q E st q=>Zv st.1 q
def aad{Q:θ->Ξ->Prop}(H:s.TypeIs (.ref r) "set")(h:Q false s):wpAny (model prog w) A (Builtin.List.listLengthHint<|.ref r) Q E s:=by
 unfold Builtin.List.listLengthHint;refine zV<|wpAny_specialOf H PySem.F.slot_set_len.lookup ?_;generalize d:("set.__len__":String)=i
 wp_delta
 rw[show splitId i=↑("set","__len__")from by subst d;decide +kernel];subst d;refine zV<|wpAny_isInstance (T:="set") (b:=true) H (by rw[isSubtype_type];kernel_rfl) ?_;refine wpAny_ite_split (λW=>absurd W<|by decide) λ_=>?_;refine wpAny_ite_split (λ_=>?_) λW=>absurd (by decide +kernel) W;refine zV<|wI H ?_;exact zW h
def src(hs:es.size<=sizeLine):KdlSrc prog w "set" a a es.size (λi v=>∃e,(Wq w a ep es)[i]?=↑e/\e.2=v) (λh=>VX w h a es ep t) where
 type:=λs S=>let ⟨o,H,x,_⟩:=S.get;{o,H,x.1}
 there:=λh S=>let ⟨o,H,_⟩:=S.get;{zY H,zY H}
 keep:=λh c S k=>S.at λo e=>k a (.inl rfl) o e
 notList:=by decide
 notTuple:=by decide
 hint:=λA E s Q S h=>aad (let ⟨o,H,x,_⟩:=S.get;{o,H,x.1}) h
 iter:=λA s b S=>by
  have Z:a≠s.heap.objs.size:=let ⟨o,H,_⟩:=S.get;yR<|zY H;refine{_,λi h=>Xf h s.heap.objs.size a (VM w t i) i es.size ep/\VX w h a es ep t,λE Q q=>YW S q,walks b _ a Z,{_,zX _ rfl,rfl,?_},S.at λo e=>zU _ e};have:VM w t 0=0:=by unfold VM;split<;>simp
  rw[this];rfl
def XR{R:Result->Ξ->Prop}(f:A.handled=none)(S:VX w s.heap a es ep t)(hs:es.size<=sizeLine)
  (h:∀(h':ι)(k:Nat)(acc:Array Θ)(c:Nat),(∀b o,s.heap.get? b=↑o->h'.get? b=↑o)->h'.get? s.heap.objs.size=some {cls:=.type "list",dict:=none,data:=.seq acc c,slots:=#[]}->ItemsOf (λi v=>∃e,(Wq w a ep es)[i]?=↑e/\e.2=v) acc es.size->R (.ok<|.ret<|.ref s.heap.objs.size) {s with heap:=h',toks:=k}):codeAny (model prog w) A (.builtin "proto.collect" {[.ref a],[]}) R s:=by
 let(o,O,x,D):=S.get;have W:=zY O;refine kE entry_proto_collect' ?_;show wpAny _ _ (do again (.builtin "list.__iadd__" {[<-newList [],.ref a],[]})) _ _ s;refine zV<|kN<|zW {wH _<|by decide +kernel,kE entry_list_iadd' ?_};show wpAny _ _ (Builtin.List.listExtendWith (.ref s.heap.objs.size) (.ref a)<|.ref s.heap.objs.size) _ _ {s with heap:=s.heap.push (seqObj "list" #[] 0)};rw[Around.under_plainId PySem.F.plain_list_iadd _];exact kdl_extend (A:=A) (R:=R) (s:={s with heap:=s.heap.push (seqObj "list" #[] 0)}) (src hs) f (S.at λo e=>zU _ e) s.heap.objs.size (jH W) (jH W) _ 0 (zX _ rfl) (λh' k acc c hk H E=>h h' k acc c (λb g d=>hk b g (yR<|zY d)<|zU _ d) H E) hs
def Ys{Q:Γ Θ->Ξ->Prop}(g:A.handled=none)(S:VX w s.heap a es ep t)(hs:es.size<=sizeLine)
  (h:∀(h':ι)(k:Nat),(∀b o,s.heap.get? b=↑o->h'.get? b=↑o)->s.heap.objs.size<=h'.objs.size->Q ((Wq w a ep es).toList.map (·.2)) {s with heap:=h',toks:=k}):wpAny (model prog w) A (collect<|.ref a) Q E s:=by
 unfold collect;refine zV<|wpAny_runValue<|XR g S hs λh' k C c hk H d=>?_;refine zV<|wpAny_load H ?_;show wpAny _ _ (pure C.toList) Q E _;have e:C.toList=(Wq w a ep es).toList.map (·.2):=by
  refine List.ext_getElem? λi=>?_;rcases Nat.lt_or_ge i es.size with z|z
  .have z1:i<C.size:=by rw[d.1];exact z
   let(e,f,v):=d.2 i C[i] (by simp[z1]);rw[zO,Array.getElem?_toList,Array.getElem?_toList,f,jX z1,<-v];rfl
  .rw[zO,Array.getElem?_toList,Array.getElem?_toList,Array.getElem?_eq_none (by rw[d.1];exact z),Array.getElem?_eq_none (by rw[V6];exact z)];rfl
 rw[e];exact zW<|h h' k hk<|jS<|zY H
end Se
namespace Sx
open PySem SetTable
variable {Q:θ->Ξ->Prop}{d:Ψ}
structure Tk(w:World)(t:SetTable)(n:Nat):Prop where
 sz:t.place.size=n
 dm:t.dummies=#[]
 pw:∃k,t.mask+1=2^k
 rm:n*5<t.mask*3
 pl:t.plain=true
 ld:t.led=!(w.params.followText "set-order")
 up:t.place.toList.Pairwise (· < ·)
def fits_of{t:SetTable}{n:Nat}(H:t.place.size=n)(a:t.dummies=#[])(b:n<=t.mask):t.fits n=true:=by
 unfold fits fill;rw[H,a];simp[b]
def Tk.fits(T:Tk w t n):t.fits n=true:=fits_of T.sz T.dm (by have:=T.rm;lia)
def XU{xs:Array Nat}(h:xs.toList.Pairwise (· < ·)):∀i j,i<j->j<xs.size->xs.getD i 0<xs.getD j 0:=λi j N H=>by
 rw[List.pairwise_iff_getElem]at h;have:=h i j (by rw[wA];lia) (by rw[wA];lia) N;simp[show i<xs.size by lia,H];simpa using this
def WQ{α:Type}(xs:Array α)(p:Nat)(x:α):(insertAt xs p x).toList=xs.toList.take p++x::xs.toList.drop p:=by
 unfold insertAt;rw[Array.toList_append,Array.toList_push,Array.toList_extract,Array.toList_extract];simp[List.extract];exact kK (by simp)
def Xj{α:Type}(xs:Array α)(p:Nat)(x:α):(insertAt xs p x).toList.Perm (x::xs.toList):=by
 rw[WQ];refine List.perm_middle.trans ?_;rw[List.take_append_drop]
def Yt{α:Type}(xs:Array α)(p:Nat)(x:α):(insertAt xs p x).size=xs.size+1:=by
 rw[<-wA,(Xj xs p x).length_eq,zL,wA]
def acw{t:SetTable}{j:Nat}(h:t.place.toList.Pairwise (· < ·))(D:t.dummies=#[])(E:t.slot j=.empty):(insertAt t.place (below t.place j) j).toList.Pairwise (· < ·):=by
 have rs:=XU h;have gd:∀a(H:a<t.place.size),t.place.getD a 0=t.place.toList[a]'(by simpa using H):=λa H=>by simp[H]
 have l:∃k,k<=t.place.size/\(∀a,a<k->t.place.getD a 0<j)/\∀a,k<=a->a<t.place.size->j<=t.place.getD a 0:=by
  have:∀n,n<=t.place.size->∃k,k<=n/\(∀a,a<k->t.place.getD a 0<j)/\∀a,k<=a->a<n->j<=t.place.getD a 0:=by
   intro n
   induction n with
   |zero=>exactλ_=>{0,yM _,λa h=>absurd h<|vO _,λa _ h=>absurd h<|vO _}
   |succ n I =>
    intro o;let(k,i,d,K):=I (by lia);by_cases c:k=n/\t.place.getD n 0<j
    .refine{n+1,yM _,λa H=>?_,λa f b=>by lia};by_cases e:a=n
     .rw[e];exact c.2
     .exact d a<|by lia
    .refine{k,by lia,d,λa f b=>?_};by_cases e:a=n
     .subst e;by_cases q:k=a
      .lia
      .have A:=K k (yM _) (by lia);have m:=rs k a (by lia) (by lia);lia
     .exact K a f<|by lia
  exact this _<|yM _
 let(k,i,d,K):=l;have B:=Se.Xh rs i d K;have N:k<t.place.size->t.place.getD k 0≠j:=λhk e=>by
  unfold slot at E;dsimp only at E;rw[B,yL (by rw[vJ,Array.getElem?_eq_some_iff];exact{hk,by rw[<-e];simp[hk]})]at E;cases E
 have G:∀a,k<=a->a<t.place.size->j<t.place.getD a 0:=λa f b=>by
  by_cases e:a=k
  .subst e;have:=K a f b;have:=N b;lia
  .have:=rs k a (by lia) b;have:=K k (yM _) (by lia);lia
 rw[B,WQ];have g:=h;rw[<-List.take_append_drop k t.place.toList]at g;have s:=List.pairwise_append.mp g;have m1:∀x∈t.place.toList.take k,x<j:=λx X=>by
  let(a,H,rfl):=List.mem_iff_getElem.mp X;rw[jV,wA]at H;have:=d a (by lia);rw[gd a<|by lia]at this;simpa using this
 have m2:∀x∈t.place.toList.drop k,j<x:=λx X=>by
  let(a,H,rfl):=List.mem_iff_getElem.mp X;rw[qH,wA]at H;have:=G (k+a) (by lia) (by lia);rw[gd _<|by lia]at this;simpa using this
 refine List.pairwise_append.mpr {s.1,List.pairwise_cons.mpr {m2,s.2.1},λx X y Y=>?_};rcases List.mem_cons.mp Y with rfl|Y
 .exact m1 x X
 .exact wL (m1 x X)<|m2 y Y
section
variable {prog:ε}{w:δ}{A:ξ}{E:Θ->Ξ->Prop}{s:Ξ}
def stored{h:ι}{a:Ψ}{o:Obj}{es:Array (Int×Θ)}{ep:Nat}{t:SetTable}(H:h.get? a=↑o)(d:o.data=.set es ep t){es':Array (Int×Θ)}{t':SetTable} :
  (h.update a<|Obj.putSet es' t').get? a=some {o with data:=.set es' (ep+1) t'}:=by
 have:=Heap.get?_update_self (Obj.putSet es' t') H (by rw[putSet_of es' t' d];rfl);rw[putSet_of es' t' d]at this;exact this
def byValue{K:Type}[DecidableEq K]{knd:KeyKind prog w K}{c:Γ K}{b:Ψ}(hk:IsTupleKey knd s.heap c b)(hi:∀(k:K)(v:Θ),knd.is k v=true->∀n,hashByValue n v=pure true)(q:Q true s):wpAny (model prog w) A (hashByValue 8<|.ref b) Q E s:=by
 have T:=hk.typeIs;let(o,items,n,O,_,D,H):=hk;unfold hashByValue;refine zV<|wpAny_specialOf T F.slot_tuple_hash.lookup ?_;show wpAny _ _ (seqItems? (.ref b) >>= _) _ _ s;refine zV<|kG O D ?_;refine zV ?_;show wpAny _ _ (forIn items _ _) _ _ s;rw[<-Array.forIn_toList];refine wpAny_forIn_list _ (λt r a=>r.1=none/\a=s/\∃S,ItemsAre knd S t) _ ?_ ?_ _ _ {rfl,rfl,c,H}
 .rintro v t r a ⟨R,rfl,S,W⟩;cases W with
  |cons d e =>
   rw[hi _ _ d];refine zV<|zW ?_;simp?[xY,yO,qN];exact zW {rfl,rfl,_,e}
 .rintro⟨r1,f⟩ a ⟨R,rfl,_⟩;simp only at R;subst R;exact zW q
end
def Zg{t:SetTable}(up:t.place.toList.Pairwise (· < ·))(h:t.place.toList[i]?=↑j):t.slot j=.live i:=by
 have rs:=XU up;let(I,e):=List.getElem?_eq_some_iff.mp h;have Y:i<t.place.size:=by simpa using I
 have gd:t.place.getD i 0=j:=by simpa [Y]using e
 have b:below t.place j=i:=Se.Xh rs (by lia) (λa H=>by have:=rs a i H Y;lia) (λa H b=>by
  by_cases c:a=i
  .subst c;lia
  .have:=rs i a (by lia) b;lia)
 unfold slot;dsimp only;rw[b,yL];rw[vJ,<-Array.getElem?_toList];exact h
def Zh{t:SetTable}(d:t.dummies=#[])(h:j∉t.place.toList):t.slot j=.empty:=by
 unfold slot;dsimp only;rw[yN,yN]
 .rw[d];exactλz=>by cases z
 .intro z;rw[vJ,<-Array.getElem?_toList]at z;exact h<|qB z
def slot_mem{t:SetTable}(up:t.place.toList.Pairwise (· < ·))(h:j∈t.place.toList):∃i,t.place.toList[i]?=↑j/\t.slot j=.live i:=by
 let(i,H):=List.getElem?_of_mem h;exact{i,H,Zg up H}
def aaf{t:SetTable}{f:Nat->Int}{h:Int}:∀(n l:Nat)(p:Probe),n<l->(∀m,m<n->∃i,t.slot (VT t m p).j=.live i/\f i≠h)->∃k,probe.go t f h l p=probe.go t f h (k+1) (VT t n p)
 |0,l,p,F,_=>{l-1,by rw[show l-1+1=l by lia];rfl}
 |n+1,0,p,F,_=>absurd F (vO _)
 |n+1,l+1,p,F,M=>by
  let(i,H,a):=M 0<|Nat.succ_pos _;let(k,e):=aaf n l (t.advance p) (by lia) λm W=>M (m+1) (by lia);refine{k,Eq.trans ?_ e};have H:t.slot p.j=.live i:=H;rw[probe.go,H];dsimp only;rw[yN<|by simpa using a]
structure Tf(w:World)(t:SetTable)(es:Array (Int×Value)):Prop where
 tk:Tk w t es.size
 nd:(es.toList.map (·.1)).Nodup
 fo:∀(i:Nat)(h:Int)(j:Nat),(es.toList.map (·.1))[i]?=↑h->t.place.toList[i]?=↑j->Fo t.mask (·∈t.place.toList) h j
def VO(w:δ)(h:ι)(a:Ψ)(l:Γ (Int×Θ)):Prop:=∃o e p t,h.get? a=↑o/\o.ExactSet/\o.data=.set e p t/\e.toList.Perm l/\Tf w t e
def VO.at(x:VO w h a l)(e:∀o,h.get? a=↑o->h'.get? a=↑o):VO w h' a l:=by
 let(o,s,p,t,H,b):=x;exact{o,s,p,t,e o H,b}
def VO.perm(x:VO w h a l)(p:l.Perm m):VO w h a m:=by
 let(o,s,e,t,H,b,c,d,T):=x;exact{o,s,e,t,H,b,c,d.trans p,T}
def Wg(t:SetTable)(h:Int)(n:Nat):(VT t n<|t.probeStart h).j=wy t.mask h n:=by
 rw[XB];rfl
def Xl(es:Array (Int×Θ))(i:Nat):(es[i]?.map (·.1)).getD 0=((es.toList.map (·.1))[i]?).getD 0:=by
 rw[zO,Array.getElem?_toList]
def Tf.adQ{w:δ}{t:SetTable}{es:Array (Int×Θ)}(T:Tf w t es)(hi:(es.toList.map (·.1))[i]?=↑h):∃j x,t.probe (λi=>(es[i]?.map (·.1)).getD 0) h (t.probeStart h)=↑(.candidate j i x):=by
 have l:i<t.place.toList.length:=by
  have:=(List.getElem?_eq_some_iff.mp hi).1;rw[zD,wA]at this;rw[wA,T.tk.sz];exact this
 have J:=zK l;let(n,N,d,g):=T.fo i h _ hi J;let(k,e):=aaf (t:=t) (f:=λi=>(es[i]?.map (·.1)).getD 0) (h:=h) n (10*turns t.mask) (t.probeStart h) N λm M=>by
  let(a,b):=g m M;rw[Wg];let(I,q,q2):=slot_mem T.tk.up a;refine{I,q2,λz=>?_};rw[Xl]at z;have:I<(es.toList.map (·.1)).length:=by
   have:=(List.getElem?_eq_some_iff.mp q).1;rw[wA,T.tk.sz]at this
   rwa [zD,wA]
  rw[zK this]at z;let(c,H):=List.getElem?_eq_some_iff.mp hi;have e:I=i:=(List.getElem_inj T.nd).mp (show _=_ from z.trans H.symm);subst e;exact b<|xD<|q.symm.trans J
 refine{(VT t n<|t.probeStart h).j,t.advance<|VT t n<|t.probeStart h,e.trans ?_};have:t.slot (VT t n<|t.probeStart h).j=.live i:=by
  rw[Wg,d];exact Zg T.tk.up J
 rw[probe.go,this];dsimp only;rw[yL];rw[vJ,Xl,hi];rfl
def Tf.ends{w:δ}{t:SetTable}{es:Array (Int×Θ)}(T:Tf w t es)(p:h∉es.toList.map (·.1)):∃j,t.probe (λi=>(es[i]?.map (·.1)).getD 0) h (t.probeStart h)=↑(.empty j none)/\j∉t.place.toList/\Fo t.mask (·∈t.place.toList) h j:=by
 let(K,hk):=T.tk.pw;have M:=T.tk.rm;let(J,a,g):=Zu T.tk.dm (by rw[T.tk.sz];lia);let(r,v,R):=reach hk (z:=(bits h%(t.mask+1),bits h)) (Zb h) a;let(b,s,en):=Za t r (bits h%(t.mask+1),bits h);have l:t.slot (wy t.mask h b)=.empty:=by
  rw[<-Wg];show t.slot (VT t b<|rs t (bits h%(t.mask+1),bits h)).j=_;rw[en];show t.slot (run t.mask r (bits h%(t.mask+1),bits h)).1=_;rw[R];exact g
 let(n,u,E,L):=least (P:=λn=>t.slot (wy t.mask h n)=.empty) b l;have d:n<10*turns t.mask:=by unfold turns;lia
 have N:∀m,m<n->wy t.mask h m∈t.place.toList:=λm H=>by
  by_cases c:wy t.mask h m∈t.place.toList
  .exact c
  .exact absurd (Zh T.tk.dm c)<|L m H
 have o:wy t.mask h n∉t.place.toList:=λz=>by
  let(i,_,q):=slot_mem T.tk.up z;rw[E]at q;cases q
 let(k,e):=aaf (t:=t) (f:=λi=>(es[i]?.map (·.1)).getD 0) (h:=h) n (10*turns t.mask) (t.probeStart h) d λm H=>by
  rw[Wg];let(I,Q,q2):=slot_mem T.tk.up<|N m H;refine{I,q2,λz=>p ?_};rw[Xl]at z;have:I<(es.toList.map (·.1)).length:=by
   have:=(List.getElem?_eq_some_iff.mp Q).1;rw[wA,T.tk.sz]at this
   rwa [zD,wA]
  rw[zK this]at z;have z:(es.toList.map (·.1))[I]=h:=z;rw[<-z];exact qA this
 refine{wy t.mask h n,e.trans ?_,o,n,d,rfl,λm H=>{N m H,λz=>o<|z▸N m H}};have:t.slot (VT t n<|t.probeStart h).j=.empty:=by rw[Wg];exact E
 rw[probe.go,this];dsimp only;rw[Xd,Wg];rfl
def ins_map{α a:Type}(f:α->a)(xs:Array α)(p:Nat)(x:α):(insertAt xs p x).toList.map f=(xs.toList.map f).take p++f x::(xs.toList.map f).drop p:=by
 rw[WQ,qZ,zI,List.map_take,List.map_drop]
def Tf.put{w:δ}{t:SetTable}{es:Array (Int×Θ)}(T:Tf w t es)(b:h∉es.toList.map (·.1))(J:j∉t.place.toList)(f:Fo t.mask (·∈t.place.toList) h j)(p:(t.put j).2<=es.size) :
  ∀(i:Nat)(g:Int)(x:Nat),((insertAt es (t.put j).2 (h,v)).toList.map (·.1))[i]?=↑g->(t.put j).1.place.toList[i]?=↑x->Fo (t.put j).1.mask (·∈(t.put j).1.place.toList) g x:=by
 intro i g x H a;have e:(t.put j).1.place.toList=t.place.toList.take (t.put j).2++j::t.place.toList.drop (t.put j).2:=WQ ..;have s:∀y,y∈t.place.toList->y∈(t.put j).1.place.toList:=λy Y=>by
  rw[e];rw[<-List.take_append_drop (t.put j).2 t.place.toList,List.mem_append]at Y;rw[List.mem_append,zR];rcases Y with Y|Y
  .exact .inl Y
  .exact .inr<|.inr Y
 show Fo t.mask _ g x;rw[ins_map]at H;rw[e]at a;have z1:((es.toList.map (·.1)).take (t.put j).2).length=(t.put j).2:=by rw[jV,zD,wA];lia
 have z2:(t.place.toList.take (t.put j).2).length=(t.put j).2:=by rw[jV,wA,T.tk.sz];lia
 rw[List.getElem?_append,z1]at H;rw[List.getElem?_append,z2]at a;by_cases c:i<(t.put j).2
 .rw[yL c,List.getElem?_take_of_lt c]at H a;exact(T.fo i g x H a).imp s
 .rw[yN c]at H a;cases q:i-(t.put j).2 with
  |zero =>
   rw[q]at H a;cases H;cases a;exact f.imp s
  |succ m =>
   rw[q,yY,List.getElem?_drop]at H a;exact(T.fo _ g x H a).imp s
abbrev kd(prog:ε)(w:δ):HeapKind prog w (Γ Int):=tupleKind<|intKind prog w
section
variable {prog:ε}{w:δ}{A:ξ}{E:Θ->Ξ->Prop}{s:Ξ}
def Yu(x:(kd prog w).is s.heap k b)(h:Q false s):wpAny (model prog w) A (ofAClassStatement 8<|.ref b) Q E s:=by
 have T:s.TypeIs (.ref b) "tuple":=IsTupleKey.typeIs x;let(o,items,n,O,_,d,i):=x;unfold ofAClassStatement;refine zV<|wI T ?_;dsimp only;have a:("tuple"=="tuple")=true:=rfl;simp?[a,xH];refine zV<|zW ?_;simp?[xY,yO,qN];refine zV<|kG O d ?_;refine zV ?_;show wpAny _ _ (forIn items _ _) _ _ s;rw[<-Array.forIn_toList];refine wpAny_forIn_list _ (λt r S=>r.1=none/\S=s/\∀v∈t,carriedByValue v=true) _ ?_ ?_ _ _ {rfl,rfl,i.byValue}
 .rintro v t r S ⟨H,rfl,W⟩;have c:=W v zE;have e:ofAClassStatement 7 v=pure false:=by cases v<;>first|rfl|cases c
  rw[e];refine zV<|zW ?_;simp?[yO,qN];exact zW {rfl,rfl,λu U=>W u<|zC _ U}
 .rintro⟨r1,R⟩ S ⟨H,rfl,_⟩;simp only at H;subst H;exact zW h
def aag(x:(kd prog w).is s.heap k b)(l:Γ Θ)(L:∀v∈l,∃c j,v=.ref c/\(kd prog w).is s.heap j c)(h:Q false s):wpAny (model prog w) A (searchCouldBeSeen (.ref b) l) Q E s:=by
 unfold searchCouldBeSeen;refine zV ?_;refine wpAny_forIn_list _ (λt r S=>r.1=none/\S=s/\∀v∈t,∃c j,v=.ref c/\(kd prog w).is s.heap j c) _ ?_ ?_ _ _ {rfl,rfl,L}
 .rintro v t r S ⟨H,rfl,W⟩;let(c,j,rfl,y):=W v zE;dsimp only;by_cases e:(b==c||(carriedByValue (.ref b)&&carriedByValue (.ref c)))=true
  .rw[yL e];exact zW {rfl,rfl,λu U=>W u<|zC _ U}
  .rw[yN e];refine zV<|(kd prog w).quiet x ?_;simp?[xY,yO,qN];refine zV<|(kd prog w).quiet y ?_;simp?[xY,yO,qN];refine zV<|Yu x ?_;simp?[yO,qN];refine zV<|Yu y ?_;simp?[yO,qN];exact zW {rfl,rfl,λu U=>W u<|zC _ U}
 .rintro⟨r1,R⟩ S ⟨H,rfl,_⟩;simp only at H;subst H;exact zW h
def aa6(k:Int)(v:Θ)(h:(intKind prog w).is k v=true)(n:Nat):hashByValue n v=pure true:=by
 let(t,rfl):=Value.isInt_shape h;cases n<;>rfl
def Rows(prog:ε)(w:δ)(h:ι)(l:Γ (Int×Θ)):Prop:=∀e∈l,∃k c,e=((kd prog w).hash k,.ref c)/\(kd prog w).is h k c
def Rows.keep(r:Rows prog w h l)(hk:∀e∈l,∀c,e.2=.ref c->∀o,h.get? c=↑o->h'.get? c=↑o):Rows prog w h' l:=λe H=>by
 let(k,c,rfl,o,items,n,O,x):=r e H;exact{k,c,rfl,o,items,n,hk _ H c rfl o O,x}
def adR{t:SetTable}(T:Tk w t n):t.gaveWay=false:=by
 have r:=T.rm;let(k,hk):=T.pw;unfold gaveWay;cases k with
 |zero=>rw[Nat.pow_zero]at hk;lia
 |succ k=>rw[Nat.pow_succ]at hk;rw[beq_eq_false_iff_ne];lia
def aa7(D:VO w s.heap a l)(R:Rows prog w s.heap l)(x:(kd prog w).is s.heap k b)(U:(kd prog w).room A)(M:∃c,((kd prog w).hash k,Value.ref c)∈l/\(kd prog w).is s.heap k c)(q:Q false s) :
  wpAny (model prog w) A (setAddHashed a (.ref b)<|(kd prog w).hash k) Q E s:=by
 let(o,S,ep,t,O,X,H,P,T):=D;let(c,hc,Z):=M;have W:=P.mem_iff.mpr hc;let(i,p):=List.getElem?_of_mem W;have f:(S.toList.map (·.1))[i]?=↑((kd prog w).hash k):=by rw[zO,p];rfl
 let(j,N,F):=T.adQ f;unfold setAddHashed setAddHashedIn;refine xX<|zV<|wpAny_setState_of O H T.tk.fits ?_;dsimp only;rw[show byScan (.ref b) S=false from rfl];simp?[yO,qN];unfold setSearch setSearchFrom;refine zV ?_;refine zV<|wpAny_setState_of O H T.tk.fits ?_;dsimp only;rw[adR T.tk];simp?[yO,qN];generalize G:t.probe _ ((kd prog w).hash k) _=r;have e:r=↑(.candidate j i N):=G.symm.trans F;subst e;dsimp only;have B:S[i]?=↑((kd prog w).hash k,Value.ref c):=by rw[<-Array.getElem?_toList];exact p
 have g:wpAny (model prog w) A (do
   let some (_,y):=S[i]? | unsupported "internal:set-entry"
   let L <- holding [y]<|eqBool y<|.ref b
   let (es',_,t') <- setState a
   if true&&L then return .there none
   let some same:=t'.sameMemory t.moves t.mask|unsupported "set.changed-during-lookup:is-the-new-block-at-the-old-address"
   let d <- match(if same then t'.slot j else .empty)with
    |.live I=>match es'[I]? with
     |some (_,Y)=>do pure (if <- isSame Y y then↑I else none)
     |none=>pure none
    |_=>pure none
   match d with
   |none=>rule "set.search.anew";setSearchFrom a (.ref b) ((kd prog w).hash k) true 99999 none
   |some I=>if L then return .there (↑I)else setSearchFrom a (.ref b) ((kd prog w).hash k) true 99999 (↑N)) (λv m=>v=.there none/\m=s) E s:=by
  rw[B];dsimp only;refine zV<|xX<|(kd prog w).eqBool U Z x ?_;refine zV<|wpAny_setState_of O H T.tk.fits ?_;rw[yA rfl];simp?[Bool.and_self,xH];exact zW {rfl,rfl}
 refine wpAny_ite_split (λ_=>?_) λ_=>?_
 .refine zV (aag x _ (λv J=>?_) ?_)
  .let(e,n,rfl):=List.mem_map.mp J;rw[Array.mem_toList_iff,Array.mem_filter]at n;let(K,C,u,Y):=R e<|P.mem_iff.mp<|Array.mem_toList_iff.mpr n.1;exact{C,K,by rw[u],Y}
  .simp?[yO,qN];exact xA g (λv m z=>by rw[z.1,z.2];exact zW q) λ_ _ h=>h
 .exact xA g (λv m z=>by rw[z.1,z.2];exact zW q) λ_ _ h=>h
end
def aah(xs:Array Nat)(j:Nat):∀(f lo hi:Nat),lo<=hi->below.go xs j f lo hi<=hi
 |0,lo,hi,h=>h
 |f+1,lo,hi,h=>by
  unfold below.go;split
  .dsimp only;split
   .exact aah xs j f _ _<|by lia
   .exact yD (aah xs j f _ _<|by lia)<|by lia
  .exact h
def aai(xs:Array Nat)(j:Nat):below xs j<=xs.size:=aah xs j _ _ _<|xV _
def aaj{α:Type}(es:Array α)(d:α):∀l:Γ Nat,(∀i∈l,i<es.size)->l.filterMap (es[·]?)=l.map λi=>es.toList.getD i d
 |[],_=>rfl
 |a::l,h=>by
  have H:=h a zE;rw[List.filterMap_cons_some (b:=es[a])<|jX H,aaj es d l λi I=>h i<|zC _ I,zI];simp[H]
def Zi{w:δ}{mask finger moves:Nat}{es:Array (Int×Θ)}{ld:θ}(hk:∃k,mask+1=2^k)(r:es.size*5<mask*3)(L:ld=!(w.params.followText "set-order"))(N:(es.toList.map (·.1)).Nodup) :
  ∃t o,laid mask finger moves ld true (es.map (·.1))=↑(t,o)/\(o.filterMap (es[·]?)).size=es.size/\(o.filterMap (es[·]?)).toList.Perm es.toList/\t.mask=mask/\Tf w t (o.filterMap (es[·]?)):=by
 let(p,o,f,a,g,E,n):=aa5 (finger:=finger) (moves:=moves) (led:=ld) (plain:=true) (hs:=es.map (·.1)) hk (by rw[Array.size_map];lia);rw[Array.size_map]at a E;have Y:∀i∈o.toList,i<es.size:=λi I=>List.mem_range.mp<|E.mem_iff.mp I;have H:(o.filterMap (es[·]?)).toList=o.toList.map λi=>es.toList.getD i (0,.none):=by
  rw[Array.toList_filterMap,aaj es (0,.none) _ Y]
 have W:(List.range es.size).map (λi=>es.toList.getD i (0,.none))=es.toList:=by
  refine List.ext_getElem? λi=>?_;rw[zO];by_cases c:i<es.size
  .rw[List.getElem?_range c,zB,zG,zK<|by simpa using c];rfl
  .rw[jL<|by simpa using c,jL<|by simpa using c];rfl
 have m:(o.filterMap (es[·]?)).toList.Perm es.toList:=by
  rw[H];exact(E.map _).trans<|.of_eq W
 have z:(o.filterMap (es[·]?)).size=es.size:=by
  have:=m.length_eq
  rwa [wA,wA]at this
 refine{_,o,f,z,m,rfl,{by rw[z];exact a,rfl,hk,by rw[z];exact r,rfl,L,g},?_,λi h j b d=>?_}
 .exact (m.map _).nodup_iff.mpr N
 .have I:i<p.size:=by have:=(List.getElem?_eq_some_iff.mp d).1;simpa using this
  have:=n i I;rw[zG (i:=i) (l:=p.toList),show p.toList[i]?=↑j from d,qG]at this;rw[H,zM,zO]at b;let(x,X,e):=Option.map_eq_some_iff.mp b;rw[zG (i:=i) (l:=o.toList),X,qG]at this;have s:x<es.size:=Y x<|qB X;have e:(es.toList.getD x (0,.none)).1=h:=e;have q:((es.map (·.1)).toList.getD x 0)=h:=by
   rw[<-e];simp[s]
  rw[q]at this;exact this
section
variable {prog:ε}{w:δ}{A:ξ}{E:Θ->Ξ->Prop}{s:Ξ}
def aak{a:Ψ}{o:Obj}{es:Array (Int×Θ)}{ep:Nat}{t:SetTable}{l:Γ (Int×Θ)}{d n:Nat}{Q:Unit->Ξ->Prop}(O:s.heap.get? a=↑o)(x:o.ExactSet)(H:o.data=.set es ep t)(c:t.place.size=es.size)(f:t.dummies=#[])(g:es.size<=t.mask)(p:t.plain=true)(L:t.led=!(w.params.followText "set-order"))(h4:es.toList.Perm l)(N:(es.toList.map (·.1)).Nodup)(v:d<=20000)(i:2*n<=d)(j:es.size<=n)(u:0<n)
  (q:∀h',Heap.SameBut a s.heap h'->(∃o es ep t,h'.get? a=↑o/\o.ExactSet/\o.data=.set es ep t/\es.toList.Perm l/\Tf w t es/\n*5<t.mask*3)->Q () {s with heap:=h'}):wpAny (model prog w) A (setRelay a d) Q E s:=by
 let(k,K,y,B):=above (n:=d) (by lia);unfold setRelay;refine zV<|wpAny_setState_of O H (fits_of c f g) ?_;dsimp only;rw[yN (by rw[qT];lia)];let(b,D,e,z,m,M,T):=Zi (w:=w) (mask:=sizeAbove d-1) (finger:=t.finger) (moves:=t.movedTo<|sizeAbove d-1) (es:=es) (ld:=t.led) {k,by lia} (by lia) L N;have r:t.relaid (es.map (·.1)) d=↑(b,D):=by
  unfold relaid;rw[p];exact e
 rw[r];show wpAny _ _ ((do if(D.filterMap (es[·]?)).size != es.size then {unsupported "internal:set-table-lost-an-element" };pure (D.filterMap (es[·]?),b):Sem _) >>= _) _ _ _;rw[yN (by rw[z];simp)];refine zV<|zW<|wpAny_storeSet_of O H ?_ (by rw[z,qT];lia);exact q _ (Heap.SameBut.update _ a _) {_,_,ep+1,_,stored O H,x,rfl,m.trans h4,T,by rw[M];lia}
def acy(w:δ)(h:ι)(a:Ψ)(l:Γ (Int×Θ))(n:Nat):Prop:=∃o e p t,h.get? a=↑o/\o.ExactSet/\o.data=.set e p t/\e.toList.Perm l/\Tf w t e/\n*5<t.mask*3
def acy.set(x:acy w h a l n):VO w h a l:=by
 let(o,s,e,t,H,b,c,d,f,_):=x;exact{o,s,e,t,H,b,c,d,f}
def Xm{a:Ψ}{l:Γ (Int×Θ)}{m:Nat}{Q:Unit->Ξ->Prop}(S:VO w s.heap a l)(M:l.length+m<=1000)(q:∀h',Heap.SameBut a s.heap h'->acy w h' a l (l.length+m)->Q () {s with heap:=h'}):wpAny (model prog w) A (setRoomFor a m) Q E s:=by
 let(o,e,P,t,H,x,d,p,T):=S;have L:e.size=l.length:=by rw[<-p.length_eq,wA]
 have r:=T.tk.rm;have f:t.fill=e.size:=by unfold fill;rw[T.tk.sz,T.tk.dm];rfl
 unfold setRoomFor;refine zV<|wpAny_setState_of H d T.tk.fits ?_;dsimp only;unfold roomFor;rw[f,T.tk.sz];by_cases c:(e.size+m)*5 >= t.mask*3
 .rw[yL c];exact aak H x d T.tk.sz T.tk.dm (by lia) T.tk.pl T.tk.ld p T.nd (n:=l.length+m) (by lia) (by lia) (by lia) (by lia) q
 .rw[yN c];refine zW ?_;have:=q s.heap (Heap.SameBut.refl _ _) {o,e,P,t,H,x,d,p,T,by lia};exact this
def pX{l:Γ (Int×Θ)}(x:(kd prog w).is s.heap k b)(S:VO w s.heap a l)(Z:∀e∈l,e.1≠(kd prog w).hash k)(W:l.length<1000)
  (q:∀h',Heap.SameBut a s.heap h'->VO w h' a (((kd prog w).hash k,.ref b)::l)->Q true {s with heap:=h'}):wpAny (model prog w) A (setAddHashed a (.ref b)<|(kd prog w).hash k) Q E s:=by
 let(o,c,p,t,O,X,d,f,T):=S;have U:c.size=l.length:=by rw[<-f.length_eq,wA]
 have g:(kd prog w).hash k∉c.toList.map (·.1):=λz=>by
  let(e,y,z):=List.mem_map.mp z;exact Z e (f.mem_iff.mp y) z
 generalize B:(kd prog w).hash k=h at *;unfold setAddHashed setAddHashedIn;refine xX<|zV<|wpAny_setState_of O d T.tk.fits ?_;dsimp only;rw[show byScan (.ref b) c=false from rfl];simp?[yO,qN];have Y:=T.tk.rm;refine zV ?_;unfold setSearch setSearchFrom;refine zV<|wpAny_setState_of O d T.tk.fits ?_;dsimp only;rw[adR T.tk];let(j,J,N,u):=T.ends g;generalize C:t.probe _ h _=r;have e:r=↑(.empty j none):=C.symm.trans J;subst e;refine zW ?_;dsimp only;refine zV<|wpAny_setState_of O d T.tk.fits ?_;dsimp only;have m:(t.put j).1.dummies=#[]:=by
  show(if has t.dummies j=true then _ else t.dummies)=_;rw[T.tk.dm];rfl
 have z1:(insertAt c (t.put j).2 (h,Value.ref b)).size=c.size+1:=Yt ..;have z2:(insertAt c (t.put j).2 (h,Value.ref b)).toList.Perm ((h,.ref b)::l):=(Xj ..).trans<|f.cons _;have H:(t.put j).1.place.size=c.size+1:=(Yt ..).trans (by rw[T.tk.sz]);have pR:((insertAt c (t.put j).2 (h,Value.ref b)).toList.map (·.1)).Nodup:=((Xj ..).map _).nodup_iff.mpr<|List.nodup_cons.mpr {g,T.nd};have P:(t.put j).1.plain=true:=T.tk.pl;rw[yL P];refine zV<|byValue x (λk v hk n=>aa6 k v hk n) ?_;simp?[xH];refine zV<|wpAny_storeSet_of O d ?_ (by rw[z1,qT];lia);have R:=stored O d (es':=insertAt c (t.put j).2 (h,Value.ref b)) (t':=(t.put j).1);by_cases F:(!false&&(t.put j).1.tooFull)=true
 .rw[yL F];refine zV ?_;rw[<-z1];refine aak (s:={s with heap:=_}) R X rfl (H.trans z1.symm) m (by rw[z1];show c.size+1<=t.mask;lia) P T.tk.ld z2 pR (n:=c.size+1) ?_ ?_ (by rw[z1];exact yM _) (Nat.succ_pos _) λh' L ⟨o,c,p,t,D,q2,G,I,K,_⟩=>zW (q h' ((Heap.SameBut.update _ a _).trans L) {o,c,p,t,D,q2,G,I,K})
  .rw[z1];unfold grown;rw[yN<|by lia];lia
  .rw[z1];unfold grown;rw[yN<|by lia];lia
 .rw[yN F];have M:(c.size+1)*5<t.mask*3:=by
   have:(t.put j).1.tooFull=false:=by simpa using F
   unfold tooFull fill at this;rw[H,m]at this;have:(c.size+1)*5<(t.put j).1.mask*3:=by simpa using this
   exact this
  have i:(t.put j).2<=c.size:=by rw[<-T.tk.sz];exact aai _ _
  refine zV<|zW<|zW<|q _ (Heap.SameBut.update _ a _) {_,_,p+1,_,R,X,rfl,z2,{H.trans z1.symm,m,T.tk.pw,by rw[z1];exact M,P,T.tk.ld,acw T.tk.up T.tk.dm<|Zh T.tk.dm N},pR,T.put g N u i}
end
def aal{α c:Type}{f:α->c}{l L:Γ c}(p:l.Perm L):∀{m:Γ α},L=m.map f->∃M:Γ α,M.Perm m/\l=M.map f:=by
 induction p with
 |nil=>exactλ{m}e=>{m,.refl _,e}
 |cons x _ H =>
  intro m e
  match m,e with
  |a::m,e =>
   rw[zI,kU]at e;let(M,P,E):=H e.2;exact{a::M,P.cons a,by rw[zI,e.1,E]}
 |swap x y r =>
  intro m e
  match m,e with
  |a::b::m,e =>
   rw[zI,zI,kU,kU]at e;exact{b::a::m,.swap ..,by rw[zI,zI,e.1,e.2.1,e.2.2]}
 |trans _ _ i I =>
  intro m e;let(M,P,E):=I e;let(m2,p2,d):=i E;exact{m2,p2.trans P,d}
section
variable {prog:ε}{w:δ}{A:ξ}{E:Θ->Ξ->Prop}{s:Ξ}
abbrev ent(prog:ε)(w:δ)(p:Γ Int×Ψ):Int×Θ:=((kd prog w).hash p.1,.ref p.2)
def VO.setAt(h:VO w hp a l):∃es ep t,es.toList.Perm l/\Se.VX w hp a es ep t:=by
 let(o,es,ep,t,H,b,c,d,T):=h;exact{es,ep,t,d,⟨o,H,b,c⟩,T.tk.fits,T.tk.pl,T.tk.ld,XU T.tk.up}
def wp_walk{Q:Array (Int×Θ)->Ξ->Prop}(S:Se.VX w s.heap a es ep t)(h:Q (Se.Wq w a ep es) s):wpAny (model prog w) A (setWalk a) Q E s:=by
 let(o,H,x,d):=S.get;unfold setWalk;refine zV<|wpAny_setState_of H d S.fits ?_;dsimp only;refine zV (m:=setsByText) ?_;unfold setsByText;refine zV<|wpAny_askSetting<|zW ?_;show wpAny _ _ (if w.params.followText "set-order"=true then _ else _) _ _ _;unfold Se.Wq at h;cases b:w.params.followText "set-order"with
 |true =>
  rw[yL b]at h;rw[yL rfl];exact zV (wpAny_askSetting<|zW h)
 |false =>
  rw[yN (by rw[b];exact yZ)]at h;rw[yN yZ];have c1:(!t.plain&&decide (es.size > 1))=false:=by rw[S.plain];rfl
  have c2:(!t.led&&decide (es.size > 1))=false:=by rw[S.led,b];rfl
  show wpAny _ _ (if(!t.plain&&decide (es.size > 1))=true then _ else _) _ _ _;rw[c1,yN yZ];refine zV ?_;show wpAny _ _ (if(!t.led&&decide (es.size > 1))=true then _ else _) _ _ _;rw[c2,yN yZ];exact zW<|zW h
def Zw{Q:Array (Int×Θ)->Ξ->Prop}{O:Γ Ψ}{fl:Δ Ψ}(S:Se.VX w s.heap a es ep t)(h:Q (Se.Wq w a ep es) s):wpAny (model prog w) A (setWalkUnseen a O fl) Q E s:=by
 let(o,H,x,d):=S.get;unfold setWalkUnseen;refine zV<|wpAny_setState_of H d S.fits ?_;dsimp only;refine zV (m:=setsByText) ?_;unfold setsByText;refine zV<|wpAny_askSetting<|zW ?_;have c:(w.params.followText "set-order"||(t.led&&t.plain)||decide (es.size<=1))=true:=by
  rw[S.led,S.plain];cases w.params.followText "set-order"<;>rfl
 show wpAny _ _ (if(w.params.followText "set-order"||(t.led&&t.plain)||decide (es.size<=1))=true then _ else _) _ _ _;rw[yL c];exact wp_walk S h
def XG{r a:Ψ}{l:Γ (Int×Θ)}{Q:Unit->Ξ->Prop}{H:Sem Unit}(v:r≠a)(R:VO w s.heap r [])(S:VO w s.heap a l)(L:l.length<=500)
  (q:∀h',Heap.SameBut r s.heap h'->VO w h' r l->Q () {s with heap:=h'}):wpAny (model prog w) A (setMerge r a H) Q E s:=by
 let(o,e,G,t,u,x,D,P,T):=S;have I:e.size=l.length:=by rw[<-P.length_eq,wA]
 unfold setMerge;rw[yN<|by simpa using v];refine zV<|wpAny_setState_of u D T.tk.fits ?_;dsimp only;by_cases c:e.isEmpty=true
 .rw[yL c];refine zW ?_;have:l=[]:=by
   have:e.size=0:=by simpa [Array.isEmpty]using c
   exact List.length_eq_zero_iff.mp<|by lia
  subst this;exact q s.heap (Heap.SameBut.refl _ _) R
 rw[yN c];have y:0<e.size:=by
  rcases Nat.eq_zero_or_pos e.size with z|z
  .exact absurd (by simpa [Array.isEmpty]using z) c
  .exact z
 refine zV<|Xm R (by simp;lia) λh' B z=>?_;let(J,i,p,b,f,q2,g,C,d,j):=z;rw[xK,jC]at j;have k:i=#[]:=by
  have:=C.length_eq;rw[wA,xK]at this;exact Array.eq_empty_of_size_eq_zero this
 subst k;refine zV<|wpAny_setState_of f g d.tk.fits ?_;dsimp only;have F:(b.fill != 0)=false:=by
  unfold fill;rw[d.tk.sz,d.tk.dm];rfl
 unfold road;rw[F];simp?[yO,qN];by_cases c2:(b.mask==t.mask&&t.dummies.isEmpty)=true
 .rw[yL c2];dsimp only;refine wpAny_storeSet_of f g ?_ (by rw[qT];lia);refine q _ (B.trans<|Heap.SameBut.update _ r _) {_,_,p+1,_,stored f g,q2,rfl,P,{T.tk.sz,T.tk.dm,T.tk.pw,T.tk.rm,?_,?_,T.tk.up},T.nd,T.fo}
  .show (b.plain&&t.plain)=true;rw[T.tk.pl,d.tk.pl];rfl
  .show (b.led&&t.led)=_;rw[T.tk.ld,d.tk.ld,Bool.and_self]
 .rw[yN c2];dsimp only;let(N,O,n,Z,m,M,TT):=Zi (w:=w) (mask:=b.mask) (finger:=b.finger) (moves:=b.moves) (es:=e) (ld:=b.led&&t.led) d.tk.pw j (by rw[T.tk.ld,d.tk.ld,Bool.and_self]) T.nd;rw[show(b.plain&&t.plain)=true by rw[T.tk.pl,d.tk.pl];rfl,n];show wpAny _ _ ((do if(O.filterMap (e[·]?)).size != e.size then {unsupported "internal:set-table-lost-an-element" };pure (O.filterMap (e[·]?),N):Sem _) >>= _) _ _ _;rw[yN (by rw[Z];simp)];refine zV<|zW<|wpAny_storeSet_of f g ?_ (by rw[Z,qT];lia);exact q _ (B.trans<|Heap.SameBut.update _ r _) {_,_,p+1,_,stored f g,q2,rfl,m.trans P,TT}
end
section
variable {prog:ε}{w:δ}{A:ξ}{E:Θ->Ξ->Prop}{s:Ξ}
structure Un(m1 m2 m:List (List Int×Addr)):Prop where
 sub:∀p∈m,p∈m1\/p∈m2
 all:∀k,(k∈m1.map (·.1)\/k∈m2.map (·.1))->k∈m.map (·.1)
 nd:(m.map (·.1)).Nodup
def WG(prog:ε)(w:δ)(h:ι)(m:Γ (Γ Int×Ψ)):Prop:=∀p∈m,(kd prog w).is h p.1 p.2
def WG.keep{m:Γ (Γ Int×Ψ)}{r:Ψ}(K:WG prog w h m)(s:∀b o,b≠r->h.get? b=↑o->h'.get? b=↑o)(R:∃o,h.get? r=↑o/\o.cls≠.type "tuple"):WG prog w h' m:=λp P=>by
 let(o,items,n,H,hc,x):=K p P;refine{o,items,n,s _ _ (λz=>?_) H,hc,x};let(O,a,c):=R;rw[z,a]at H;cases H;exact c hc
def VO.cls(S:VO w h r l):∃o,h.get? r=↑o/\o.cls≠.type "tuple":=by
 let(o,s,e,t,H,a,_):=S;exact{o,H,by rw[a.1];decide}
def MI(prog:ε)(w:δ)(s:Ξ)(r:Ψ)(m1 m2:Γ (Γ Int×Ψ))(rest:Γ (Int×Θ))(s':Ξ):Prop:=∃ (g:ι) (m R:Γ (Γ Int×Ψ)),s'={s with heap:=g}/\rest=List.map (ent prog w) R/\VO w g r (m.map<|ent prog w)/\Heap.SameBut r s.heap g/\m.length+R.length<=500/\(∀p∈R,p∈m2)/\(∀p∈m,p∈m1\/p∈m2)/\(∀k,(k∈m1.map (·.1)\/k∈m2.map (·.1))->k∈m.map (·.1)\/k∈R.map (·.1))/\(m.map (·.1)).Nodup
def Zx{r a:Ψ}{m1 m2:Γ (Γ Int×Ψ)}{Q:Unit->Ξ->Prop}{d:Sem Unit}(hu:(kd prog w).room A)(Z:r≠a)(R:VO w s.heap r (m1.map<|ent prog w))(S:VO w s.heap a (m2.map<|ent prog w))(hl:m1.length+m2.length<=500)(h1:m1≠[])
  (K1:WG prog w s.heap m1)(K2:WG prog w s.heap m2)(N:(m1.map (·.1)).Nodup)(inj:∀p∈m1++m2,∀q∈m1++m2,(kd prog w).hash p.1=(kd prog w).hash q.1->p.1=q.1)
  (F:∀(s':Ξ)(Q:Unit->Ξ->Prop)(E:Θ->Ξ->Prop),(∀o,s.heap.get? a=↑o->s'.heap.get? a=↑o)->Q () s'->wpAny (model prog w) A d Q E s')
  (q:∀h' m,Heap.SameBut r s.heap h'->VO w h' r (m.map<|ent prog w)->Un m1 m2 m->Q () {s with heap:=h'}):wpAny (model prog w) A (setMerge r a d) Q E s:=by
 have S0:=S;let(o,j,ep,t,O,hex,hd,H,T):=S;have hz:j.size=m2.length:=by rw[<-wA,H.length_eq,zD]
 unfold setMerge;rw[yN<|by simpa using Z];refine zV<|wpAny_setState_of O hd T.tk.fits ?_;dsimp only;by_cases c:j.isEmpty=true
 .rw[yL c];refine zW ?_;have:m2=[]:=by
   have:j.size=0:=by simpa [Array.isEmpty]using c
   exact List.length_eq_zero_iff.mp<|by lia
  subst this;exact q s.heap m1 (Heap.SameBut.refl _ _) R {λp H=>.inl H,λk hk=>by simpa using hk,N}
 rw[yN c];have pos:0<j.size:=by
  rcases Nat.eq_zero_or_pos j.size with z|z
  .exact absurd (by simpa [Array.isEmpty]using z) c
  .exact z
 refine zV<|Xm R (by rw[zD];lia) λh' sb R'=>?_;have RF:=R'.set;let(o',es',ep',t',q1,q2,q3,q4,T',q6):=R';refine zV<|wpAny_setState_of q1 q3 T'.tk.fits ?_;dsimp only;have hf:(t'.fill != 0)=true:=by
  have e:t'.fill=es'.size:=by
   unfold fill;rw[T'.tk.sz,T'.tk.dm];rfl
  have:0<m1.length:=List.length_pos_iff.mpr h1;have z:=q4.length_eq;rw[wA,zD]at z;rw[e,bne_iff_ne];lia
 unfold road;rw[hf];simp?[xH];have ha':h'.get? a=↑o:=(sb.2 a<|jM Z).trans O;have SA:Se.VX w h' a j ep t:={{o,ha',hex,hd},T.tk.fits,T.tk.pl,T.tk.ld,XU T.tk.up}
 refine zV<|Zw (s:={s with heap:=h'}) SA ?_;rw[<-Array.forIn_toList];let(m2',pm,e2):=aal (f:=ent prog w) (Se.WW.trans H) rfl;rw[e2];refine zV<|wpAny_forIn_list _ (λi _ s'=>MI prog w s r m1 m2 i s') _ ?_ ?_ _ _ {h',m1,m2',rfl,rfl,RF,sb,by have:=pm.length_eq;lia,λp H=>pm.mem_iff.mp H,λp H=>.inl H,λk hk=>hk.imp id λz=>((pm.map _).mem_iff).mpr z,N}
 .rintro e i b s' ⟨g,m,l,rfl,D,v,u,n,J,I,U,W⟩;cases l with
  |nil=>cases D
  |cons p l =>
   rw[zI,kU]at D;let(rfl,rfl):=D;have hag:g.get? a=↑o:=(u.2 a<|jM Z).trans O;have AU:p∈m2:=J p zE;have KG:∀{M},WG prog w s.heap M->WG prog w g M:=λK=>K.keep (λb o hb e=>(u.2 b hb).trans e) R.cls;have KP:(kd prog w).is g p.1 p.2:=KG K2 p AU;have KM:WG prog w g m:=λx X=>(I x X).elim (λz=>KG K1 x z) λz=>KG K2 x z;have fin:∀(G:ι)(P:ForInStep PUnit->Ξ->Prop),Heap.SameBut r g G->P (.yield ⟨⟩) {s with heap:=G}->wpAny (model prog w) A (d >>= λ_=>setState a >>= λx=>if(x.2.1 != ep)=true then((unsupported "set.changed-during-merge":Sem PUnit) >>= λ_=>pure<|ForInStep.yield PUnit.unit)else pure (ForInStep.yield PUnit.unit)) P E {s with heap:=G}:=λG P B hP=>by
    have C:G.get? a=↑o:=(B.2 a<|jM Z).trans hag;refine zV<|F _ _ _ (λo' Xr=>by rw[O]at Xr;cases Xr;exact C) ?_;refine zV<|wpAny_setState_of C hd T.tk.fits ?_;dsimp only;rw[yN<|by simp];exact zW hP
   refine zV<|xX ?_;by_cases L:p.1∈m.map (·.1)
   .let(x,X,ex):=List.mem_map.mp L;refine aa7 (s:={s with heap:=g}) v (λe F=>?_) KP hu {x.2,List.mem_map.mpr {x,X,by show((kd prog w).hash x.1,Value.ref x.2)=_;rw[ex]},by rw[<-ex];exact KM x X} ?_
    .let(y,Y,rfl):=List.mem_map.mp F;exact{y.1,y.2,rfl,KM y Y}
    .refine fin g _ (Heap.SameBut.refl _ _) ?_;refine({g,m,l,rfl,rfl,v,u,by rw[zL]at n;lia,λp H=>J p<|zC _ H,I,λk hk=>(U k hk).elim .inl λz=>?_,W}:MI prog w s r m1 m2 _ _);rw[zI,zR]at z;rcases z with rfl|z
     .exact .inl L
     .exact .inr z
   .refine pX (s:={s with heap:=g}) KP v (λe F z=>L ?_) (by rw[zD];lia) λG B RG'=>?_
    .let(y,Y,rfl):=List.mem_map.mp F;have:y.1=p.1:=inj y (List.mem_append.mpr<|I y Y) p (List.mem_append.mpr<|.inr AU) z;rw[<-this];exact List.mem_map.mpr {y,Y,rfl}
    .refine fin G _ B ?_;refine({G,p::m,l,rfl,rfl,RG',u.trans B,by rw[zL]at n ⊢;lia,λp H=>J p<|zC _ H,λy Y=>?_,λk hk=>?_,List.nodup_cons.mpr {L,W}}:MI prog w s r m1 m2 _ _)
     .rcases List.mem_cons.mp Y with rfl|Y
      .exact .inr AU
      .exact I y Y
     .rcases U k hk with z|z
      .exact .inl (by rw[zI];exact zC _ z)
      .rw[zI,zR]at z;rcases z with rfl|z
       .exact .inl (by rw[zI];exact zE)
       .exact .inr z
 .rintro b s' ⟨g,m,l,rfl,D,v,u,n,J,I,U,W⟩;have:l=[]:=by simpa using D
  subst this;exact zW<|q g m u v {I,λk hk=>by simpa using U k hk,W}
end
def ob(w:δ):Obj:={cls:=.type "set",dict:=none,data:=.set #[] 0 (.fresh 0 0<|!(w.params.followText "set-order"))}
def aam{w:δ}{p:ι}(h:p.get? a=↑(ob w)):VO w p a []:={_,_,_,_,h,{rfl,rfl,rfl},rfl,.refl _,{rfl,rfl,{3,rfl},(by decide:0*5<7*3),rfl,rfl,.nil},.nil,λi h j H=>by simp at H}
def XW:isSubtype (.type "set") (.type "set")=pure true:=by rw[isSubtype_type];kernel_rfl
def aan:entryFor table "set.__or__"=↑Builtin.«frozenset.__or__»:=entryFor_alias (id':="frozenset.__or__") (by kernel_rfl) rfl (by decide +kernel) (by kernel_rfl)
section
variable {prog:ε}{w:δ}{A:ξ}{E:Θ->Ξ->Prop}{s:Ξ}
def VO.ty(S:VO w s.heap a l):s.TypeIs (.ref a) "set":=by
 let(o,E,e,t,H,b,_):=S;exact{o,H,b.1}
def XX(h:s.TypeIs (.ref a) "set")(q:Q true s):wpAny (model prog w) A (Builtin.Frozenset.isAnySet<|.ref a) Q E s:=by
 unfold Builtin.Frozenset.isAnySet;exact zV<|wpAny_isInstance h XW<|zW q
def Zy{Q:Θ->Ξ->Prop}(q:Q (.ref s.heap.objs.size) {s with heap:=s.heap.push (ob w)}):wpAny (model prog w) A (newSet<|.type "set") Q E s:=by
 unfold newSet;refine zV (m:=setsByText) ?_;unfold setsByText;refine zV<|wpAny_askSetting<|zW ?_;exact qL q
def acB{Q:Θ->Ξ->Prop}{a b:Ψ}{m1 m2:Γ (Γ Int×Ψ)}(hu:(kd prog w).room A.in1)(Z:a≠b)(u:VO w s.heap a (m1.map<|ent prog w))(j:VO w s.heap b (m2.map<|ent prog w))(hl:m1.length+m2.length<=500)
  (X:WG prog w s.heap m1)(Y:WG prog w s.heap m2)(N:(m1.map (·.1)).Nodup)(C:(m2.map (·.1)).Nodup)(I:∀p∈m1++m2,∀q∈m1++m2,(kd prog w).hash p.1=(kd prog w).hash q.1->p.1=q.1)
  (q:∀h' m,(∀x o,s.heap.get? x=↑o->h'.get? x=↑o)->VO w h' s.heap.objs.size (m.map<|ent prog w)->Un m1 m2 m->Q (.ref s.heap.objs.size) {s with heap:=h'}):wpAny (model prog w) A (binaryOp .BitOr (.ref a)<|.ref b) Q E s:=by
 have T:=u.ty (s:=s);have G:=j.ty (s:=s);refine wpAny_binaryOp_same T G F.fills_set_or F.slot_set_or<|qU F.slot_set_or T aan ?_<|F.args_set_or_2 _ _;show wpAny _ _ (Builtin.Frozenset.slot1 "__or__" _ >>= _) _ _ _;refine zV<|wpAny_of_eq (a:=(.ref a,.ref b)) (by rfl) ?_;show wpAny _ _ ((Builtin.Frozenset.isAnySet (.ref a) <&&> Builtin.Frozenset.isAnySet (.ref b)) >>= _) _ _ _;refine zV<|zV<|XX T<|XX G ?_;simp?[xY,yO,qN];refine zV<|zW ?_;refine zV ?_;show wpAny _ _ (Builtin.Frozenset.copyOf a >>= _) _ _ _;refine zV ?_;unfold Builtin.Frozenset.copyOf;refine zV ?_;unfold Builtin.Frozenset.baseOf;refine zV<|wpAny_isInstance T XW<|zW ?_;simp?[xH];have o2:∀x o,s.heap.get? x=↑o->(s.heap.push<|ob w).get? x=↑o:=λx o e=>zU _ e;have nw:(s.heap.push<|ob w).get? s.heap.objs.size=↑(ob w):=zX _ rfl;have O:∀{x l},VO w s.heap x l->x<s.heap.objs.size:=λ{x l}S=>by
  let(o,es,ep,t,H,_):=S;exact zY H
 have l1:=O u;have M:=O j;refine zV<|Zy ?_;refine zV<|zW ?_;refine zV<|XG (s:={s with heap:=s.heap.push (ob w)}) (l:=m1.map<|ent prog w) (jH l1) (aam nw) (u.at λo e=>o2 _ o e) (by rw[zD];lia) λH D R=>?_;refine zW ?_;rw[yL<|by simp[jM Z]];have g:∀x o,s.heap.get? x=↑o->H.get? x=↑o:=λx o e=>(D.2 x<|yR<|zY e).trans<|o2 x o e;have y:Shared.TypeIs {s with heap:=H} (.ref b) "set":=(j.at λo e=>g b o e).ty (s:={s with heap:=H});refine zV<|zW ?_;refine zV<|xX ?_;unfold Builtin.Frozenset.updateFrom;refine zV<|XX y ?_;rw[yL rfl];refine zV<|zW ?_;have fin:∀h' m,(∀x o,s.heap.get? x=↑o->h'.get? x=↑o)->VO w h' s.heap.objs.size (m.map<|ent prog w)->Un m1 m2 m->wpAny (model prog w) A.in1 (ret<|.ref s.heap.objs.size) (λfin W=>∃v,fin=Fin.done (Flow.ret v)/\v≠Value.notImplemented/\Q v W) E {s with heap:=h'}:=λh' m k S U=>zW {_,rfl,(λz=>nomatch z),q h' m k S U};have d:VO w H b (m2.map<|ent prog w):=j.at λo e=>g b o e;have k1:WG prog w H m1:=λp P=>by
  let(o,i,n,e,r):=X p P;exact{o,i,n,g _ _ e,r}
 have k2:WG prog w H m2:=λp P=>by
  let(o,i,n,e,r):=Y p P;exact{o,i,n,g _ _ e,r}
 show wpAny _ _ (setEpoch b >>= _) _ _ _;let(ob2,es2,ep2,t2,J,g2,K,g4,L):=id d;refine zV<|wpAny_setEpoch_of J K L.tk.fits ?_;by_cases c:m1=[]
 .subst c;refine XG (s:={s with heap:=H}) (jH M) R d (by rw[zD];lia) λB f R2=>zW<|fin B m2 (λx o e=>(f.2 x<|yR<|zY e).trans<|g x o e) R2 {λp P=>.inr P,λk hk=>by simpa using hk,C}
 .refine Zx (s:={s with heap:=H}) hu (jH M) R d hl c k1 k2 N I (λW Q' E' k q'=>?_) λB m f R2 U=>zW<|fin B m (λx o e=>(f.2 x<|yR<|zY e).trans<|g x o e) R2 U;unfold Builtin.Frozenset.unchanged;refine zV<|wpAny_setEpoch_of (k _ J) K L.tk.fits ?_;rw[yN<|by simp];exact zW q'
end
open PySem SetTable PySem.W PySem.Calls PyProof.Rows
section
variable {prog:ε}{w:δ}{A:ξ}{E:Θ->Ξ->Prop}{s:Ξ}
def aao(a:Θ){Q₁:Θ->Ξ->Prop}(h:Q₁ (.ref s.heap.objs.size) {s with heap:=s.heap.push (ob w)}):codeAny (model prog w) A (.call (.builtin "set.__new__") {[.type "set",a],[]}) (wants Q₁ E) s:=by
 refine codeAny_of_tree ?_;show wpAny _ A.in1 (checkBuiltinCall "set.__new__" _ >>= λ_=>again<|.builtin "set.__new__" _) _ _ s;refine zV<|wpAny_of_eq (PySem.F.newCall_set_1 a)<|zW {plainId_quiet PySem.F.plain_set_new _,kE PySem.F.entry_set_new ?_};rw[Around.under_plainId PySem.F.plain_set_new _];unfold Builtin.«set.__new__» Builtin.Frozenset.newClass;have Y:=XW;let(p,g,d,t,o):=s;dsimp only
 wp_walk
 refine wpAny_askSetting<|zW ?_;dsimp only;simp?[newObj];refine zV<|wpAny_alloc<|zW ?_;exact zW h
def aap{Q:Unit->Ξ->Prop}{id:String}{r d:Ψ}{o:Obj}{es:Array DictEntry}{ep:Nat}{m:Γ (Γ Int×Ψ)}(Z:r≠d)(R:VO w s.heap r [])(O:s.heap.get? d=↑o)(hx:o.ExactDict)(D:o.data=.dict es ep)(J:es.toList.map (λe=>(e.hash,e.key))=m.map (ent prog w))(hs:(d==sysModules)=false)(K:WG prog w s.heap m)(N:(m.map λp=>(kd prog w).hash p.1).Nodup)(hl:m.length<=500)
  (q:∀h',Heap.SameBut r s.heap h'->VO w h' r (m.map<|ent prog w)->Q () {s with heap:=h'}):wpAny (model prog w) A (Builtin.Frozenset.updateFrom id r<|.ref d) Q E s:=by
 have T:s.TypeIs (.ref d) "dict":={o,O,hx.1}
 have hz:es.size=m.length:=by
  have:=jB List.length J
  rwa [zD,zD,wA]at this
 unfold Builtin.Frozenset.updateFrom;refine zV ?_;unfold Builtin.Frozenset.isAnySet;refine zV<|wpAny_isInstance T F.sub_dict_set<|wpAny_isInstance T F.sub_dict_frozenset ?_;rw[yN yZ];refine zV<|wI T ?_;rw[yL<|by decide];refine zV<|wC ?_;refine zV<|zW ?_;rw[hs,yN yZ];refine zV<|wpAny_dictEpoch O D ?_;refine zV<|wpAny_dictEntries O D ?_;refine zV<|Xm R (by simp;lia) λI a P=>?_;have U:I.get? d=↑o:=(a.2 d<|jM Z).trans O;refine zV<|wpAny_dictEntries U D ?_;refine zV ?_;rw[Std.Legacy.Range.forIn_eq_forIn_range'];simp?[Std.Legacy.Range.size,Nat.sub_zero,Nat.add_sub_cancel,Nat.div_one];refine wpAny_forIn_list _ (λt _ B=>∃g i,B={s with heap:=g}/\t=List.range' i (es.size-i)/\i<=es.size/\VO w g r ((m.take i).reverse.map<|ent prog w)/\Heap.SameBut r s.heap g) _ ?_ ?_ _ _ {I,0,rfl,rfl,xV _,P.set,a}
 .rintro x t b B ⟨g,i,rfl,H,hi,f,c⟩;have W:i<es.size:=by
   rcases Nat.lt_or_ge i es.size with h|h
   .exact h
   .rw[Nat.sub_eq_zero_of_le h]at H;cases H
  rw[show es.size-i=(es.size-(i+1))+1 by lia,vF]at H;injection H with e1 e2
  subst e1;have G:g.get? d=↑o:=(c.2 d<|jM Z).trans O;refine zV<|wpAny_dictEntries G D ?_;rw[jX W];dsimp only;have M:x<m.length:=by lia
  have ek:(es[x].hash,es[x].key)=ent prog w m[x]:=by
   have:=jB (λl=>l[x]?) J;simp?[zO,Array.getElem?_toList,jX W,zK M,zB]at this;exact xD this
  let(n,u):=Prod.mk.inj ek;rw[n,u];refine zV<|xX ?_;have L:(kd prog w).is g m[x].1 m[x].2:=(K.keep (λb o hb e=>(c.2 b hb).trans e) R.cls) _<|qA M;refine pX (s:={s with heap:=g}) L f (λe v z=>?_) (by rw[zD,List.length_reverse,jV];lia) λC S k=>?_
  .let(y,Y,rfl):=List.mem_map.mp v;rw[List.mem_reverse]at Y;let(j,hj,rfl):=List.mem_take_iff_getElem.mp Y;rw[List.nodup_iff_pairwise_ne,List.pairwise_iff_getElem]at N;refine N j x (by rw[zD];lia) (by rw[zD];lia) (by lia) ?_;rw[List.getElem_map,List.getElem_map];exact z
  .have X:C.get? d=↑o:=(S.2 d<|jM Z).trans G;refine zV<|wpAny_dictEpoch X D ?_;rw[yN<|by simp];refine zW {C,x+1,rfl,e2,W,?_,c.trans S};rw[List.take_succ,zK M];simp?[Option.toList_some,List.reverse_append,List.reverse_cons,List.reverse_nil,xO,qZ,zI,yU,List.singleton_append];exact k
 .rintro b B ⟨g,i,rfl,H,hi,f,c⟩;have:i=es.size:=by
   rcases Nat.lt_or_ge i es.size with z|z
   .rw[show es.size-i=(es.size-(i+1))+1 by lia,vF]at H;cases H
   .lia
  subst this;refine zW<|q g c<|f.perm ?_;rw[hz,List.take_length];exact((List.reverse_perm m).map _)
def Zz{Q:Θ->Ξ->Prop}{o:Obj}{es:Array DictEntry}{ep:Nat}{m:Γ (Γ Int×Ψ)}(O:s.heap.get? d=↑o)(x:o.ExactDict)(y:o.data=.dict es ep)(z:es.toList.map (λe=>(e.hash,e.key))=m.map (ent prog w))(hs:(d==sysModules)=false)(K:WG prog w s.heap m)(N:(m.map λp=>(kd prog w).hash p.1).Nodup)(C:m.length<=500)
  (h:∀(h':ι),VO w h' s.heap.objs.size (m.map<|ent prog w)->(∀b o,s.heap.get? b=↑o->h'.get? b=↑o)->Q (.ref s.heap.objs.size) {s with heap:=h'}) :
  wpAny (model prog w) A (call (.type "set") [.ref d]) Q E s:=by
 let(c,tl,Y):=PySem.F.called_set.mro;have B:=PySem.F.called_set.made;have Yk:=PySem.F.called_set.sub;refine vI<|codeAny_of_tree ?_;show wpAny _ _ (callAny (.type "set") _) _ _ _;refine zW {wH _<|by decide +kernel,kE PySem.F.entry_type_call ?_};rw[Around.under_plain (weight_type_call_type "set" [.ref d] []) rfl];have h1:=PySem.F.called_set.notType;have h2:=PySem.F.called_set.canCreate;have v:=PySem.F.typeCall_set_1<|.ref d
 repeat (any_goals (first|assumption|wp_step))
 refine jR (aao (.ref d) (E:=E) (Q₁:=λobj g=>obj=.ref s.heap.objs.size/\g={s with heap:=s.heap.push (ob w)}) {rfl,rfl}) λr g a=>?_;cases r with
 |error e=>exact a
 |ok L =>
  cases L with
  |ret obj =>
   let(rfl,rfl):=a;have S:(s.heap.push<|ob w).get? s.heap.objs.size=↑(ob w):=zX _ rfl;have T:Shared.TypeIs {s with heap:=s.heap.push (ob w)} (.ref s.heap.objs.size) "set":={_,S,rfl}
   have G:=PySem.F.called_set.init.lookup;have t:=PySem.F.called_set.init.bind<|.ref s.heap.objs.size
   repeat (any_goals (first|assumption|wp_step))
   refine jR (vX (R:=wants (λr j=>r=.none/\∃h',j={s with heap:=h'}/\VO w h' s.heap.objs.size (m.map<|ent prog w)/\(∀b o,s.heap.get? b=↑o->h'.get? b=↑o)) E) PySem.F.called_set.init.plain PySem.F.entry_set_init<|check_set_init_1 T ?_) λZ j H=>?_
   .have l:d<s.heap.objs.size:=zY O;have X:(s.heap.push<|ob w).get? d=↑o:=zU _ O;have D:Shared.TypeIs {s with heap:=s.heap.push (ob w)} (.ref d) "dict":={o,X,x.1}
    have J:(ob w).data=.set #[] 0 (.fresh 0 0<|!(w.params.followText "set-order")):=rfl;unfold Builtin.«set.__init__» noKeywords;generalize q:Builtin.Frozenset.updateFrom=U
    wp_walk
    subst q;have W:s.heap.objs.size≠d:=jH l;have P:WG prog w (s.heap.push<|ob w) m:=λp M=>by
     let(o,i,n,e,r):=K p M;exact{o,i,n,zU _ e,r}
    refine aap (s:={s with heap:=s.heap.push (ob w)}) W (aam S) X x y z hs P N C λh' sb k=>?_;exact zW {rfl,h',rfl,k,λb o e=>(sb.2 b<|yR<|zY e).trans<|zU _ e}
   .cases Z with
    |error e=>exact H
    |ok f =>
     cases f with
     |ret r =>
      let(rfl,h',rfl,I,u):=H
      repeat (any_goals (first|assumption|wp_step))
      exact h _ I u
     |_=>exact H.elim
  |_=>exact a.elim
end
end Sx
namespace Se
open PySem PySem.W PySem.Calls PyProof.Rows
def aa8{Q:Θ->Ξ->Prop}(vs:Γ Θ)(Y:vs.length<64)(z:Nat->Int)(g:SortKind)
  (hc:∀(d:Γ Θ->Ξ->Prop)(n:Θ->Ξ->Prop),(∀(h':ι)(t:Nat),(∀b o,s.heap.get? b=↑o->h'.get? b=↑o)->s.heap.objs.size<=h'.objs.size->d vs {s with heap:=h',toks:=t})->wpAny (model prog w) A.in1 (collect<|.ref l) d n s)
  (hk:2<=vs.length->∀(h':ι)(t:Nat),(∀b o,s.heap.get? b=↑o->h'.get? b=↑o)->∀d:SortKind->Ξ->Prop,d g {s with heap:=h',toks:=t}->wpAny (model prog w) A.in1.in1 (keyKind' vs.toArray) d (λ_ _=>False) {s with heap:=h',toks:=t})
  (W:2<=vs.length->∀(h':ι)(t:Nat),(∀b o,s.heap.get? b=↑o->h'.get? b=↑o)->∀i j C,i<vs.length->j<vs.length->C (SP.ik z i j) {s with heap:=h',toks:=t}->kas_ask prog w A.in1.in1 g vs i j C {s with heap:=h',toks:=t})
  (h:∀(h':ι)(t:Nat)(D:Ψ)(c:Nat),(∀b o,s.heap.get? b=↑o->h'.get? b=↑o)->s.heap.objs.size<=D->h'.get? D=↑(seqObj "list" (Y4.V3 z vs).toArray c)->Q (.ref D) {s with heap:=h',toks:=t}) :
  wpAny (model prog w) A (call (.builtin "sorted") [.ref l]) Q E s:=by
 have L:vs.length<=sizeLine:=by rw[qT];lia
 refine Calls.call_function_entry kind_sorted plain_sorted entry_sorted (args_sorted1 _) ?_;unfold Builtin.«sorted»;refine zV (m:=checkCount "sorted" 1 1 _)<|zW<|zV<|hc _ _ λH t k f=>?_;refine zV<|kN ?_ (by simpa using L);have Z:(H.push<|seqObj "list" vs.toArray 0).get? H.objs.size=↑(seqObj "list" vs.toArray 0):=zX _ rfl;have K:∀h':ι,(∀b o,b≠H.objs.size->(H.push<|seqObj "list" vs.toArray 0).get? b=↑o->h'.get? b=↑o)->∀b o,s.heap.get? b=↑o->h'.get? b=↑o:=λh' q b o e=>q b o (yR<|zY<|k b o e)<|zU _<|k b o e;show wpAny _ _ _ _ _ ({s with heap:=H.push<|seqObj "list" vs.toArray 0,toks:=t}:Ξ);refine zV<|xX<|qU slot_list_sort {_,Z,rfl} entry_list_sort (Y4.Xa (s:=({s with heap:=H.push<|seqObj "list" vs.toArray 0,toks:=t}:Ξ)) Z Y z g (λa h' q=>hk a h' t<|K h' q) (λa h' q=>W a h' t<|K h' q) λh' c q e=>{_,rfl,?_})<|args_list_sort _;exact zW {_,rfl,h h' t _ c (K h' q) f e}
end Se
namespace Dl
open PySem L2 PySem.Spec PyProof.Rows
variable {Q:Θ->Ξ->Prop}
def iD(ns:Γ Int):Int:=reduceHash<|Builtin.Tuple.tupleHashOf<|ns.map hashInt
def qj:Γ (D×D)->Δ (Γ<|Γ Int)
 |[]=>↑[]
 |p::l=>(cC p.1).bind λn=>(qj l).map λr=>n::r
def lC(r u:Γ (Γ Int)):Γ (Γ Int):=r++u.filter λk=>!r.contains k
def BD:D->D->Δ (Γ D)
 |.dict l,.dict m=>(qj l).bind λr=>(qj m).bind λu=>if r.Nodup/\u.Nodup/\((lC r u).map iD).Nodup/\(lC r u).length<64/\∀n∈lC r u,n≠[]then↑((lN<|lC r u).map af)else none
 |_,_=>none
def dN{r u:Γ (Γ Int)}:k∈lC r u↔k∈r\/k∈u:=by
 unfold lC;rw[List.mem_append,List.mem_filter];by_cases c:k∈r<;>simp[c]
def wV{r u:Γ (Γ Int)}(H:r.Nodup)(c:u.Nodup):(lC r u).Nodup:=by
 unfold lC;rw[wN];refine{H,c.filter _,λa A b B e=>?_};subst e;have:=(List.mem_filter.mp B).2;simp[A]at this
section
variable {X:Cx}
def Px{E:Θ->Ξ->Prop}{x:Str}{pos:Pos}{i:Nat}{v:V}(I:Inv X pins σ H s)(n:X.N[i]?=↑x)(b:nW X.env.scope x)(e:σ[i]?=↑(↑v))(q:∀u,RelV v u->Q u s)(d:(x==("__debug__":Str))=false:=by decide)(R:(x==("__classdict__":Str))=false:=by decide):wpAny (model X.prog X.w) X.A (eval (.Name x pos) X.env) Q E s:=by
 let(m,a,L):=I.loc;let(u,r,l):=L i x v n e b;have fin:=q u r;rcases l with ⟨hk,M⟩|⟨hk,c,hc,Y⟩
 .exact wD (vW I.ok.kind hk a M fin) d
 .rcases hk with hk|hk
  .exact wD (wpAny_loadName_cell I.ok.kind hk hc Y fin) d
  .exact wD (wpAny_loadName_free I.ok.kind hk hc Y fin R) d
def items_int{P:ε}{w:δ}:∀{ns:Γ Int}{us:Γ Θ},aG (ns.map V.int) us->ItemsAre (intKind P w) ns us
 |[],_,r=>by cases r;exact .nil
 |n::ns,_,r=>by
  rw[zI]at r;cases r with
  |cons h t=>let(T,rfl):=h;exact .cons (intKind_is ..)<|items_int t
def Hl{pins:Γ (Ψ×Obj)}{σ:L2.St}{H:Hp}{s:Ξ}{ns:Γ Int}{b:Ψ}(I:Inv X pins σ H s)(h:gm X.K H b (ns.map V.int)):(Sx.kd X.prog X.w).is s.heap ns b:=by
 let(E,r,(o,a,c,n,d),_):=I.tuple h;exact{o,E.toArray,n,a,c,d,by simpa using items_int r}
def z6{K:Φ}:∀{l:Γ (D×D)}{xs:Γ (Γ tN×Ψ×Θ)}{r:Γ (Γ Int)},pI K HF l xs->qj l=↑r->∃m:Γ (Γ Int×Ψ),m.map (·.1)=r/\xs.map (λx=>(x.1,x.2.1))=m.map (λp=>(p.1.map Sum.inl,p.2))/\∀p∈m,gm K HF p.2 (p.1.map V.int)
 |[],_,r,h,e=>by cases(show _=[]from h);cases e;exact{[],rfl,rfl,λp H=>by cases H}
 |p::l,_,r,⟨s,n,t,b,xs,a,d,f,g⟩,e=>by
  subst a d;let(k,E,e):=bs e;let(R,c,rfl):=ai e;have:k=s:=by
   have:=dk E;rw[show(iK s,PyData.int n).1=PyData.tuple (s.map PyData.int)from rfl]at this;injection this with this
   have a:=jB intsOf this;rw[dc,dc]at a;exact(xD a).symm
  subst this;let(m,m1,m2,m3):=z6 g c;exact⟨(k,b)::m,by rw[zI,m1],by rw[zI,zI,m2],λp H=>by
   rcases List.mem_cons.mp H with rfl|H
   .exact f
   .exact m3 p H⟩
def FQ{P:ε}{w:δ}(ns:Γ Int):(tupleKind<|eH P w).hash (ns.map Sum.inl)=(Sx.kd P w).hash ns:=by
 show reduceHash (Builtin.Tuple.tupleHashOf<|(ns.map Sum.inl).map (eH P w).hash)=reduceHash (Builtin.Tuple.tupleHashOf<|ns.map (intKind P w).hash);rw[zM];rfl
def KI{K:Φ}{m:Γ (Γ Int×Ψ)}:(∀p∈m,gm K HF p.2<|p.1.map V.int)->ar K HF ((m.map (·.1)).map af) ((m.map (·.2)).map V.ref):=by
 induction m with
 |nil=>exactλ_=>ar.nil
 |cons p m i =>
  intro h;refine ar.cons ?_<|i λq H=>h q<|zC _ H;unfold af;simp?[Rep];refine{p.2,_,rfl,h p zE,?_};have:∀s:Γ Int,ar K HF (s.map PyData.int) (s.map V.int):=λs=>by
   induction s with
   |nil=>exact ar.nil
   |cons n s i=>exact ar.cons (by simp?[Rep]) i
  exact this p.1
end
section
def Ft{Q:SortKind->Ξ->Prop}(p:Paired (n8 s.heap) vs nss)(N:∀ns∈nss,ns≠[])(b:2<=vs.length)(q:Q (tuples' true) s):wpAny (model prog w) A (keyKind' vs.toArray) Q (λ_ _=>False) s:=by
 let(fs,t,H,f):=sO p N;refine W.kat_kind (T:=.type "int") t (by lia) (λv a=>?_) (by decide) q;let(n,t,rfl):=f v a;exact W.Looks.of_pure rfl
def HP{C:θ->Ξ->Prop}(p:Paired (n8 s.heap) vs nss)(hi:i<vs.length)(J:j<vs.length)(q:C (SP.ik (λi=>rk nss<|nss.getD i []) i j) s):W.kas_ask prog w A (tuples' true) vs i j C s:=by
 have H:=p.length;let(a,o,E,n,k,f,m,g,e):=(gC (d:=Value.none) (d':=[]) p hi).ex;let(b,O,I,N,B,f1,f2,f3,f4):=(gC (d:=Value.none) (d':=[]) p J).ex;unfold W.kas_ask;rw[k,B];have c:nss.getD i []∈nss:=by
  rw[zG,zK<|by lia];exact qA _
 have Q:C (lexLt (nss.getD i [])<|nss.getD j []) s:=by
  rw[G7 c];exact q
 refine W.kat_lt f g f1 f3 ?_;have:=rY (prog:=prog) (w:=w) (A:=A) (s:=s) 0 e f4 Q;have l:E.size=(nss.getD i []).length:=by have:=vU e;simpa using this
 have L:I.size=(nss.getD j []).length:=by have:=vU f4;simpa using this
 rw[l,L];exact this
def E2{K:Φ}{us vs:Γ V}(p:us.Perm vs):∀{l:Γ (Γ Int)},ar K HF (l.map af) vs->∃m:Γ (Γ Int),m.Perm l/\ar K HF (m.map af) us:=by
 induction p with
 |nil=>intro l h;exact{l,.refl _,h}
 |cons x _ H =>
  intro l h;cases l with
  |nil=>have:=h.nil_inv;cases this
  |cons k l =>
   let(v,r,e,a,b):=h.cons_inv;cases e;let(m,P,r1):=H b;exact{k::m,P.cons k,ar.cons a r1}
 |swap x y r =>
  intro l h
  match l,h with
  |[],h=>have:=h.nil_inv;cases this
  |[k],h =>
   let(v,r,e,a,b):=h.cons_inv;cases e;have:=b.nil_inv;cases this
  |k::c::l,h =>
   let(v,r,e,a,b):=h.cons_inv;cases e;let(d,R,E,A,B):=b.cons_inv;cases E;exact{c::k::l,List.Perm.swap ..,ar.cons A<|ar.cons a B}
 |trans _ _ i I =>
  intro l h;let(m,P,r1):=I h;let(m2,p2,R):=i r1;exact{m2,p2.trans P,R}
def oC:∀bs:Γ Ψ,aG (bs.map V.ref) (bs.map Value.ref)
 |[]=>.nil
 |b::bs=>.cons rfl (oC bs)
def Ey{us:Γ Θ}{bs:Γ Ψ}(p:us.Perm (bs.map Value.ref)):∃cs:Γ Ψ,cs.Perm bs/\us=cs.map Value.ref:=by
 have W:∀u∈us,∃b,u=Value.ref b:=λu H=>by
  let(b,_,rfl):=List.mem_map.mp<|p.mem_iff.mp H;exact{b,rfl}
 have e:us=(us.map λu=>match u with|.ref b=>b|_=>0).map Value.ref:=by
  rw[zM];refine(List.map_id us).symm.trans<|yH λu H=>?_;let(b,rfl):=W u H;rfl
 refine{_,?_,e};have:=p.map λu:Θ=>match u with|.ref b=>b|_=>0
 rw[zM]at this;refine this.trans<|List.Perm.of_eq ?_;exact(yH λb _=>rfl).trans<|List.map_id bs
variable {X:Cx}
def Cq{pos U W:Pos}{E:Θ->Ξ->Prop}{x:Str}{i:Nat}{l:Γ (D×D)}{r:Γ (Γ Int)}(C:nC X "set" (.type "set"))(I:Inv X pins σ H s)(sm:az HF H)(J:X.N[i]?=↑x)(T:nW X.env.scope x)(e:σ[i]?=↑(↑v))(R:Rep X.K HF (.dict l) v)(hk:qj l=↑r)(n:(r.map iD).Nodup)(h5:r.length<=400)(M:(x==("__debug__":Str))=false)(d:(x==("__classdict__":Str))=false)
  (q:∀(m:Γ (Γ Int×Ψ))(h':ι),m.map (·.1)=r->(∀p∈m,gm X.K HF p.2<|p.1.map V.int)->Sx.VO X.w h' s.heap.objs.size (m.map<|Sx.ent X.prog X.w)->(∀b o,s.heap.get? b=↑o->h'.get? b=↑o)->Q (.ref s.heap.objs.size) {s with heap:=h'}):wpAny (model X.prog X.w) X.A (eval (.Call (.Name "set" U) [.Name x W] [] pos) X.env) Q E s:=by
 refine qX<|fO I C.gl C.mg C.bt<|callWith_type1<|Px I J T e (λu Y=>?_) M d;simp?[Rep]at R;let(a,Z,rfl,L,t):=R;cases Y;let(z,O,o,g,ep,G,j,B,F,g5):=(show dX X.prog X.w H s.heap a (.dT Z)from I.VH a _<|sm _ _ L)
 let(m,m1,m2,m3):=z6 t hk;have c:g.toList.map (λe=>(e.hash,e.key))=m.map (Sx.ent X.prog X.w):=by
  rw[F,zM];have:=jB (List.map λy:Γ tN×Ψ=>((tupleKind<|eH X.prog X.w).hash y.1,Value.ref y.2)) m2;rw[zM,zM]at this;refine Eq.trans ?_<|this.trans ?_
  .rfl
  .refine yH λp _=>?_;show((tupleKind<|eH X.prog X.w).hash<|p.1.map Sum.inl,Value.ref p.2)=_;rw[FQ]
 refine Sx.Zz G j B c O (λp P=>Hl I<|aB sm<|m3 p P) ?_ (by rw[<-zD (f:=λp:Γ Int×Ψ=>p.1),m1];lia) λh' S k=>q m h' m1 m3 S k;rwa[<-m1,zM]at n
def Gd(hc:X.calm=true)(hu:X.A.in1.in1.in1.units<cLine){x y:Str}{i j:Nat}(B:nC X "sorted" (.builtin "sorted"))(C:nC X "set" (.type "set"))(hN:X.N[i]?=↑x)(hv:nW X.env.scope x)(hN2:X.N[j]?=↑y)(hv2:nW X.env.scope y)(hd:(x==("__debug__":Str))=false:=by decide)(VR:(x==("__classdict__":Str))=false:=by decide)(hd2:(y==("__debug__":Str))=false:=by decide)(agy:(y==("__classdict__":Str))=false:=by decide) :
  DF X (.Call (.Name "sorted" p) [.BinOp (.Call (.Name "set" p1) [.Name x q1] [] r1) .BitOr (.Call (.Name "set" p2) [.Name y q2] [] r2) r3] [] pos) (λρ=>(ae i ρ).bind λa=>(ae j ρ).bind<|BD a):=by
 intro pins s σ H Q I z;let(HF,ρ,out,sm,eo,f,q):=z;let(a,ea,f):=bs f;let(b,eb,f):=bs f;cases a<;>try cases f
 cases b<;>try cases f
 rename_i l1 l2;let(r,hr,f):=bs f;let(u,hu2,f):=bs f;by_cases hn:r.Nodup/\u.Nodup/\((lC r u).map iD).Nodup/\(lC r u).length<64/\∀ns∈lC r u,ns≠[];rotate_left
 .rw[yN hn]at f;cases f
 rw[yL hn]at f;cases f;let(rn,un,hh,YJ,VZ):=hn;have T:∀{k d},ae k ρ=↑d->ρ[k]?=↑(↑d):=λ{k d}h=>by
  have h:(ρ[k]?).getD none=↑d:=h;cases e:ρ[k]? with
  |none=>rw[e]at h;cases h
  |some o=>rw[e]at h;rw[show o=↑d from h]
 let(v1,s1,R1):=eo.get i _<|T ea;let(v2,s2,R2):=eo.get j _<|T eb;have hl1:r.length<=(lC r u).length:=by unfold lC;rw[zN];lia
 have nr:(r.map iD).Nodup:=by
  unfold lC at hh;rw[qZ,wN]at hh;exact hh.1
 have L:∀k∈lC r u,∀k'∈lC r u,iD k=iD k'->k=k':=λk hk k' Xu e=>by
  let(i,hi,rfl):=qP hk;let(j,hj,rfl):=qP Xu;have:i=j:=(List.getElem_inj (xs:=(lC r u).map iD) (h₀:=by rwa [zD]) (h₁:=by rwa [zD]) hh).mp (by rw[List.getElem_map,List.getElem_map];exact e);subst this;rfl
 have nu:(u.map iD).Nodup:=by
  rw[List.nodup_iff_pairwise_ne,jD];rw[List.nodup_iff_pairwise_ne]at un;exact un.imp_of_mem λ{a b}ha hb z e=>z<|L a (dN.mpr<|.inr ha) b (dN.mpr<|.inr hb) e
 have hl2:u.length<=(lC r u).length:=by
  refine List.Nodup.length_le_of_subset un λk hk=>dN.mpr<|.inr hk
 refine qX<|fO I B.gl B.mg B.bt ?_ (by decide) (by decide);refine PyProof.Rows.callWith_builtin1 (e:=.BinOp (.Call (.Name "set" p1) [.Name x q1] [] r1) .BitOr (.Call (.Name "set" p2) [.Name y q2] [] r2) r3) (rest:=[]) ?_ rfl rfl;refine jI ?_;refine wpAny_BinOp ?_;refine Cq C I sm hN hv s1 R1 hr nr (by lia) hd VR λm1 h1 e1 k1 S1 o1=>?_;have I1:=I.kept (t':=s.toks) (h':=h1) o1;refine Cq C I1 sm hN2 hv2 s2 R2 hu2 nu (by lia) hd2 agy λm2 h2 e2 k2 S2 o2=>?_;have I2:=I1.kept (t':=s.toks) (h':=h2) o2;have lt1:s.heap.objs.size<h1.objs.size:=by
  let(o,_,_,_,g,_):=S1;exact zY g
 have mk:∀{m:Γ (Γ Int×Ψ)}{t:Γ (Γ Int)},m.map (·.1)=t->(∀k∈t,k∈lC r u)->∀p∈m,p.1∈lC r u:=λ{m t}e h p P=>h _ (by rw[<-e];exact List.mem_map.mpr {p,P,rfl});have O:=mk e1 λk hk=>dN.mpr<|.inl hk;have R:=mk e2 λk hk=>dN.mpr<|.inr hk;have Ks:m1.length=r.length:=by rw[<-e1,zD]
 have Lz:m2.length=u.length:=by rw[<-e2,zD]
 refine Sx.acB (s:={s with heap:=h2}) (m1:=m1) (m2:=m2) (show(Sx.kd X.prog X.w).room X.A.in1 from Nat.lt_of_succ_lt<|Nat.lt_of_succ_lt hu) (yR lt1) (S1.at λo e=>o2 _ o e) S2 (by lia) (λp P=>Hl I2<|aB sm<|k1 p P) (λp P=>Hl I2<|aB sm<|k2 p P) (by rw[e1];exact rn) (by rw[e2];exact un) (λp P q hq e=>?_) λM m o3 S3 U=>?_
 .have W:∀z∈m1++m2,z.1∈lC r u:=λz hz=>(List.mem_append.mp hz).elim (O z)<|R z;exact L _ (W p P) _ (W q hq) e
 .refine kH ?_;have I3:=I2.kept (t':=s.toks) (h':=M) o3;have kk:∀p∈m,gm X.K HF p.2 (p.1.map V.int):=λp P=>(U.sub p P).elim (k1 p)<|k2 p;have pk:(m.map (·.1)).Perm (lC r u):=by
   refine(List.perm_ext_iff_of_nodup U.nd<|wV rn un).mpr λk=>{λhk=>?_,λhk=>?_}
   .let(p,P,rfl):=List.mem_map.mp hk;exact(U.sub p P).elim (O p)<|R p
   .refine U.all k ?_;rw[e1,e2];exact dN.mp hk
  have rm0:=KI kk;let(es,ep,t,pe,J):=S3.setAt;have F:=(Se.WW (w:=X.w) (a:=h2.objs.size) (ep:=ep) (es:=es)).trans pe |>.map (λe:Int×Θ=>e.2)
  rw[zM,show((λe:Int×Θ=>e.2) ∘ Sx.ent X.prog X.w)=λp:Γ Int×Ψ=>Value.ref p.2 from rfl,show m.map (λp:Γ Int×Ψ=>Value.ref p.2)=(m.map (·.2)).map Value.ref by rw[zM];rfl]at F;let(S,pc,ec):=Ey F;let(mm,pm,rm):=E2 (pc.map V.ref) rm0;have E:=pm.trans pk;have hml:=E.length_eq;have WY:=rm.length;rw[zD,zD]at WY;have hsz:es.size=S.length:=by
   have z1:=jB List.length ec;rw[zD,zD,wA,Se.V6]at z1;exact z1
  have agA:Paired (n8 M) (S.map Value.ref) mm:=qf I3 sm rm<|oC S;have G:∀l:ι,(∀b o,M.get? b=↑o->l.get? b=↑o)->Paired (n8 l) (S.map Value.ref) mm:=λl D=>Paired.abS agA λ_ _ r=>r.keep D;refine Se.aa8 (s:={s with heap:=M}) (S.map Value.ref) (by rw[zD];lia) (λi=>rk mm<|mm.getD i []) (tuples' true) (λQ' E' Y=>Se.Ys (s:={s with heap:=M}) (by simp[I.ok.hd hc]) J (by rw[PySem.sizeLine_eq];lia) (by rw[ec];exact Y)) (λn l Z D Q' Y=>?_) (λn l Z D i j C hi hj Y=>?_) λl Z Dn c D hD e=>?_
  .rw[zD]at n;exact Ft (s:={s with heap:=l,toks:=Z}) (G l D) (λns X2=>VZ ns<|E.mem_iff.mp X2) (by rw[zD];exact n) Y
  .exact HP (s:={s with heap:=l,toks:=Z}) (G l D) hi hj Y
  .have hv:=qr (λi=>rk mm<|mm.getD i [])<|oC S;have hr:=sk (λi=>rk mm<|mm.getD i []) rm;have es':lN mm=lN (lC r u):=wg ((eF mm).trans E)<|Ba mm;rw[Da,CP,es']at hr;have v:=I3.VH.fresh hD;refine{.ref Dn,_,I3.laid (t':=Z) (o:=.lst<|AL (λi=>rk mm<|mm.getD i []) (S.map V.ref) .VC) D hD {?_,_,c,hv,e},rfl,?_}
   .rw[(jy _ _ _).length_eq,zD,PySem.sizeLine_eq];lia
   .exact q Dn _ _ HF (.own sm v) v (sm.free v) av hr
end
end Dl
namespace Dd
open PySem
def aa9:typeLookup (.type "list") "keys"=pure none:=by rw[typeLookup_type,builtinLookup_eq_fast];kernel_rfl
def adX:typeLookup (.type "list") "__getattr__"=pure none:=by rw[typeLookup_type,builtinLookup_eq_fast];kernel_rfl
section
variable {prog:ε}{w:δ}{A:ξ}{E:Θ->Ξ->Prop}
def YX{Q:PySem.Fin->Ξ->Prop}{s:Ξ}(b:A.handled=none)(x:s.heap.get? a=↑o)(hc:o.cls=.type "list")(hs:o.data=.seq VE n)(H:o.dict=none)
  (q:∀h' k e,Heap.NewAttrErr s.heap h' e (.ref a) "keys"->E (.ref e) {s with heap:=h',toks:=k}):wpAny (model prog w) A (Builtin.«object.__getattribute__» {[.ref a,.str "keys" k],[]}) Q E s:=by
 let(h,g,d,t,O):=s;have T:({h,g,d,t,O}:Ξ).TypeIs (.ref a) "list":={_,x,hc}
 have f4:=aa9
 repeat (any_goals (first|assumption|wp_step))
 rw[hs];dsimp only;unfold instanceDict
 repeat (any_goals (first|assumption|wp_step))
 rw[hc,H];dsimp only;refine zW ?_
 repeat (any_goals (first|assumption|wp_step))
 exact wpAny_raiseAttrError b q<|attrMsg_fits (by decide +kernel)<|by size_fits
def ZA{Q:Δ Θ->Ξ->Prop}{s:Ξ}(c:A.handled=none)(pl:PlainL s.heap a VE)(h:∀(h':ι)(k:Nat),(∀b o,s.heap.get? b=↑o->h'.get? b=↑o)->Q none {s with heap:=h',toks:=k}):wpAny (model prog w) A (getAttr? (.ref a) "keys") Q E s:=by
 let(o,n,x,hc,D,S):=pl;let(p,g,d,t,O):=s;have T:({p,g,d,t,O}:Ξ).TypeIs (.ref a) "list":={_,x,hc}
 have f1:=sub_AttributeError;have f2:=F.slot_list_getattribute.lookup;have f3:=F.slot_list_getattribute.bind<|.ref a;have f5:=adX;unfold getAttr? getAttrBy? getAttrBy
 repeat (any_goals (first|assumption|wp_step))
 rw[hc]
 repeat (any_goals (first|assumption|wp_step))
 refine vX F.slot_list_getattribute.plain F.entry_list_ga<|F.slot_list_getattribute.check _ _ _ _ _ _ _ _ (show(⟨p,g,d,t+1,O⟩:Ξ).TypeIs (.ref a) "list"from⟨_,x,hc⟩) (F.args_list_getattribute_2 _ _)<|YX (s:=⟨p,g,d,t+1,O⟩) (A:=A.in1) c x hc S D λh' k e H=>?_;let(i,u,f):=H.there;dsimp only;unfold getattributeRaised
 repeat (any_goals (first|assumption|wp_step))
 exact h h' k H.keeps
def Wi:plainId "dict.update.loop"=true:=by decide +kernel
def Xn:entryFor table "dict.update.loop"=↑Builtin.«dict.update.loop»:=entryFor_of_tree (by kernel_rfl)
variable {K:Type}[DecidableEq K]{knd:HeapKind prog w K}
section
variable {R:Result->Ξ->Prop}{I:Ψ}{fp wr:Γ Ψ}{G:Array GenState->Array GenState->Prop}{n:Nat}{P:Nat->Θ->Prop}{St:Nat->Ξ->Prop}
def loop(W:WalksS prog w A.in1 I fp wr G n P St)(S:Ψ)(f:S∉fp)(a:Nat->ι->Prop)
  (Y:∀i h h',a i h->(∀b o,b∉wr->h.get? b=↑o->h'.get? b=↑o)->a i h')
  (D:∀i v(s:Ξ),i<n->P i v->a i s.heap->∃p o m k x,v=.ref p/\s.heap.get? p=↑o/\o.cls=.type "tuple"/\o.data=.seq #[k,x] m/\∀(Q:Unit->Ξ->Prop)(E:Θ->Ξ->Prop),(∀h' q,s.toks<=q->Heap.SameBut S s.heap h'->a (i+1) h'->Q () {s with heap:=h',toks:=q})->wpAny (model prog w) A.in1 (dictSet S k x) Q E s) :
  ∀(k i:Nat)(z:Int)(s:Ξ),n-i=k->i<=n->St i s->a i s.heap->(∀s',Moved (S::wr) G s s'->a n s'.heap->R (.ok<|.ret .none) s')->codeAny (model prog w) A (.builtin "dict.update.loop" {[.ref S,.ref I,rawInt z,.none],[]}) R s:=by
 have F:S∉wr:=λh=>f<|W.sub _ h;have up:∀b∈wr,b∈S::wr:=λb H=>zC _ H;intro k
 induction k with
 |zero =>
  intro i z s hk L u d hR;obtain rfl:i=n:=by lia
  refine kE Xn ?_;rw[Around.under_plainId Wi _];show wpAny _ A.in1 (pyNext (.ref I) >>= _) _ _ s;refine zV<|W.done s _ _ u λs' M=>?_;exact zV (zW<|zW<|hR s' (M.mono up)<|Y _ _ _ d M.heap)
 |succ k N =>
  intro i z s hk L u d hR;have c:i<n:=by lia
  refine kE Xn ?_;rw[Around.under_plainId Wi _];show wpAny _ A.in1 (pyNext (.ref I) >>= _) _ _ s;refine zV<|W.item i s _ _ c u λv s' C B M=>?_;let(p,o,m,k,x,rfl,O,hc,J,t):=D i v s' c C<|Y _ _ _ d M.heap;dsimp only;refine zV<|xX<|zV<|wpAny_tryCatch ?_;unfold Builtin.Dict.pairItems;refine zV<|wI (T:="tuple") {o,O,hc} ?_;rw[yL<|by decide];refine zV<|kG O J<|zW ?_;refine xX<|t _ _ λh' q K r g=>?_;refine zW {plainId_quiet Wi _,N (i+1) _ _ (by lia) c (W.frame _ s' _ _ B K λb H o e=>?_) g λy l j=>?_}
  .rw[r.2 b (λh:b=S=>f (by rw[<-h];exact H))];exact e
  .refine hR y (Moved.trans W.gtrans ((M.mono up).then_heap K λb o H e=>?_) l) j;rw[r.2 b (λh:b=S=>H (by rw[h];exact zE))];exact e
end
abbrev ob:Obj:={cls:=.type "dict",data:=.dict #[]}
def YY{Q:Θ->Ξ->Prop}{s:Ξ}{a:Array Θ}(y:A.handled=none)(pl:PlainL s.heap l a)(I:Nat->ι->Prop)
  (X:∀h':ι,(∀b o,s.heap.get? b=↑o->h'.get? b=↑o)->h'.get? s.heap.objs.size=↑ob->I 0 h')
  (R:∀i h h' x,s.heap.objs.size<x->I i h->(∀b o,b≠x->h.get? b=↑o->h'.get? b=↑o)->I i h')
  (D:∀i v(s':Ξ),a[i]?=↑v->I i s'.heap->∃p o m k x,v=.ref p/\s'.heap.get? p=↑o/\o.cls=.type "tuple"/\o.data=.seq #[k,x] m/\∀(Q:Unit->Ξ->Prop)(E:Θ->Ξ->Prop),(∀h' t,s'.toks<=t->Heap.SameBut s.heap.objs.size s'.heap h'->I (i+1) h'->Q () {s' with heap:=h',toks:=t})->wpAny (model prog w) A.in1.in1 (dictSet s.heap.objs.size k x) Q E s')
  (h:∀(h':ι)(t:Nat),I a.size h'->(∀b o,b<s.heap.objs.size->s.heap.get? b=↑o->h'.get? b=↑o)->Q (.ref s.heap.objs.size) {s with heap:=h',toks:=t}) :
  wpAny (model prog w) A (call (.type "dict") [.ref l]) Q E s:=by
 refine callType_codes (Q₁:=λobj J=>obj=.ref s.heap.objs.size/\J={s with heap:=s.heap.push ob}) F.kt_called_dict (F.kt_typeCall_dict_1 _) F.entry_dict_init (kt_code_dict_new _ {rfl,rfl}) ?_;rintro obj J ⟨rfl,rfl⟩;have Y:(s.heap.push ob).get? s.heap.objs.size=↑ob:=zX _ rfl;have u:Shared.TypeIs {s with heap:=s.heap.push ob} (.ref s.heap.objs.size) "dict":={_,Y,rfl}
 have P:PlainL (s.heap.push ob) l a:=let ⟨o,n,e,r⟩:=pl;{o,n,zU _ e,r};refine{u,F.args_dict_init_2 _ _,?_};unfold Builtin.«dict.__init__»;refine zV ?_;unfold Builtin.Dict.selfAndRest;refine zV<|wpAny_notOrdered_dict u ?_;show wpAny _ _ (pure (s.heap.objs.size,[Value.ref l])) _ _ _;refine zW ?_;show wpAny _ _ (Builtin.Dict.updateFrom "dict.__init__" s.heap.objs.size (.ref l) [] .none) _ _ _;unfold Builtin.Dict.updateFrom;have L:Shared.TypeIs {s with heap:=s.heap.push ob} (.ref l) "list":=let ⟨o,n,e,c,_⟩:=P;{o,e,c};refine zV<|wI L ?_;rw[yL<|by decide];refine zV<|ZA (s:={s with heap:=s.heap.push ob}) (A:=A.in1.in1) y P λH t G=>?_;simp?[wF,xH];refine zV<|wC ?_;have S:l<s.heap.objs.size:=let ⟨o,n,e,_⟩:=pl;zY e;have N:H.get? s.heap.objs.size=↑ob:=G _ _ Y;have g:s.heap.objs.size<H.objs.size:=zY N;have K:∀b o,s.heap.get? b=↑o->H.get? b=↑o:=λb o e=>G _ _<|zU _ e;have d:PlainL H l a:=let ⟨o,n,e,r⟩:=pl;{o,n,K _ _ e,r};refine zV<|qK (s:={s with heap:=H,toks:=t}) d.isList<|zW {plainId_quiet Wi _,?_};have j:l≠H.objs.size:=yR<|wL S g;have q:s.heap.objs.size∉[H.objs.size,l]:=by
  simp?[zR,yF,xU,not_or];exact{yR g,jH S}
 refine loop (A:=A.in1) ((Walks.list (A:=A.in1.in1) y H.objs.size l j a).toS) s.heap.objs.size q I (λi h h' C k=>R i h h' _ g C λb o B e=>k b o (λz=>B (by rw[yJ]at z;exact z)) e) (λi v s' C hP Z=>D i v s' hP Z) (a.size-0) 0 0 _ (by lia) (xV _) {{_,zX _ rfl,rfl,rfl},d.isList.push _} (X _ (λb o e=>zU _<|K b o e)<|zU _ N) λs' M f=>?_;let(h',W,U,T,O):=s';obtain rfl:W=s.gens:=M.gens;obtain rfl:U=s.drawn:=M.drawn;obtain rfl:O=s.os:=M.os;refine{rfl,h h' T f λb o B e=>M.heap b o ?_<|zU _<|K b o e};simp?[zR,yF,xU,not_or];exact{yR B,yR<|wL B g}
end
end Dd
namespace Dl
open PySem L2 PySem.Spec PyProof.Rows
variable {X:Cx}
abbrev P3(X:Cx):=tupleKind<|eH X.prog X.w
def zp{P:ε}{w:δ}:∀{ns:Γ Int}{us:Γ Θ},aG (ns.map V.int) us->ItemsAre (eH P w) (ns.map Sum.inl) us
 |[],_,r=>by cases r;exact .nil
 |n::ns,_,r=>by
  rw[zI]at r;cases r with
  |cons h t=>let(T,rfl):=h;exact .cons (yj P w n T)<|zp t
def wR{pins:Γ (Ψ×Obj)}{σ:L2.St}{H:Hp}{s:Ξ}{ns:Γ Int}{b:Ψ}(I:Inv X pins σ H s)(h:gm X.K H b (ns.map V.int)):(P3 X).is s.heap (ns.map Sum.inl) b:=by
 let(E,r,(o,a,c,n,d),_):=I.tuple h;exact{o,E.toArray,n,a,c,d,by simpa using zp r}
def tQ{X:Cx}{pins:Γ (Ψ×Obj)}{σ:L2.St}{H HF:Hp}{s:Ξ}(I:Inv X pins σ H s)(sm:az HF H):∀{l:Γ (D×D)}{xs:Γ (Γ tN×Ψ×Θ)},pI X.K HF l xs->∀x∈xs,(P3 X).is s.heap x.1 x.2.1
 |[],_,h,x,a=>by cases(show _=[]from h);cases a
 |p::l,_,⟨N,n,t,b,r,f,c,d,e⟩,x,a=>by
  subst c;rcases List.mem_cons.mp a with rfl|a
  .exact wR I<|aB sm d
  .exact tQ I sm e x a
def vx:∀{a b:Γ Int},(a.map Sum.inl:Γ tN)=b.map Sum.inl->a=b
 |[],[],_=>rfl
 |[],_::_,h=>by simp at h
 |_::_,[],h=>by simp at h
 |x::a,y::b,h=>by
  rw[zI,zI]at h;injection h with H c
  injection H with H
  rw[H,vx c]
def gJ(ns:Γ Int):cC (iK ns)=↑ns:=dc ns
def AM(ns:Γ Int)(n:Int):Γ (D×D)->Int
 |[]=>n
 |p::l=>if cC p.1=↑ns then(match p.2 with|.int v=>v|_=>n)else AM ns n l
def Ah{K:Φ}{ns:Γ Int}{n:Int}{t:Tok}:∀{l:Γ (D×D)}{xs:Γ (Γ tN×Ψ×Θ)},pI K HF l xs->∃u,((atKey xs<|ns.map Sum.inl).map (·.2)).getD (.int n t)=.int (AM ns n l) u
 |[],_,h=>by cases(show _=[]from h);exact{t,rfl}
 |p::l,_,⟨k,v,T,b,r,H,a,d,c⟩=>by
  subst H a;let(u,i):=Ah (ns:=ns) (n:=n) (t:=t) c;unfold atKey at i ⊢;unfold AM;rw[List.find?_cons,gJ];by_cases e:k=ns
  .subst e;exact{T,by simp}
  .have E:¬(k.map Sum.inl:Γ tN)=ns.map Sum.inl:=λz=>e<|vx z;rw[yN λz=>e<|xD z,zZ E];exact{u,i}
def NS(m:X.A.in1.in1.in1.units<cLine):Mt X "dict.get" (λx vs H Q=>∃ (HF:Hp) (a:Ψ) (xs:Γ (Γ tN×Ψ×Θ)) (l:Γ (D×D)) (b:Ψ) (ns:Γ Int) (n:Int),x=.ref a/\vs=[.ref b,.int n]/\az HF H/\HF a=↑(.dT xs)/\pI X.K HF l xs/\gm X.K HF b (ns.map V.int)/\Q (.int<|AM ns n l) H):=by
 intro p s J H x vs v C Q I y r h;let(HF,a,xs,l,b,ns,n,rfl,rfl,sm,j,d,B,q):=h;cases y;obtain⟨u,U,rfl,r1,r⟩:∃u U,C=u::U/\RelV (.ref b) u/\aG [.int n] U:=by cases r with|cons h t=>exact{_,_,rfl,h,t}
 let(z,rfl,R):=r.one;cases r1;let(t,rfl):=R;let(Z,k,o,S,E,g,G,c,f,i):=(show dX X.prog X.w H s.heap a (.dT xs)from I.VH a _<|sm _ _ j)
 refine call_meetsIn F.slot_dict_get {o,g,G.1} F.entry_dict_get (F.args_dict_get_3 _ _ _) (meetsH_dict_get_default (P3 X) a b k<|.int n t) {?_,_,xs,wR I<|aB sm B,{o,S,E,g,G,c,f,tQ I sm d,i},?_}
 .exact Nat.lt_of_succ_lt<|Nat.lt_of_succ_lt m
 .let(u,e):=Ah (K:=X.K) (HF:=HF) (ns:=ns) (n:=n) (t:=t) d;rw[e];exact{.int<|AM ns n l,H,I.tok _,{_,rfl},q}
def M7:D->D->D->Δ D
 |.dict l,k,.int n=>(cC k).map λs=>.int (AM s n l)
 |_,_,_=>none
def Jw(fo fk f:Env->Δ D):Env->Δ D:=λa=>(fo a).bind λx=>(fk a).bind λy=>(f a).bind λz=>M7 x y z
def L5(E:X.A.in1.in1.in1.units<cLine){fo fk N:Env->Δ D}(W:attributeBase o "get" X.env (eval o X.env)=eval o X.env)
  (w:((backTo cpos<|starEach [k,n] X.env).all (λx=>!x.1)&&(backToKw cpos<|keywordEach [] X.env).all (λx=>x.1.isSome)&&decide ([k,n].length+([]:Γ Keyword).length+(if([]:Γ Keyword).isEmpty then 0 else 1)<30))=true)
  (I:(apos.endLine==cpos.line)=true)(hs:starEach [k,n] X.env=(false,eval k X.env)::starEach [n] X.env)(Z:starEach [n] X.env=(false,eval n X.env)::starEach [] X.env)(O:DE X o fo)(hk:DE X k fk)(C:DE X n N):DE X (.Call (.Attribute o "get" apos) [k,n] [] cpos) (Jw fo fk N):=
 aF (ni PySem.F.plainAttrs_dict PySem.F.slot_dict_get PySem.F.type_dict_get (NS E) O (ba hk (ba C cf Z) hs) W w I hs (by rw[Z];rfl)) λσ H Q z=>by
  let(s,j,d,sm,e,f,q):=z;let(x,J,f):=bs f;let(y,Y,f):=bs f;let(z,K,i):=bs f;refine{s,j,x,sm,e,J,λv1 P t g r1=>?_};obtain⟨l,n,rfl,rfl⟩:∃l n,x=.dict l/\z=.int n:=by
   cases x<;>try cases i
   cases z<;>try cases i
   exact{_,_,rfl,rfl}
  let(S,u,rfl):=ai (show(cC y).map _=↑d from i);simp?[Rep]at r1;let(a,M,rfl,m,T):=r1;refine{.inr<|.inr<|.inl ⟨rfl,.inr ⟨_,g.fh _ _ m⟩⟩,t,j,y,g.fh,e.mono g.ff,Y,λv2 H2 U G r=>?_};rw[dk u]at r;simp?[Rep]at r;let(b,vs,rfl,B,L):=r;have:=iI L;subst this;refine{U,j,.int n,G.fh,e.mono (g.trans G).ff,K,λv3 p v c R=>?_};simp?[Rep]at R;exact{v,a,M,l,b,S,n,rfl,by rw[R],c.fh,c.ff _ _<|G.ff _ _ m,(T.mono G.ff).mono c.ff,aB c.ff B,q _ p v ((g.trans G).trans c)<|by simp[Rep]}
def Av:D->Δ (Γ Int×Int)
 |.tuple [k,.int v]=>(cC k).map (·,v)
 |_=>none
def Br(h:Av d=↑n):d=.tuple [iK n.1,.int n.2]:=by
 unfold Av at h;split at h
 .let(k,H,rfl):=ai h;rw[dk H]
 .cases h
def G8:Γ D->Δ (Γ<|Γ Int×Int)
 |[]=>↑[]
 |d::s=>(Av d).bind λn=>(G8 s).map λr=>n::r
def jr(r:Γ (Γ Int×Int)):D:=.dict<|r.map λp=>(iK p.1,.int p.2)
def CG:D->Δ D
 |.list d=>(G8 d).bind λr=>if(r.map (·.1)).Nodup/\r.length<1000 then↑(jr r)else none
 |_=>none
def uq:∀{ds:Γ D}{r:Γ (Γ Int×Int)},G8 ds=↑r->ds=r.map λn=>.tuple [iK n.1,.int n.2]
 |[],r,h=>by cases h;rfl
 |d::ds,r,h=>by
  let(n,H,h):=bs h;let(R,a,rfl):=ai h;rw[Br H,uq a];rfl
def Dv{K:Φ}(HF:Hp)(ad:Nat->Ψ)(t:Nat->Tok):∀(l:Γ (Γ Int×Int))(i:Nat),(∀j,j<l.length->gm K HF (ad<|i+j) ((l.getD j ([],0)).1.map V.int))->pI K HF (l.map λp=>(iK p.1,.int p.2)) ((List.range l.length).map λj=>((l.getD j ([],0)).1.map Sum.inl,ad<|i+j,.int (l.getD j ([],0)).2<|t<|i+j))
 |[],_,_=>rfl
 |p::l,i,h=>by
  refine{p.1,p.2,t i,ad i,_,rfl,?_,h 0<|Nat.succ_pos _,Dv HF ad t l (i+1) λj H=>?_}
  .rw[zL,List.range_succ_eq_map,zI,zM];refine jB _<|yH λj _=>?_;show _=_;simp?[Function.comp,vZ,Nat.succ_eq_add_one,show i+(j+1)=i+1+j by lia]
  .have:=h (j+1) (by rw[zL];lia)
   rwa [vZ,show i+(j+1)=i+1+j by lia]at this
def JO(hc:X.calm=true)(hu:X.A.in1.in1.in1.units<cLine)(B:nC X "dict" (.type "dict"))(h:DE X e f)(he:starEach [e] X.env=(false,eval e X.env)::starEach [] X.env:=by rfl) :
  DE X (.Call (.Name "dict" p) [e] [] pos) (f1 CG f):=by
 intro pins s σ H Q I z;let(HF,ρ,d,sm,eo,F,q):=z;let(x,U,F):=bs F;cases x<;>try cases F
 rename_i ds;let(r,hr,F):=bs F;by_cases hn:(r.map (·.1)).Nodup/\r.length<1000;rotate_left
 .rw[yN hn]at F;cases F
 rw[yL hn]at F;cases F;let(nd,hz):=hn;have YA:=uq hr;refine qX<|fO I B.gl B.mg B.bt<|qQ (b0 (v9 h BF he pos pins s σ H _ I {HF,ρ,[.list ds],sm,eo,by simp[aa,ag,U],λvs Z G N r1=>({G,N,r1}:∃G,bc HF H G Z/\ar X.K G [.list ds] vs)}) λus S z=>?_) he rfl;let(vs,Z,w,rv,G,N,r1):=z;let(v,vr,rfl,a1,b1):=r1.cons_inv;rw[b1.nil_inv]at rv;let(u,rfl,rx):=vals1 rv;simp?[Rep]at a1;let(la,ws,rfl,hq,rr):=a1;cases rx;let(C,O,pl,hsz):=w.list<|N.fh.seq hq;have hlen:C.length=r.length:=by
  have P:=O.length;have M:=rr.length;rw[YA,zD]at M;lia
 have W:∀i,i<r.length->∃bt:Ψ×Tok,∃p o m,C[i]?=↑(.ref p)/\S.heap.get? p=↑o/\o.cls=.type "tuple"/\o.data=.seq #[.ref bt.1,.int (r.getD i ([],0)).2 bt.2] m/\gm X.K G bt.1 ((r.getD i ([],0)).1.map V.int):=λi g=>by
  have Yh:i<C.length:=by lia
  obtain⟨y,Y⟩:∃y,ws[i]?=↑y:={_,zK (by rw[O.length];exact Yh)}
  let(v',l,ry):=O.get Y;let(d,hd,rd):=rr.get Y;rw[YA,zO]at hd;let(n,hn',rfl):=ai hd;have er:r.getD i ([],0)=n:=by rw[zG,hn'];rfl
  simp?[Rep]at rd;let(p,us,rfl,hp,rp):=rd;cases ry;let(c1,r1,rfl,k1,rp):=rp;let(c2,r2,rfl,k2,rp):=rp;cases(show r2=[]from rp);have k2:c2=.int n.2:=k2;subst k2;let(b,ws',rfl,hb,rb):=k1;rw[iI rb]at hb;let(its',R,(o,h1,h2,m,h3),_):=w.tuple<|aB N.fh hp;cases R with
  |cons z1 R =>
   cases R with
   |cons z2 R =>
    cases R;cases z1;let(t,rfl):=z2;exact{(b,t),p,o,m,l,h1,h2,by rw[er];exact h3,by rw[er];exact hb}
 let D:Nat->Ψ×Tok:=λi=>if h:i<r.length then Classical.choose (W i h)else(0,0)
 have L:∀i,i<r.length->∃p o m,C[i]?=↑(.ref p)/\S.heap.get? p=↑o/\o.cls=.type "tuple"/\o.data=.seq #[.ref (D i).1,.int (r.getD i ([],0)).2 (D i).2] m/\gm X.K G (D i).1 ((r.getD i ([],0)).1.map V.int):=λi g=>by
  have:=Classical.choose_spec<|W i g;have eb:D i=Classical.choose (W i g):=dif_pos g;rw[eb];exact this
 let en:Nat->Γ tN×Ψ×Θ:=λj=>((r.getD j ([],0)).1.map Sum.inl,(D j).1,.int (r.getD j ([],0)).2 (D j).2)
 have aaQ:∀{c:ι},(∀b o,S.heap.get? b=↑o->c.get? b=↑o)->∀j,j<r.length->(P3 X).is c (en j).1 (D j).1:=λ{c}k j J=>by
  let(p,o,m,_,_,_,_,T):=L j J;let(o',i',n',k1,k2):=wR w<|aB N.fh T;exact{o',i',n',k _ _ k1,k2}
 refine Dd.YY (w.ok.hd hc) pl (λi c=>c.DictOfH (P3 X) S.heap.objs.size ((List.range i).map en)/\i<=r.length/\∀b o,S.heap.get? b=↑o->c.get? b=↑o)
  (λc k0 hS=>{{_,#[],0,hS,{rfl,rfl,rfl},rfl,rfl,λx U=>(by cases U),List.nodup_nil},xV _,k0}) (λi h1 h2 x U ⟨⟨o,es,ep,P,M,e3,e4,T,e6⟩,z2,z3⟩ k=>?_) (λi v s' hv ⟨z1,z2,z3⟩=>?_) λc tk ⟨z1,z2,z3⟩ kp=>?_
 .have k':∀b o,S.heap.get? b=↑o->h2.get? b=↑o:=λb o e=>k _ _ (yR<|wL (zY e) U)<|z3 _ _ e;refine{{o,es,ep,k _ _ (yR U) P,M,e3,e4,λy Y=>?_,e6},z2,k'};let(j,J,rfl):=List.mem_map.mp Y;exact aaQ k' j (by have:=List.mem_range.mp J;lia)
 .have g:i<r.length:=by
   have:=(List.getElem?_eq_some_iff.mp (show C[i]?=↑v by simpa using hv)).1;lia
  let(p,o,m,P,M,e3,e4,T):=L i g;have ev:v=.ref p:=by
   have l:C[i]?=↑v:=by simpa using hv
   rw[P]at l;cases l;rfl
  refine{p,o,m,_,_,ev,z3 _ _ M,e3,e4,λQ E q=>?_};refine wpAny_dictSet_heap (hsz:=by rw[zD,zS,qT];lia) (show(P3 X).room X.A.in1.in1 from Nat.lt_of_succ_lt hu) (aaQ z3 i g) z1 λc dd sb=>q c _ (jU _ _) sb {?_,g,λb o e=>(sb.2 b<|yR<|zY e).trans<|z3 _ _ e};have:storedH ((List.range i).map en) (en i).1 (D i).1 (.int (r.getD i ([],0)).2 (D i).2)=(List.range<|i+1).map en:=by
   rw[vP,qZ];unfold storedH;rw[yN]
   .rfl
   .intro z;unfold atKey at z;rw[Option.isSome_map,List.find?_isSome]at z;let(y,Y,e):=z;let(j,J,rfl):=List.mem_map.mp Y;have J:=List.mem_range.mp J;have e:=vx<|yQ e;rw[List.nodup_iff_pairwise_ne,List.pairwise_iff_getElem]at nd;refine nd j i (by rw[zD];lia) (by rw[zD];exact g) J ?_;rw[List.getElem_map,List.getElem_map];rwa[zG,zG,zK g,zK (show j<r.length by lia)]at e
  rw[this]at dd;exact dd
 .rw[show C.toArray.size=r.length by simp[hlen]]at z1;let(o,es,ep,P,M,e3,e4,T,e6):=z1;have big:sysModules<S.heap.objs.size:=wL (by decide) (show mainGlobals<S.heap.objs.size from(w.mod.glob.keeps w.bk).lt);have I2:=w.laid (a:=S.heap.objs.size) (o:=.dT<|(List.range r.length).map en) (h':=c) (t':=tk) z3 (yM _) {by rw[zD,zS,qT];lia,beq_eq_false_iff_ne.mpr<|jM<|yR big,o,es,ep,P,M,e3,e4,e6};have hD1:Z S.heap.objs.size=none:=w.VH.fresh<|yM _;have g2:bc G Z (upd G S.heap.objs.size<|.dT<|(List.range r.length).map en) (upd Z S.heap.objs.size<|.dT<|(List.range r.length).map en):=.new N.fh hD1;refine{.ref _,_,I2,rfl,q _ _ _ (N.trans g2) ?_};unfold jr;simp?[Rep];refine{_,_,rfl,av,?_};have:=Dv (K:=X.K) (upd G S.heap.objs.size<|.dT<|(List.range r.length).map en) (λi=>(D i).1) (λi=>(D i).2) r 0 λj J=>by
   let(p,o,m,_,_,_,_,T):=L j J;rw[jC];exact aB g2.ff T
  simp?[jC]at this;exact this
end Dl
namespace Ob
open PySem L2 PySem.Spec PyProof.Rows Dl
def cut(H B:Hp):Hp:=λb=>match B b with|none=>H b|some _=>none
def e9(h:cut H B b=↑o):H b=↑o/\B b=none:=by
 unfold cut at h;split at h
 .rename_i e;exact{h,e}
 .cases h
def je(h:H b=↑o)(e:B b=none):cut H B b=↑o:=by
 unfold cut;rw[e];exact h
def rK(e:B b=↑u):cut H B b=none:=by
 unfold cut;rw[e]
def Jk(H B a:Hp):Hp:=λb=>match cut H B b with|some o=>↑o|none=>a b
def GO(h:Jk H B B' b=↑o):cut H B b=↑o\/B' b=↑o:=by
 unfold Jk at h
 grind
def MM(h:cut H B b=↑o):Jk H B B' b=↑o:=by
 unfold Jk;rw[h]
def IS(h:cut H B b=none):Jk H B B' b=B' b:=by
 unfold Jk;rw[h]
inductive Fd where|val (d:D)|lst (ds:List D)
abbrev Fs:=Γ<|Str×Fd
inductive ju(K:W.Frag)(HF B:Hp):Fs->List (Str×V)->List Addr->Prop
 |nil:ju K HF B [] [] []
 |val {f:Str}{d:D}{v:V}{st:Fs}{fs:Γ (Str×V)}{as:Γ Ψ}(r:Rep K HF d v) (h:ju K HF B st fs as):ju K HF B ((f,.val d)::st) ((f,v)::fs) as
 |lst {f:Str}{ds:Γ D}{b:Ψ}{us:Γ V}{st:Fs}{fs:Γ (Str×V)}{as:Γ Ψ}(e:B b=↑(.lst us)) (r:ar K HF ds us) (h:ju K HF B st fs as):ju K HF B ((f,.lst ds)::st) ((f,.ref b)::fs) (b::as)
def ju.imp{K:Φ}{st:Fs}{fs:Γ _}(s:az HF VD)(e:∀b∈as,∀us,B b=↑(.lst us)->B' b=↑(.lst us))(h:ju K HF B st fs as):ju K VD B' st fs as:=by
 induction h with
 |nil=>exact .nil
 |val r h i=>exact .val (r.mono s) (i e)
 |lst E r h i=>exact .lst (e _ zE _ E) (r.mono s)<|i λb H=>e b<|zC _ H
structure EK(K:W.Frag)(HF B:Hp)(C a:Addr)(st:Fs):Prop where
 ex:∃dx fs as,B a=↑(.ins C dx fs)/\B dx=↑(.own a)/\ju K HF B st fs as/\as.Nodup
def EK.mono{K:Φ}{st:Fs}(h:EK K HF B C a st)(s:az HF VD):EK K VD B C a st:=
 let ⟨d,fs,A,e,E,b,c⟩:=h.ex
 {d,fs,A,e,E,b.imp s λ_ _ _ z=>z,c}
structure Oj where
 C:Ψ
 st:Fs
structure nO(K:W.Frag)(VA VB:Hp)(pa:List Addr)(HF H:Hp)(ρ:ao)(os:List Oj)(σ:L2.St)(HB:Hp)(ad:Nat->Addr)(Bs:Nat->Hp):Prop where
 S:gS K VA ⟨HB,ad⟩ HF H ρ σ
 h0:az VB HB
 at_:∀k o,os[k]?=↑o->EK K HF (Bs k) o.C (ad k) o.st
 sb:∀k,k<os.length->az (Bs k) HB
 fr:∀k,k<os.length->∀b o,Bs k b=↑o->VB b=none/\VA b=none
 dj:∀j k,j<os.length->k<os.length->j≠k->∀b o,Bs j b=↑o->Bs k b=none
 pl:pa.length<=os.length
 pa:∀k a,pa[k]?=↑a->ad k=a
def fT(K:Φ)(VA VB:Hp)(pa:Γ Ψ)(HF H:Hp)(ρ:ao)(os:Γ Oj)(σ:L2.St):Prop:=∃b a B,nO K VA VB pa HF H ρ os σ b a B
section
variable {K:Φ}{VA VB HF H:Hp}{pa:Γ Ψ}{ρ:ao}{os:Γ Oj}{σ:L2.St}{HB:Hp}{ad:Nat->Ψ}{Bs:Nat->Hp}
def nO.pure(h:nO K VA VB pa HF H ρ os σ HB ad Bs)(S:gS K VA ⟨HB,ad⟩ VD H' ρ' σ')(s:az HF VD):nO K VA VB pa VD H' ρ' os σ' HB ad Bs:=
 {S,h.h0,λk o e=>(h.at_ k o e).mono s,h.sb,h.fr,h.dj,h.pl,h.pa}
def nO.nf(h:nO K VA VB pa HF H ρ os σ HB ad Bs)(hk:k<os.length)(e:Bs k b=↑o):HF b=none:=by
 cases z:HF b with
 |none=>rfl
 |some u =>
  rcases h.S.gr.nw b u z with q|q
  .rw[(h.fr k hk b o e).2]at q;grind
  .have:=h.sb k hk b o e
   grind
def Aq(S:gS K VA ⟨HB,ad⟩ HF H ρ σ)(r:bc VA U VD H')(f:az HF VD)(e:∀b o,HB b=none->H b=↑o->H' b=↑o/\U b=none/\(HF b=none->VD b=none))
  (A:∀(i k:Nat),ρ[i]?=↑(Slot.obj k)->ad' k=ad k):gS K VA {U,ad'} VD H' ρ σ where
 gr:=r
 val:=λi d h=>let ⟨v,a,b⟩:=S.val i d h;{v,a,b.mono f}
 own:=λi s h=>by
  let(a,p,c,g,j,l,E):=S.own i s h;let(z1,z2,z3):=e a _ l g;exact{a,p,c,z1,z3 j,z2,E.mono f}
 inj:=S.inj
 len:=S.len
 tb:=S.tb.mono f
 tab:=λi n h=>by
  let(a,m,c,g,j,l,E):=S.tab i n h;let(z1,z2,z3):=e a _ l g;exact{a,m,c,z1,z3 j,z2,E.1,E.2.mono f}
 one:=S.one
 ob:=λi k h=>by
  show σ[i]?=↑(↑(.ref<|ad' k));rw[A i k h];exact S.ob i k h
structure Dm(HF H B VD H' B':Hp):Prop where
 gr:bc HF (cut H B) VD H'
 sb:az B' H'
 nw:∀b o,B' b=↑o->VD b=none/\cut H B b=none
def nO.turn(h:nO K VA VB pa HF H ρ os σ HB ad Bs)(hk:os[k]?=↑ob)(t:Dm HF H (Bs k) VD H' B')(q:EK K VD B' ob.C (ad k) U) :
  nO K VA VB pa VD H' ρ (os.set k {ob.C,U}) σ (Jk HB (Bs k) B') ad (λj=>if j=k then B' else Bs j):=by
 have l:k<os.length:=(List.getElem?_eq_some_iff.mp hk).1;have g:=h.S.gr;have a:=g.hh;have up:∀b o,cut HB (Bs k) b=↑o->cut H _ b=↑o:=λb o e=>let ⟨E,d⟩:=e9 e;je (a b o E) d;have G:bc VA (Jk HB (Bs k) B') VD H':=by
  refine{λb o e=>?_,g.ff.trans t.gr.ff,t.gr.fh,λb o e=>?_}
  .rcases GO e with z|z
   .exact t.gr.hh b o<|up b o z
   .exact t.sb b o z
  .have p:B' b=none:=by
    cases z:B' b with
    |none=>rfl
    |some u=>rw[(t.nw b u z).1]at e;grind
   have fin:HB b=none\/cut H _ b=none->Jk HB _ B' b=none:=λz=>by
    have:cut HB (Bs k) b=none:=by
     cases c:cut HB _ b with
     |none=>rfl
     |some u =>
      rcases z with z|z
      .have:=(e9 c).1;rw[z]at this;cases this
      .rw[up b u c]at z;cases z
    rw[IS this];lia
   rcases t.gr.nw b o e with z|z
   .rcases g.nw b o z with y|y<;>grind
   .exact .inr<|fin<|.inr z
 refine{Aq h.S G t.gr.ff (λb o E d=>?_) λ_ _ _=>rfl,λb o e=>?_,λj o e=>?_,λj J b o e=>?_,λj J b o e=>?_,λi j I J n b o e=>?_,by rw[yC];exact h.pl,h.pa}
 .have B:Bs k b=none:=by
   cases z:Bs k b with
   |none=>rfl
   |some u=>have:=h.sb k l b u z;rw[E]at this;cases this
  have ch:=je d B;refine{t.gr.hh b o ch,?_,λf=>t.gr.Wa f ch};have:cut HB (Bs k) b=none:=by
   cases c:cut HB _ b with
   |none=>rfl
   |some u=>have:=(e9 c).1;rw[E]at this;cases this
  rw[IS this];cases z:B' b with
  |none=>rfl
  |some u=>have:=(t.nw b u z).2;rw[ch]at this;cases this
 .refine MM<|je (h.h0 b o e) ?_;cases z:Bs k b with
  |none=>rfl
  |some u=>have:=(h.fr k l b u z).1;rw[e]at this;cases this
 .rw[xI]at e;by_cases J:k=j
  .grind
  .rw[yN J]at e;rw[yN λz=>J z.symm];exact(h.at_ j o e).mono t.gr.ff
 .rw[yC]at J;by_cases X:j=k
  .rw[yL X]at e;have c:=(t.nw b o e).2;have:cut HB (Bs k) b=none:=by
    cases z:cut HB _ b with
    |none=>rfl
    |some u=>rw[up b u z]at c;cases c
   rw[IS this];lia
  .rw[yN X]at e;exact MM<|je (h.sb j J b o e)<|h.dj j k J l X b o e
 .rw[yC]at J;by_cases X:j=k
  .rw[yL X]at e;let(N,m):=t.nw b o e;have z1:VB b=none:=by
    cases z:VB b with
    |none=>rfl
    |some u =>
     cases y:Bs k b with
     |none=>rw[je (a b u<|h.h0 b u z) y]at m;lia
     |some w=>rw[(h.fr k l b w y).1]at z;grind
   refine{z1,?_};cases z:VA b with
   |none=>rfl
   |some u=>rw[t.gr.ff b u<|g.ff b u z]at N;lia
  .rw[yN X]at e;exact h.fr j J b o e
 .rw[yC]at I J;by_cases x:i=k
  .rw[yL x]at e;rw[yN λz=>n<|x.trans z.symm];cases z:Bs j b with
   |none=>rfl
   |some u =>
    have:=(t.nw b o e).2;rw[je (a b u<|h.sb j J b u z)<|h.dj j k J l (λz=>n (x.trans z.symm):j≠k) b u z]at this;lia
  .rw[yN x]at e;by_cases X:j=k
   .rw[yL X];cases z:B' b with
    |none=>rfl
    |some u =>
     have:=(t.nw b u z).2;rw[je (a b o<|h.sb i I b o e)<|h.dj i k I l x b o e]at this
     grind
   .rw[yN X];exact h.dj i j I J n b o e
end
inductive Nz where
 |nx (ρ:ao) (os:Γ Oj)|rt (d:D) (os:Γ Oj)
def Sw(K:Φ)(VA VB:Hp)(pa:Γ Ψ)(HF:Hp)(E:Ends):Nz->Prop
 |.nx b L=>∀a H D,fT K VA VB pa D H b L a->az HF D->E.nx a H
 |.rt d L=>∀v H D,fT K VA VB pa D H [] L []->Rep K D d v->E.rt v H
abbrev OG:=ao->Γ Oj->Δ Nz
def tO(K:Φ)(VA VB:Hp)(pa:Γ Ψ)(g:OG):TS:=λE b H=>∃F a s o,fT K VA VB pa F H a s b/\g a s=↑o/\Sw K VA VB pa F E o
def OS(X:Cx)(VA VB:Hp)(pa:Γ Ψ)(st:Ω)(g:OG):Prop:=PS X st<|tO X.K VA VB pa g
def F3(X:Cx)(VA VB:Hp)(pa:Γ Ψ)(st:Γ Ω)(g:OG):Prop:=qb X st<|tO X.K VA VB pa g
abbrev OF:=ao->Γ Oj->Δ (D×Γ Oj)
def Qe(K:Φ)(VA VB:Hp)(pa:Γ Ψ)(f:OF):TE:=λc H Q=>∃F a o d L,fT K VA VB pa F H a o c/\f a o=↑(d,L)/\∀v b D,fT K VA VB pa D b a L c->az F D->Rep K D d v->Q v b
def OE(X:Cx)(VA VB:Hp)(pa:Γ Ψ)(e:γ)(f:OF):Prop:=PE X e<|Qe X.K VA VB pa f
abbrev DR:=ao->Γ Oj->Δ (θ×Γ Oj)
def SG(K:Φ)(VA VB:Hp)(pa:Γ Ψ)(f:DR):TT:=λd H Q=>∃F a o b L,fT K VA VB pa F H a o d/\f a o=↑(b,L)/\∀c D,fT K VA VB pa D c a L d->az F D->Q b c
def OT(X:Cx)(VA VB:Hp)(pa:Γ Ψ)(e:γ)(f:DR):Prop:=PT X e<|SG X.K VA VB pa f
def OW(X:Cx)(VA VB:Hp)(pa:Γ Ψ)(e:γ)(f:DR):Prop:=PW X e<|SG X.K VA VB pa f
abbrev yf:=ao->Γ Oj->Δ (Γ D×Γ Oj)
def Ux(K:Φ)(VA VB:Hp)(pa:Γ Ψ)(f:yf):TA:=λc H Q=>∃F a o d L,fT K VA VB pa F H a o c/\f a o=↑(d,L)/\∀v b D,fT K VA VB pa D b a L c->az F D->ar K D d v->Q v b
def OA(X:Cx)(VA VB:Hp)(pa:Γ Ψ)(es:Γ γ)(f:yf):Prop:=PA X es<|Ux X.K VA VB pa f
section
variable {X:Cx}{VA VB HF H VD H':Hp}{pa:Γ Ψ}{ρ ρ':ao}{os VL:Γ Oj}{σ σ':L2.St}{st:Ω}{rest:Γ Ω}{e a b c:γ}{es:Γ γ}{pos:Pos}{g1 g2:OG}
def Sw.mono{K:Φ}(s:az HF VD)(h:Sw K VA VB pa HF E o):Sw K VA VB pa VD E o:=by
 cases o with
 |nx c L=>exactλa H U S b=>h a H U S (s.trans b)
 |rt d L=>exact h
def fT.ends{K:Φ}(h:fT K VA VB pa HF H ρ os σ):fT K VA VB pa HF H [] os []:=
 let ⟨b,A,B,o⟩:=h
 {b,A,B,o.pure {o.S.gr,λi d z=>by simp at z,λi d z=>by simp at z,λi j d e a z=>by simp at z,yM _,o.S.tb,λi d z=>by simp at z,λi j d e z=>by simp at z,λi k z=>by simp at z}<|.refl _}
def fT.grow{K:Φ}(h:fT K VA VB pa HF H ρ os σ)(g:bc HF H VD H'):fT K VA VB pa VD H' ρ os σ:=
 let ⟨b,a,B,o⟩:=h
 {b,a,B,o.pure (o.S.grow g) g.ff}
def fT.step{K:Φ}(h:fT K VA VB pa HF H ρ os σ)(g:az H H'):fT K VA VB pa HF H' ρ os σ:=
 let ⟨b,a,B,o⟩:=h
 {b,a,B,o.pure (o.S.step g)<|.refl _}
def fT.all{K:Φ}(h:fT K VA VB pa HF H ρ os σ):cu K H (aI ρ) σ:=let ⟨_,_,_,o⟩:=h;o.S.all
def fT.Wj{K:Φ}(h:fT K VA VB pa HF H ρ os σ):cu K HF (bD ρ) σ:=let ⟨_,_,_,o⟩:=h;o.S.Wj
def fT.fh{K:Φ}(h:fT K VA VB pa HF H ρ os σ):az HF H:=let ⟨_,_,_,o⟩:=h;o.S.gr.fh
def fT.hand{K:Φ}(h:fT K VA VB pa HF H ρ os σ)(fz:Γ Nat):∃G,az HF G/\fT K VA VB pa G H (hand fz 0 ρ) os σ:=
 let ⟨b,d,B,o⟩:=h;let ⟨G,s,a⟩:=o.S.hand fz
 {G,s,b,d,B,o.pure a s}
def fT.XM{K:Φ}(h:fT K VA VB pa HF H ρ os σ)(r:Rep K HF d v):fT K VA VB pa HF H (ρ.set i<|.val d) os (σ.set i<|↑v):=
 let ⟨b,a,B,o⟩:=h
 {b,a,B,o.pure (o.S.XM r)<|.refl _}
def b9(g:ao->Δ Out):OG:=λb o=>(g b).bind fun|.nx a=>↑(.nx a o)|.rt _=>none
def PM{K:Φ}(h:tO K VA VB pa (b9 g) E σ H):∃R,tS K VA R g E σ H:=by
 let(F,i,O,o,(B,A,b,k),G,q):=h;let(o1,f,G):=bs G;refine{{B,A},F,i,o1,k.S,f,?_};cases o1 with
 |nx j=>cases G;exactλa c D e s=>q a c D {B,A,b,k.pure e s} s
 |rt d=>cases G
def Kb(h:∀W,DS X VA W st g):OS X VA VB pa st (b9 g):=λp s a H E I q=>let ⟨W,z⟩:=PM q;h W p s a H E I z
def Du:OG:=λa o=>↑(.nx a o)
def cA(g1 g2:OG):OG:=λb o=>(g1 b o).bind fun|.nx a L=>g2 a L|.rt d L=>↑(.rt d L)
def K9:F3 X VA VB pa [] Du:=fZ ll λE a H z=>by let(F,b,s,o,S,g,q):=z;cases g;exact q a H F S<|.refl _
def z9(c:OS X VA VB pa st g1)(e:F3 X VA VB pa rest g2):F3 X VA VB pa (st::rest) (cA g1 g2):=fZ (et c e) λE k H z=>by
 let(F,f,O,o,S,g,q):=z;let(o1,h,g):=bs g;refine{F,f,O,o1,S,h,?_};cases o1 with
 |nx a L=>exactλi j D b s=>{D,a,L,o,b,g,q.mono s}
 |rt d L=>cases g;exact q
def wc(H:OS X VA VB pa st g1):F3 X VA VB pa [st] g1:=pQ H
def cw(fz:Γ Nat)(g:OG):OG:=λa o=>g (hand fz 0 a) o
def C7(fz:Γ Nat)(h:OS X VA VB pa st g1):OS X VA VB pa st (cw fz g1):=bL h λE c H z=>by
 let(F,b,O,o,S,g,q):=z;let(G,a,s):=S.hand fz;exact{G,_,O,o,s,g,q.mono a}
def oD(f:Dl.Env->Δ D):OF:=λa o=>match f (bD a)with
 |some d=>↑(d,o)
 |none=>(f<|aI a).bind λd=>if kg d=true then↑(d,o)else none
def Lp(h:DE X e f):OE X VA VB pa e (oD f):=aF h λi H Q z=>by
 let(b,c,o,d,L,S,F,q):=z;unfold oD at F;split at F
 .rename_i g E;cases F;exact{b,bD c,d,S.fh,S.Wj,E,λv a D G r=>q v a D (S.grow G) G.ff r}
 .let(g,E,F):=bs F;split at F
  .rename_i s;cases F;exact{H,aI c,d,.refl _,S.all,E,λv a D G r=>q v a b (S.step G.hh) (.refl _)<|rf s r}
  .cases F
def yq(g:D->D->Δ D)(fa fb:OF):OF:=λa o=>(fa a o).bind λx=>(fb a x.2).bind λy=>(g x.1 y.1).map (·,y.2)
def Qi(R:fy X.K r g):∀σ H Q,Qe X.K VA VB pa (yq g fa fb) σ H Q->NO r (Qe X.K VA VB pa fa) (Qe X.K VA VB pa fb) σ H Q:=λσ H Q z=>by
 let(F,b,o,d,L,S,f,q):=z;let((x,o1),l,f):=bs f;let((y,o2),Y,f):=bs f;let(z,Z,e):=ai f;cases e;exact{F,b,o,x,o1,S,l,λp u k j n r1=>{k,b,o1,y,_,j,Y,λt i U s a m=>R U i x y p t _ Q s.fh (r1.mono a) m Z λv c D G=>q v c D (s.grow G)<|(n.trans a).trans G.ff}}
end
section
variable {X:Cx}{VA VB HF H VD H':Hp}{pa:Γ Ψ}{ρ ρ':ao}{os VL:Γ Oj}{σ σ':L2.St}{st:Ω}{rest:Γ Ω}{e a b c:γ}{es:Γ γ}{pos:Pos}{g1 g2:OG}{fa fb:OF}{ta tb:DR}
def oB(f:OF):DR:=λa o=>(f a o).bind λx=>(gB x.1).map (·,x.2)
def LN:∀σ H Q,SG X.K VA VB pa (oB f) σ H Q->Qe X.K VA VB pa f σ H λx a=>∃c,x=.bl c/\Q c a:=λσ H Q z=>by
 let(b,g,o,k,L,S,F,q):=z;let((x,o1),d,F):=bs F;refine{b,g,o,x,o1,S,d,λv a G s e r1=>?_};cases x<;>try cases F
 exact{_,r1,q a G s e}
def Gm(o:il X (compareOp op) r)(R:fy X.K r g)(A:OE X VA VB pa a fa)(B:OE X VA VB pa b fb)(m:behindInMarks op b=false):OT X VA VB pa (.Compare a [op] [b] pos) (oB<|yq g fa fb):=
 rO (pW o A B m) λc H Q h=>Qi R c H _<|LN c H Q h
def oT(f:Dl.Env->Δ θ):DR:=λa o=>(f<|aI a).map (·,o)
def Lq(h:DT X e f):OT X VA VB pa e (oT f):=rO h λg H Q z=>by
 let(F,d,o,b,L,S,c,q):=z;let(B,E,z):=ai c;cases z;exact{H,aI d,b,.refl _,S.all,E,λa D G=>q a F (S.step G.hh)<|.refl _}
def vz(fa fb:DR):DR:=λa o=>(fa a o).bind λx=>match x.1 with|true=>↑(true,x.2)|false=>fb a x.2
def OW.ot(h:OW X VA VB pa a ta):OT X VA VB pa a ta:=PW.pt h
def NA(H:OT X VA VB pa a ta):OW X VA VB pa (.BoolOp .Or [a] pos) ta:=BA H
def MR(A:OT X VA VB pa a ta)(B:OW X VA VB pa (.BoolOp .Or (b::es) pos) tb):OW X VA VB pa (.BoolOp .Or (a::b::es) pos) (vz ta tb):=AX (HK A B) λm H Q z=>by
 let(F,g,o,d,L,S,f,q):=z;let((x,o1),l,f):=bs f;refine{F,g,o,x,o1,S,l,λj G c e=>?_};cases x with
 |false=>exact lJ {G,g,o1,d,L,c,f,λi D k s=>q i D k<|e.trans s}
 |true=>cases f;exact mZ<|q j G c e
def dU:yf:=λ_ o=>↑([],o)
def bf(f:OF)(g:yf):yf:=λa o=>(f a o).bind λx=>(g a x.2).map λy=>(x.1::y.1,y.2)
def PN:OA X VA VB pa [] dU:=hJ cf λb H Q z=>by let(F,a,o,d,L,S,f,q):=z;cases f;exact q [] H F S (.refl _) .nil
def Mo(E:OE X VA VB pa e fa)(hs:OA X VA VB pa es g)(W:starEach (e::es) X.env=(false,eval e X.env)::starEach es X.env:=by rfl):OA X VA VB pa (e::es) (bf fa g):=
 hJ (ba E hs W) λp H Q z=>by
  let(F,a,o,d,L,S,f,q):=z;let((x,o1),j,f):=bs f;let((l,o2),y,z):=ai f;cases z;exact{F,a,o,x,o1,S,j,λv m G c k r1=>{G,a,o1,l,_,c,y,λn b U i s r=>q _ b U i (k.trans s)<|ar.cons (r1.mono s) r}}
def qc(t:DR)(g1 g2:OG):OG:=λa o=>(t a o).bind λx=>if x.1=true then g1 a x.2 else g2 a x.2
def QJ(hc:OT X VA VB pa c ta)(A:F3 X VA VB pa ss g1)(B:F3 X VA VB pa us g2):OS X VA VB pa (.If c ss us pos) (qc ta g1 g2):=bL (uJ hc A B) λE f H z=>by
 let(F,a,O,o,S,g,q):=z;let((b,o1),h,g):=bs g;refine{F,a,O,b,o1,S,h,λe D d s=>?_};cases b with
 |true=>exact mZ {D,a,o1,o,d,g,q.mono s}
 |false=>exact lJ {D,a,o1,o,d,g,q.mono s}
def fF(f:OF):OG:=λa o=>(f a o).map λx=>.rt x.1 x.2
def F8(h:OE X VA VB pa e fa):OS X VA VB pa (.Return (↑e) pos) (fF fa):=bL (rq h) λE f H z=>by
 let(F,c,O,o,S,g,q):=z;let((d,o1),h,z):=ai g;cases z;exact{F,c,O,d,o1,S,h,λv a D b s=>q v a D b.ends}
def og(i:Nat)(f:OF):OG:=λa o=>(f a o).map λx=>.nx (a.set i<|.val x.1) x.2
def PU(i:Nat)(n:X.N.Nodup)(hi:X.N[i]?=↑x)(j:Loc X.env.scope x)(c:OE X VA VB pa e fa)(hs:swapsWith e (↑(.Name x pos')) pos.line X.env=pure false:=by rfl)
  (f:X.fn x=true\/X.env.scope.names.lookup x=↑.local:=by first|exact .inl rfl|exact .inr rfl|assumption):OS X VA VB pa (.Assign [.Name x pos'] e pos) (og i fa):=bL (oK n hi j c hs f) λE l H z=>by
 let(F,k,O,o,S,g,q):=z;let((d,o1),h,z):=ai g;cases z;exact{F,k,O,d,o1,S,h,λv a D b s r=>q _ a D (b.XM r) s}
end
section
variable {os VL:Γ Oj}{st:Ω}{rest:Γ Ω}
def fT.tbs{K:Φ}(h:fT K VA VB pa HF H ρ os σ):cx K HF:=let ⟨_,_,_,o⟩:=h;o.S.tb
def eh(n:Nat)(m:Γ D->Δ D)(fs:yf):OF:=λa o=>(fs a o).bind λx=>if x.1.length=n then(m x.1).map (·,x.2)else none
def LQ{fs:yf}(F:FB X.prog X.w X.K X.mg X.base k x n m)(R:bT k X.A)(u:Gl X x)(l:OA X VA VB pa (e::es) fs)(i:(x==("__debug__":Str))=false:=by decide)
  (t:starEach (e::es) X.env=(false,eval e X.env)::starEach es X.env:=by rfl)(W:(backTo pos<|starEach es X.env).any (·.1)=false:=by rfl):OE X VA VB pa (.Call (.Name x p) (e::es) [] pos) (eh n m fs):=by
 let(f,U,Y,O,M,hk,B):=F.ex;refine aF (mH (E:=E0) O R u M hk B .nil o8 l i t W) λσ H Q z=>?_;let(c,J,C,d,P,S,a,q):=z;let((D,o1),y,a):=bs a;split at a
 .rename_i L;let(T,o,z):=ai a;cases z;exact{c,J,C,D,o1,S,y,λZ N G s I r1=>{G,D,d,s.fh,s.tbs,by rw[qF];exact r1,L,o,λv b j g r=>q v b j (s.grow g) (I.trans g.ff) r}}
 .cases a
def kb(tgt:ao->D->Δ ao)(gb:OG):Γ D->OG
 |[],a,o=>↑(.nx a o)
 |d::s,a,o=>(tgt a d).bind λb=>(gb b o).bind fun|.nx W X=>kb tgt gb s W X|.rt v X=>↑(.rt v X)
def KN(fz:Γ Nat)(fi:Dl.Env->Δ (Γ D))(tgt:ao->D->Δ ao)(gb:OG):OG:=λa o=>(fi<|bD<|hand fz 0 a).bind λd=>kb tgt gb d (hand fz 0 a) o
def Vj(K:Φ)(VA VB:Hp)(pa:Γ Ψ)(f:ao->D->Δ ao):TG:=λv e H Q=>∃F c o d a,fT K VA VB pa F H c o e/\Rep K F d v/\f c d=↑a/\∀b,fT K VA VB pa F H a o b->Q b H
def RS(h:∀W,OX X VA W tg tgt):PG X tg (Vj X.K VA VB pa tgt):=λp s i H v u Q I r ⟨F,g,O,d,a,⟨c,A,B,o⟩,R,f,q⟩ =>
 h _ p s i H v u Q I r {F,g,d,a,o.S,R,f,λb e=>q b {c,A,B,o.pure e<|.refl _}}
def NB(fz:Γ Nat)(hp:PassesOwn (model X.prog X.w) X.A X.env X.xe)(hc:X.calm=true)(hi:DI X tg iter fi)(g:∀R,OX X VA R tg tgt)(hb:F3 X VA VB pa body gb)
  (hs:∀x,foldedSetIterable iter X.env x=pure x:=by intro _;rfl):OS X VA VB pa (.For tg iter body [] pos) (KN fz fi tgt gb):=bL (Hs hp hc hi (RS g) hb hs) λE σ H z=>by
 let(HF,ρ,os,o,S,g,q):=z;let(s,h,g):=bs g;let(I,s1,p):=S.hand fz;refine{I,_,s,p.fh,p.Wj,h,λJ H2 U G it=>({λi m b c=>m+i=s.length/\∃D a L,fT X.K VA VB pa D c a L b/\az U D/\kb tgt gb (s.drop i) a L=↑o,{s.length,rfl,U,_,os,p.grow G,.refl _,g},?_})};rintro i m b c ⟨hm,D,a,L,k,n,f⟩;by_cases hi:i<s.length
 .refine .inr ?_;have u:=vA hi;have B:=List.getElem?_eq_some_iff.mpr {hi,rfl};generalize s[i]=d at u B;rw[u]at f;let(e,h1,f):=bs f;let(o1,h2,f):=bs f;let(go,Y):=it.go i d c D B n k.fh;refine{go,λr j=>∃v l O,fT X.K VA VB pa v j l O r/\az U v/\kb tgt gb _ l O=↑o,λr j z=>by let(v,l,O,P,Q,T):=z;exact {m-1,by lia,by lia,v,l,O,P,Q,T},λx j y=>?_};let(v,t,rx):=Y x j y;refine{v,a,L,d,e,k.grow t,rx,h1,λr C=>{v,e,L,o1,C,h2,?_}};cases o1 with
  |nx W Z=>exactλσ4 H4 M F s4=>{M,W,Z,F,(n.trans t.ff).trans s4,f}
  |rt d Z=>cases f;exact q
 .have N:i=s.length:=by lia
  subst N;rw[List.drop_length]at f;cases f;exact .inl {it.stop c D n k.fh,q b c D k<|(s1.trans G.ff).trans n}
end
inductive gT(K:W.Frag)(HF:Hp)(a:Addr):List Slot->List V->Prop
 |nil:gT K HF a [] []
 |val {d:D}{v:V}{r:Γ Slot}{vs:Γ V}(h:Rep K HF d v) (t:gT K HF a r vs):gT K HF a (.val d::r) (v::vs)
 |obj {r:Γ Slot}{vs:Γ V}(t:gT K HF a r vs):gT K HF a (.obj 0::r) (.ref a::vs)
def gT.length{K:Φ}(h:gT K HF a as vs):vs.length=as.length:=by
 induction h with
 |nil=>rfl
 |val _ _ i=>exact jB _ i
 |obj _ i=>exact jB _ i
def gT.get{K:Φ}(h:gT K HF a as vs):∀{i:Nat},as[i]?=↑s->∃v,vs[i]?=↑v/\((∃d,s=.val d/\Rep K HF d v)\/(s=.obj 0/\v=.ref a)):=by
 induction h with
 |nil=>intro i e;cases e
 |val r _ I =>
  intro i e;cases i with
  |zero=>cases e;exact{_,rfl,.inl {_,rfl,r}}
  |succ i=>exact I e
 |obj _ I =>
  intro i e;cases i with
  |zero=>cases e;exact{_,rfl,.inr {rfl,rfl}}
  |succ i=>exact I e
def LC(K:Φ)(C:Ψ)(n:Nat)(m:Γ Slot->Fs->Δ (D×Fs)):Sp:=λS H Q _=>∃F B a s st d w,az F H/\cx K F/\az B H/\(∀b o,B b=↑o->F b=none)/\EK K F B C a st/\gT K F a s S/\s.length=n/\m s st=↑(d,w) /\
 ∀v f c e,Dm F H B c f e->EK K c e C a w->Rep K c d v->Q v f
def SO(C:Ψ)(d:D):Γ Oj->Δ (D×Fs)|o::_=>if o.C=C then↑(d,o.st)else none|[]=>none
def gF(g:OG)(C:Ψ)(n:Nat):Γ Slot->Fs->Δ (D×Fs):=λa st=>(g (a++List.replicate (n-a.length) .VC) [⟨C,st⟩]).bind fun|.rt d o=>SO C d o|.nx _ o=>SO C .none o
def xo{K:Φ}{st:Fs}(sm:az HF H)(tb:cx K HF)(u:az B H)(p:∀b o,B b=↑o->HF b=none)(q:EK K HF B C a st)(R:gT K HF a as vs) :
  fT K HF (cut H B) [a] HF H (as++List.replicate (N.length-as.length) .VC) [⟨C,st⟩] (L2.start N vs):=by
 have l:∀(i:Nat)(s:Slot),(as++List.replicate (N.length-as.length) .VC)[i]?=↑s->s=.VC\/∃v,(L2.start N vs)[i]?=↑(↑v)/\((∃d,s=.val d/\Rep K HF d v)\/(s=.obj 0/\v=.ref a)):=λi s h=>by
  by_cases I:i<as.length
  .rw[yS I]at h;let(v,f,z):=R.get h;refine .inr {v,?_,z};unfold L2.start;rw[yS<|by simpa [R.length]using I,zO,f];rfl
  .rw[yT<|by lia,yX]at h;split at h
   .cases h;exact .inl rfl
   .cases h
 have D:∀(i:Nat)(s:Slot),(as++List.replicate (N.length-as.length) .VC)[i]?=↑s->(∀d,s≠.val d)->s≠.VC->s=.obj 0:=λi s h m n=>by
  rcases l i s h with z|⟨v,_,⟨d,z,_⟩|⟨z,_⟩⟩
  .exact absurd z n
  .exact absurd z<|m d
  .exact z
 refine{H,λ_=>a,λ_=>B,{{.refl sm,λi d h=>?_,λi S h=>?_,λi j S E b h=>?_,?_,tb,λi t h=>?_,λi j t L h=>?_,λi k h=>?_},λb o e=>(e9 e).1,λk o e=>?_,λk hk=>u,λk hk b o e=>{rK e,p b o e},λj k J hk w=>?_,yM _,λk c e=>?_}}
 .rcases l i _ h with z|⟨v,f,⟨g,z,r⟩|⟨z,_⟩⟩
  .cases z
  .cases z;exact⟨v,f,r⟩
  .cases z
 .cases D i _ h (λd z=>by cases z) (λz=>by cases z)
 .cases D i _ h (λd z=>by cases z) (λz=>by cases z)
 .unfold L2.start;rw[zN,zN,zD,xM,xM,R.length];exact yM _
 .cases D i _ h (λd z=>by cases z) (λz=>by cases z)
 .cases D i _ h (λd z=>by cases z) (λz=>by cases z)
 .rcases l i _ h with z|⟨v,f,⟨g,z,r⟩|⟨_,z⟩⟩
  .cases z
  .cases z
  .rw[f,z]
 .cases k with
  |zero=>simp?[xQ]at e;cases e;exact q
  |succ k=>simp at e
 .simp at J hk;lia
 .cases k with
  |zero=>simp?[xQ]at e;cases e;rfl
  |succ k=>simp at e
def fT.left{K:Φ}{os:Γ Oj}(h:fT K HF (cut H B) [a] VD H' [] os [])(e:SO C d os=↑(d',U)):d'=d/\∃i,Dm HF H B VD H' i/\EK K VD i C a U:=by
 let(j,D,s,o):=h;cases os with
 |nil=>cases e
 |cons ob os =>
  have e:(if ob.C=C then↑_ else none)=↑_:=e;by_cases g:ob.C=C
  .rw[yL g]at e;cases e;have f:0<(ob::os).length:=by simp
   have A:=o.at_ 0 ob rfl;rw[(o.pa 0 a rfl),g]at A;refine{rfl,s 0,{{λb u z=>o.S.gr.hh b u<|o.h0 b u z,o.S.gr.ff,o.S.gr.fh,λb u z=>?_},λb u z=>o.S.gr.hh b u<|o.sb 0 f b u z,λb u z=>{o.nf f z,(o.fr 0 f b u z).1}},A};rcases o.S.gr.nw b u z with y|y
   .exact .inl y
   .refine .inr ?_;cases c:cut H B b with
    |none=>rfl
    |some w=>have:=o.h0 b w c;grind
  .rw[yN g]at e;cases e
structure Top(X:Cx)(st:Stmt):Prop where
 hs:X.stack=X.env::X.outer
 hf:X.env.frame=↑X.env.locals
 lc:∀n,(ah st).names.lookup n=↑.local -> X.env.kindOf n=↑.local /\ X.env.scope.names.lookup n=↑.local
 nc:∀n,((ah st).names.all λy=>!(y.2==NameKind.cell))=true->X.env.cells.lookup n=none
def uG:∀(s:Γ (Str×NameKind))(n:Nat),(s.all λy=>!(y.2==NameKind.cell))=true->cellsFrom n s []=[]
 |[],_,_=>rfl
 | (x,k)::r,n,h=>by
  rw[xS,zF]at h;unfold cellsFrom;rw[yN<|by simpa using h.1];exact uG r n h.2
def QN{K:Φ}{st:Ω}:Top (tJ CX P w K mg base N qual (ah st) f U A outer s H E).V0 st:=⟨rfl,rfl,λn h=>⟨h,h⟩,λn h=>by
 show List.lookup n (cellsFrom _ _ [])=none;rw[uG _ _ h];rfl⟩
def MV{K:Φ}{st:Ω}(F:yg K x qual st f fd)(S:aY N ps (ah st))
  (body:∀X ,X.prog=P->X.w=w->X.K=K->X.mg=mg->X.base=base->Bk X N (ah st) k->Top X st->∀VA VB pa,F3 X VA VB pa (aP st) g):dE P w K mg base tI (k+1) f fd ps (LC K C ps.length<|gF g C N.length):=by
 let(oc,od,kV,m,pm,an,VY,ct,XJ,rfl,L,R):=F.ex;refine tT L R S (λvs H Q E z=>by let(e,B,a,l,st,d,j,h1,_,_,_,_,n,p,_):=z;rw[n.length,p]) λA O s H vs Q E J z=>?_;let(e,B,a,l,st,d,j,sm,Z,Y,u,M,U,hl,D,q):=z;refine{_,(body _ rfl rfl rfl rfl rfl {rfl,S.nd,λy kd=>.inl,rfl,λ_ _=>rfl,J,rfl,S.kind} QN e (cut H B) [a]).V0,?_};let(o,G,D):=bs D;refine{e,_,_,o,xo sm Z Y u M U,G,?_};cases o with
 |rt d' T =>
  exactλv c i I r=>by
   let(rfl,b,t,z):=fT.left I D;exact q v c i b t z r
 |nx ρ' T =>
  exactλσ' c i I _=>by
   let(rfl,b,t,z):=fT.left I.ends D;exact q _ c i b t z (by rfl)
section
variable {K:Φ}{HF B:Hp}
def lx{f:Str}{st:Fs}{fs:Γ (Str×V)}{as:Γ Ψ}(h:ju K HF B st fs as)(e:st.lookup f=none):fs.lookup f=none:=by
 induction h with
 |nil=>rfl
 |@val g _ _ _ _ _ r h i =>
  rw[yB]at e ⊢;cases z:f==g with
  |true=>rw[z]at e;cases e
  |false=>rw[z]at e;exact i e
 |@lst g _ _ _ _ _ _ E r h i =>
  rw[yB]at e ⊢;cases z:f==g with
  |true=>rw[z]at e;cases e
  |false=>rw[z]at e;exact i e
def AO{f:Str}{ds:Γ D}{st:Fs}{fs:Γ (Str×V)}{as:Γ Ψ}(h:ju K HF B st fs as)(e:st.lookup f=↑(.lst ds)):∃b us,fs.lookup f=↑(.ref b)/\b∈as/\B b=↑(.lst us)/\ar K HF ds us:=by
 induction h with
 |nil=>cases e
 |@val g _ _ _ _ _ r h i =>
  rw[yB]at e ⊢;cases z:f==g with
  |true=>rw[z]at e;cases e
  |false=>rw[z]at e;exact i e
 |@lst g _ _ _ _ _ _ E r h i =>
  rw[yB]at e ⊢;cases z:f==g with
  |true=>rw[z]at e;cases e;exact{_,_,rfl,zE,E,r}
  |false =>
   rw[z]at e;let(a,u,E,c,d):=i e;exact{a,u,E,zC _ c,d}
def pG(f:Str)(x:Fd):Fs->Fs
 |[]=>[(f,x)]
 | (g,y)::r=>if g=f then(g,x)::r else(g,y)::pG f x r
end
section
variable {X:Cx}{VA VB HF H VD H':Hp}{pa:Γ Ψ}{ρ ρ':ao}{os VL:Γ Oj}{σ σ':L2.St}{st:Ω}{rest:Γ Ω}{e a b c:γ}{es:Γ γ}{pos p px apos:Pos}{g1 g2:OG}{fa fb:OF}{ta tb:DR}
def lz{K:Φ}{HF:Hp}{a:Ψ}:∀{ds:Γ D}{vs:Γ V},ar K HF ds vs->gT K HF a (ds.map Slot.val) vs
 |[],vs,r=>by rw[r.nil_inv];exact .nil
 |d::ds,vs,r=>by
  let(v,u,rfl,r1,R):=r.cons_inv;exact .val r1<|lz R
def obj(i:Nat)(C:Ψ)(ρ:ao)(os:Γ Oj):Δ (Nat×Fs):=match ρ[i]? with
 |some (.obj k)=>match os[k]? with
  |some o=>if o.C=C then↑(k,o.st)else none
  |none=>none
 |_=>none
def obj_some{i k:Nat}{C:Ψ}{st:Fs}(h:obj i C ρ os=↑(k,st)):ρ[i]?=↑(.obj k)/\os[k]?=↑⟨C,st⟩:=by
 unfold obj at h;split at h
 .rename_i K e;split at h
  .rename_i o E;split at h
   .rename_i a;cases h;refine{e,?_};rw[E,<-a]
   .cases h
  .cases h
 .cases h
def cT(i:Nat)(C:Ψ)(m:Str)(n:Nat)(mm:Γ Slot->Fs->Δ (D×Fs))(fs:yf):OF:=λa o=>(obj i C a o).bind λx=>if(x.2.lookup m).isNone=true then(fs a o).bind λy=>(obj i C a y.2).bind λz=>if y.1.length+1=n then(mm (.obj 0::y.1.map Slot.val) z.2).map λw=>(w.1,y.2.set z.1 {C,w.2})else none else none
def HY{k n i:Nat}{C:Ψ}{m:Str}{mm:Γ Slot->Fs->Δ _}{fs:yf}{E:XK}:∀σ H Q,Qe X.K VA VB pa (cT i C m n mm fs) σ H Q->CV C m (LC X.K C n mm) [] E (Fg i) (Ux X.K VA VB pa fs) σ H Q:=λσ H Q z=>by
 let(F,ρ,W,d,VL,S,f,q):=z;let((k,st),N,f):=bs f;split at f
 .rename_i L;let((s,o1),O,f):=bs f;let((k2,Y),P,f):=bs f;split at f
  .rename_i T;let((J,Z),R,f):=ai f;cases f;let(e,j):=obj_some N;let(l,g):=obj_some P;rw[e]at l;cases l;have S0:=S;let(HB,A,Bs,o):=S;let(M,U,as,f1,f2,f3,f4):=(o.at_ k _ j).ex;refine{_,o.S.ob i k e,A k,M,U,rfl,o.S.gr.hh _ _<|o.sb k ((List.getElem?_eq_some_iff.mp j).1) _ _ f1,lx f3 (by cases z:st.lookup m with|none=>rfl|some _=>rw[z]at L;cases L),F,ρ,W,s,o1,S0,O,λvs H1 I D s1 r1=>?_};let(y,c,B,p):=D;have a:=(List.getElem?_eq_some_iff.mp g).1;have w:c k=A k:=by
    have z1:=p.S.ob i k e;rw[(o.S.ob i k e)]at z1;injection z1 with z1
    injection z1 with z1
    injection z1 with z1
    exact z1.symm
   rw[qF];exact{I,B k,A k,.obj 0::s.map _,Y,J,Z,p.S.gr.fh,p.S.tb,λb u z=>p.S.gr.hh b u<|p.sb k a b u z,λb u=>p.nf a,w▸p.at_ k _ g,.obj<|lz r1,by simpa using T,R,λv x G B' t z r=>(q v x G {_,_,_,p.turn g t<|w▸z} (s1.trans t.gr.ff) r)}
  grind
 grind
end
structure Nh(P:Program)(w:World)(K:W.Frag)(mg:Str->Option Value)(base:Heap)(k:Nat)(C:Addr)(m:Str)(n:Nat)(mm:List Slot->Fs->Option (D×Fs)):Prop where
 ex:∃ (f:Ψ) (fd:η) (ps:Γ Str),dE P w K mg base tI k f fd ps (LC K C n mm)/\A3 K C m f/\Binds K fd ps []
def Nh.mono{K:Φ}{mm:Γ Slot->Fs->Δ _}(F:Nh P w K mg base k C m n mm)(h:k<=j):Nh P w K mg base j C m n mm:=by
 let(f,d,p,a,b,c):=F.ex;exact{f,d,p,a.mono h,b,c}
section
variable {os VL:Γ Oj}{st:Ω}{rest:Γ Ω}
def LJ{mm:Γ Slot->Fs->Δ (D×Fs)}{fs:yf}{pl:Sem θ}(F:Nh X.prog X.w X.K X.mg X.base k C m n mm)(r:bT k X.A)(H:X.N[i]?=↑x)(v:nW X.env.scope x)(cl:sd X.K C)(a:OA X VA VB pa (e::es) fs)
  (d:(x==("__debug__":Str))=false:=by decide)(R:(x==("__classdict__":Str))=false:=by decide)
  (u:starEach (e::es) X.env=(false,eval e X.env)::starEach es X.env:=by rfl)(W:(backTo pos<|starEach es X.env).any (·.1)=false:=by rfl)
  (ht:eval (.Call (.Attribute (.Name x px) m apos) (e::es) [] pos) X.env=(do
   let o <- eval (.Name x px) X.env
   standAt apos.atName
   let (f,first) <- holding [o]<|getMethod o m pl
   callWith pos f first (backTo pos<|starEach (e::es) X.env) (backToKw pos<|keywordEach [] X.env)):=by rfl) :
  OE X VA VB pa (.Call (.Attribute (.Name x px) m apos) (e::es) [] pos) (cT i C m n mm fs):=by
 let(f,c,p,O,M,b):=F.ex;exact aF (vo (bQ H v d R) cl M O r b .nil o8 a u W ht)<|HY (k:=k)
def GA{mm:Γ Slot->Fs->Δ (D×Fs)}{pl:Sem θ}(F:Nh X.prog X.w X.K X.mg X.base k C m n mm)(s:bT k X.A)(l:X.N[i]?=↑x)(t:nW X.env.scope x)(cl:sd X.K C)
  (p:(x==("__debug__":Str))=false:=by decide)(R:(x==("__classdict__":Str))=false:=by decide)
  (ht:eval (.Call (.Attribute (.Name x px) m apos) [] [] pos) X.env=(do
   let o <- eval (.Name x px) X.env
   standAt apos.atName
   let (f,first) <- holding [o]<|getMethod o m pl
   callWith pos f first (backTo pos<|starEach [] X.env) (backToKw pos<|keywordEach [] X.env)):=by rfl) :
  OE X VA VB pa (.Call (.Attribute (.Name x px) m apos) [] [] pos) (cT i C m n mm dU):=by
 let(f,z,P,O,M,B):=F.ex;refine aF (qv (bQ l t p R) cl M O s B .nil o8 ht) λu H Q h=>?_;let(v,e,a,d,fs,c,g,j,b,I,G,y,L,S,r,q):=HY (k:=k) (E:=E0) u H Q h;cases r;exact{v,e,a,d,fs,c,g,j,q [] H b S (.refl _) .nil}
def wz{HF H B:Hp}{a:Ψ}{o u:HO}(s:az B H)(n:∀b o,B b=↑o->HF b=none)(fh:az HF H)(e:B a=↑o):Dm HF H B HF (upd H a u) (upd B a u) where
 gr:=by
  refine{λb w z=>?_,.refl _,λb w z=>?_,λb w=>.inl}
  .rw[ak<|(λb w z q=>by rw[q,rK e]at z;grind:∀b w,cut H B b=↑w->b≠a) b w z];exact(e9 z).1
  .rw[ak λq=>by grind];exact fh b w z
 sb:=λb w z=>by
  by_cases q:b=a
  .rw[q,av]at z ⊢;lia
  .rw[ak q]at z ⊢;exact s b w z
 nw:=λb w z=>by
  by_cases q:b=a
  .rw[q];exact{n a o e,rK e}
  .rw[ak q]at z;exact{n b w z,rK z}
def JW(s:az B H)(n:∀b o,B b=↑o->HF b=none)(G:bc HF H VD H')(d:H l=none)(a:VD l=none)(e:H' l=↑(.lst us)):Dm HF H B VD H' (upd B l<|.lst us) where
 gr:=⟨λb w z=>G.hh b w (e9 z).1,G.ff,G.fh,λb w z=>(G.nw b w z).imp id λq=>by
  cases c:cut H B b with
  |none=>rfl
  |some y=>have:=(e9 c).1;grind⟩
 sb:=λb w z=>by
  by_cases q:b=l
  .rw[q]at z ⊢;rw[av]at z;grind
  .rw[ak q]at z;exact G.hh b w<|s b w z
 nw:=λb w z=>by
  by_cases q:b=l
  .rw[q];refine{a,?_};cases c:cut H B l with
   |none=>rfl
   |some y=>have:=(e9 c).1;grind
  .rw[ak q]at z;exact{G.Wa (n b w z)<|s b w z,rK z}
def GX{K:Φ}{st:Fs}{fs:Γ _}(h:ju K HF B st fs as):fs.length=st.length:=by
 induction h with
 |nil=>rfl
 |val _ _ i=>exact jB _ i
 |lst _ _ _ i=>exact jB _ i
def OB{K:Φ}{st:Fs}{fs:Γ _}(h:ju K HF B st fs as):∀b∈as,∃us,B b=↑(.lst us):=by
 induction h with
 |nil=>simp
 |val _ _ i=>omega
 |lst e _ _ i =>
  intro b H;rcases List.mem_cons.mp H with q|q
  .rw[q];exact{_,e}
  .exact i b q
end
section
variable {K:Φ}
def Fq{st:Fs}{fs:Γ (Str×V)}(r:ar K HF ds us)(j:B l=↑(.lst us))(h:ju K HF B st fs as)(n:as.Nodup)(L:l∉as):∃a,ju K HF B (pG f (.lst ds) st) (iB f (.ref l) fs) a/\a.Nodup/\∀b∈a,b=l\/b∈as:=by
 induction h with
 |nil=>exact{[l],.lst j r .nil,by simp,λb i=>.inl<|by simpa using i}
 |@val g _ _ _ _ as R h I =>
  unfold pG iB;by_cases z:g=f
  .rw[yL z,yL z];exact{l::as,.lst j r h,List.nodup_cons.mpr {L,n},λb i=>List.mem_cons.mp i}
  .rw[yN z,yN z];let(a,d,e,H):=I n L;exact{a,.val R d,e,H}
 |@lst g _ b _ _ _ as E k h I =>
  have N:l∉as:=λq=>L<|zC _ q;unfold pG iB;by_cases z:g=f
  .rw[yL z,yL z];exact{l::as,.lst j r h,List.nodup_cons.mpr {N,(List.nodup_cons.mp n).2},λc hc=>(List.mem_cons.mp hc).imp id<|zC _}
  .rw[yN z,yN z];let(a,d,e,H):=I (List.nodup_cons.mp n).2 N;refine{b::a,.lst E k d,List.nodup_cons.mpr {λq=>?_,e},λc hc=>?_}
   .rcases H b q with y|y
    .exact L (by rw[<-y];exact zE)
    .exact (List.nodup_cons.mp n).1 y
   .rcases List.mem_cons.mp hc with q|q
    .exact .inr (by rw[q];exact zE)
    .exact (H c q).imp id<|zC _
def ze{st:Fs}{fs:Γ (Str×V)}(r:ar K HF U us')(h:ju K HF B st fs as)(n:as.Nodup)(e:st.lookup f=↑(.lst ds))(E:fs.lookup f=↑(.ref b)):ju K HF (upd B b<|.lst us') (pG f (.lst U) st) fs as:=by
 induction h with
 |nil=>cases e
 |@val g _ _ _ _ _ R h i =>
  rw[yB]at e E;cases z:f==g with
  |true=>rw[z]at e;cases e
  |false =>
   rw[z]at e E;unfold pG;rw[yN λq=>by rw[q]at z;simp at z];exact .val R (i n e E)
 |@lst g _ c u _ fs as H j h i =>
  rw[yB]at e E;unfold pG;cases z:f==g with
  |true =>
   rw[z]at e E;cases E;rw[yL<|by simpa using (beq_iff_eq.mp z).symm];refine .lst av r<|h.imp (.refl _) λq Q w Z=>?_;rw[ak λy=>(List.nodup_cons.mp n).1 (by rw[<-y];exact Q)];exact Z
  |false =>
   rw[z]at e E;rw[yN λq=>by rw[q]at z;simp at z];let(k,w,G,d,l,_):=AO h e;have a:fs.lookup f=↑(.ref b):=E;rw[a]at G;cases G;refine .lst ?_ j<|i (List.nodup_cons.mp n).2 e a;rw[ak λy=>(List.nodup_cons.mp n).1 (by rw[y];exact d)];exact H
end
section
variable {os VL:Γ Oj}{st:Ω}{rest:Γ Ω}
def Dm.up{HF H B G c a:Hp}(t:Dm HF H B G c a){b:Ψ}{o:HO}(z:cut H B b=↑o):cut c a b=↑o:=by
 apply je<|t.gr.hh b o z;cases y:a b with
 |none=>rfl
 |some u=>rw[(t.nw b u y).2]at z;grind
def Dm.down{HF H B G c a:Hp}(t:Dm HF H B G c a){b:Ψ}(z:cut c a b=none):cut H B b=none:=by
 cases y:cut H B b with
 |none=>rfl
 |some u=>rw[t.up y]at z;lia
def Dm.trans(t:Dm HF H B VG H1 U)(t':Dm VG H1 U VU H2 B2):Dm HF H B VU H2 B2 where
 gr:=⟨λb o z=>t'.gr.hh b o<|t.up z,t.gr.ff.trans t'.gr.ff,t'.gr.fh,λb o z=>by
  rcases t'.gr.nw b o z with y|y
  .exact t.gr.nw b o y
  .exact .inr<|t.down y⟩
 sb:=t'.sb
 nw:=λb o z=>{(t'.nw b o z).1,t.down (t'.nw b o z).2}
def CY(i:Nat)(C:Ψ)(f:Str)(fl:Dl.Env->Δ (Γ D)):OG:=λa o=>(fl<|bD a).bind λd=>(obj i C a o).bind λy=>if y.2.length<1000 then↑(.nx a<|o.set y.1 {C,pG f (.lst d) y.2})else none
def JL(W:DF X e fl)(Q:X.N[i]?=↑x)(Z:nW X.env.scope x)(cl:sd X.K C)(nf:eL X.K C f)
  (hs:swapsWith e (↑(.Attribute (.Name x px) f pos')) pos.line X.env=pure false:=by rfl)(U:(x==("__debug__":Str))=false:=by decide)(R:(x==("__classdict__":Str))=false:=by decide) :
  OS X VA VB pa (.Assign [.Attribute (.Name x px) f pos'] e pos) (CY i C f fl):=bL (NG (bQ Q Z U R) W hs) λE σ H z=>by
 let(p,ρ,os,o,S,g,q):=z;let(D,M,g):=bs g;let((k,st),P,g):=bs g;split at g
 .rename_i hl;cases g;let(I,c):=obj_some P;refine{p,bD ρ,D,S.fh,S.Wj,M,λl us H1 v G m n2 n3 r1=>?_};let(HB,A,B,O):=S;have L:k<os.length:=(List.getElem?_eq_some_iff.mp c).1;let(d,fs,r,f1,f2,f3,f4):=(O.at_ k _ c).ex;have j:=λb u z=>O.S.gr.hh b u<|O.sb k L b u z;have nB:B k l=none:=by
   cases z:B k l with
   |none=>rfl
   |some u=>rw[j l u z]at m;lia
  have t:=JW j (λb u=>O.nf L) G m n2 n3;have n:∀b u,B k b=↑u->b≠l:=λb u z y=>by grind
  refine{_,O.S.ob i k I,A k,C,d,fs,rfl,G.hh _ _<|j _ _ f1,cl,nf,by rw[GX f3];lia,?_};have s:l∉r:=λY=>by
   let(w,z):=OB f3 l Y
   grind
  have F:upd (B k) l (.lst us) (A k)=↑(.ins C d fs):=by rw[ak<|n _ _ f1];lia
  let(a,f5,J,f7):=Fq r1 av (f3.imp G.ff λb T w z=>by rw[ak<|n _ _ z];omega) f4 s;refine q σ _ v {_,_,_,O.turn c (t.trans<|wz (u:=.ins C d<|iB f (.ref l) fs) t.sb (λb u z=>(t.nw b u z).1) t.gr.fh F) {d,iB f _ fs,a,av,?_,f5.imp (.refl _) λb T w z=>?_,J}} G.ff
  .rw[ak λz=>by grind,ak<|n _ _ f2];lia
  .rw[ak λz'=>by grind];lia
 grind
abbrev RF:=ao->Γ Oj->Δ D
abbrev FK:=ao->Γ Oj->Δ (Γ D)
def Qd(K:Φ)(VA VB:Hp)(pa:Γ Ψ)(f:RF):TE:=λc H Q=>∃F b o d,fT K VA VB pa F H b o c/\f b o=↑d/\∀v a D,bc F H D a->Rep K D d v->Q v a
def OR(X:Cx)(VA VB:Hp)(pa:Γ Ψ)(e:γ)(f:RF):Prop:=PE X e<|Qd X.K VA VB pa f
def Re(K:Φ)(VA VB:Hp)(pa:Γ Ψ)(f:FK):TA:=λc H Q=>∃F b o d,fT K VA VB pa F H b o c/\f b o=↑d/\∀v a D,bc F H D a->ar K D d v->Q v a
def Pp(X:Cx)(VA VB:Hp)(pa:Γ Ψ)(es:Γ γ)(f:FK):Prop:=PA X es<|Re X.K VA VB pa f
def oR(f:RF):OF:=λa o=>(f a o).map (·,o)
def OR.oe(h:OR X VA VB pa e f):OE X VA VB pa e (oR f):=aF h λi H Q z=>by
 let(F,c,o,d,L,S,b,q):=z;let(g,E,z):=ai b;cases z;exact{F,c,o,d,S,E,λv a D G=>q v a D (S.grow G) G.ff}
def rD(f:Dl.Env->Δ D):RF:=λa _=>f<|bD a
def Kd(h:DE X e f):OR X VA VB pa e (rD f):=aF h λg H Q z=>by let(F,c,o,d,S,b,q):=z;exact {F,bD c,d,S.fh,S.Wj,b,λv a D G=>q v a D G}
def rH:FK:=λ_ _=>↑[]
def eN(f:RF)(g:FK):FK:=λa o=>(f a o).bind λx=>(g a o).map (x::·)
def Jx:Pp X VA VB pa [] rH:=hJ cf λb H Q z=>by let(F,a,o,d,S,f,q):=z;cases f;exact q [] H F (.refl S.fh) .nil
def HV(E:OR X VA VB pa e f)(hs:Pp X VA VB pa es g)(W:starEach (e::es) X.env=(false,eval e X.env)::starEach es X.env:=by rfl):Pp X VA VB pa (e::es) (eN f g):=
 hJ (ba E hs W) λn H Q z=>by
  let(i,b,o,d,S,F,q):=z;let(x,j,F):=bs F;let(s,y,z):=ai F;cases z;exact{i,b,o,x,S,j,λl k v G r1=>{v,b,o,s,S.grow G,y,λm c U a r=>q _ c U (G.trans a)<|ar.cons (r1.mono a.ff) r}}
end
section
variable {X:Cx}{VA VB HF H VD H':Hp}{pa:Γ Ψ}{ρ ρ':ao}{os VL:Γ Oj}{σ σ':L2.St}{st:Ω}{rest:Γ Ω}{e a b c:γ}{es:Γ γ}{pos p px apos cpos WH:Pos}{g1 g2:OG}{fa fb:OF}{ta tb:DR}
def pV{st:Fs}{ad:Nat->Ψ}(o:nO X.K VA VB pa HF H ρ os σ HB ad Bs)(E:ρ[i]?=↑(Slot.obj k))(e:os[k]?=↑⟨C,st⟩)(a:st.lookup f=↑(.lst ds))(cl:sd X.K C)(n:eL X.K C f)
  (q:∀d fs as b us,Bs k (ad k)=↑(.ins C d fs)->Bs k d=↑(.own<|ad k)->ju X.K HF (Bs k) st fs as->as.Nodup->fs.lookup f=↑(.ref b)->Bs k b=↑(.lst us)->ar X.K HF ds us->Q (.ref b) H):JF X.K (Fg i) f σ H Q:=by
 let(d,fs,as,f1,f2,f3,f4):=(o.at_ k _ e).ex;let(b,us,g,j,G,c):=AO f3 a;exact{_,o.S.ob i k E,ad k,C,d,fs,.ref b,rfl,o.S.gr.hh _ _<|o.sb k ((List.getElem?_eq_some_iff.mp e).1) _ _ f1,cl,n,g,q d fs as b us f1 f2 f3 f4 g G c}
def zh(i:Nat)(C:Ψ)(f:Str)(e:RF):OG:=λa o=>(obj i C a o).bind λy=>match y.2.lookup f with
 |some (.lst s)=>(e a o).bind λd=>if s.length<sizeLine then↑(.nx a<|o.set y.1 {C,pG f (.lst<|s++[d]) y.2})else none
 |_=>none
def JD(Y:OR X VA VB pa e fe)(Q:X.N[i]?=↑x)(Z:nW X.env.scope x)(cl:sd X.K C)(nf:eL X.K C f)
  (T:attributeBase (.Name x px) f X.env (eval (.Name x px) X.env)=eval (.Name x px) X.env:=by rfl)(U:(x==("__debug__":Str))=false:=by decide)(R:(x=="__classdict__")=false:=by decide)
  (W:attributeBase (.Attribute (.Name x px) f WH) "append" X.env (eval (.Attribute (.Name x px) f WH) X.env)=eval (.Attribute (.Name x px) f WH) X.env:=by rfl)
  (y:((backTo cpos<|starEach [e] X.env).all (λx=>!x.1)&&(backToKw cpos<|keywordEach [] X.env).all (λx=>x.1.isSome)&&decide ([e].length+([]:Γ Keyword).length+(if([]:Γ Keyword).isEmpty then 0 else 1)<30))=true:=by rfl)
  (I:(apos.endLine==cpos.line)=true:=by rfl)(hs:starEach [e] X.env=(false,eval e X.env)::starEach [] X.env:=by rfl)(w:swapsWith (.Call (.Attribute (.Attribute (.Name x px) f WH) "append" apos) [e] [] cpos) none pos.line X.env=pure false:=by rfl) :
  OS X VA VB pa (.Expr (.Call (.Attribute (.Attribute (.Name x px) f WH) "append" apos) [e] [] cpos) pos) (zh i C f fe):=
 bL (iW (ni qM PySem.F.slot_list_append PySem.F.type_list_append oE (wx (bQ Q Z U R) T) (ba Y cf hs) W y I hs rfl) w) λE σ H z=>by
  let(n,ρ,os,o,S,g,q):=z;let((k,st),M,g):=bs g;let(J,a):=obj_some M;split at g
  .rename_i ds c;let(d,P,g):=bs g;split at g
   .cases g;have S0:=S;let(HB,ad,Bs,O):=S;have l:=(List.getElem?_eq_some_iff.mp a).1;unfold MY Uw;refine pV O J a c cl nf λD fs A b s f1 f2 f3 f4 L j m=>?_;have B:=O.S.gr.hh _ _<|O.sb k l _ _ j;refine{.inl {rfl,s,.of B},n,ρ,os,d,S0,P,λv H1 t G r=>({b,s,v,rfl,rfl,G.hh _ _ B,by rw[m.length];lia,?_})};have p:=O.pure (O.S.grow G) G.ff;refine q σ _ t {_,_,_,p.turn a (wz (u:=.lst<|s++[v]) (λb u z=>p.S.gr.hh b u<|p.sb k l b u z) (λb u=>p.nf l) p.S.gr.fh j) {D,fs,A,?_,?_,(ze ((m.mono G.ff).append<|ar.cons r .nil) (f3.imp G.ff λ_ _ _ z=>z) f4 c L),f4}} G.ff
    .rw[ak λz=>by grind];lia
    .rw[ak λz=>by grind];lia
   grind
  grind
def uy(i:Nat)(C:Ψ)(f:Str):RF:=λa o=>(obj i C a o).bind λy=>match y.2.lookup f with
 |some (.lst d)=>↑(.int d.length)
 |_=>none
def K7(B:nC X "len" (.builtin "len"))(n:X.N[i]?=↑x)(v:nW X.env.scope x)(cl:sd X.K C)(r:eL X.K C f)
  (m:attributeBase (.Name x px) f X.env (eval (.Name x px) X.env)=eval (.Name x px) X.env:=by rfl)(D:(x==("__debug__":Str))=false:=by decide)(R:(x==("__classdict__":Str))=false:=by decide)
  (E:starEach [.Attribute (.Name x px) f WH] X.env=(false,eval (.Attribute (.Name x px) f WH) X.env)::starEach [] X.env:=by rfl) :
  OR X VA VB pa (.Call (.Name "len" p) [.Attribute (.Name x px) f WH] [] pos) (uy i C f):=
 aF (kz mL B.gl B.mg B.bt (ba (wx (bQ n v D R) m) cf E) (by decide) (by decide) E rfl) λt H Q z=>by
  let(a,P,s,d,S,F,q):=z;let((k,st),l,F):=bs F;let(c,e):=obj_some l;split at F
  .rename_i J g;cases F;let(y,A,w,o):=S;have L:k<s.length:=(List.getElem?_eq_some_iff.mp e).1;show JF X.K (Fg i) f t H _;refine pV o c e g cl r λM fs I b u f1 f2 f3 f4 O G j=>?_;exact{b,u,rfl,.inl<|iw.of<|o.S.gr.hh _ _<|o.sb k L _ _ G,q _ H a (.refl o.S.gr.fh)<|by simp[Rep,j.length]}
  .cases F
end
section
variable {K:Φ}{os VL:Γ Oj}{ad:Nat->Ψ}
def FS(H B:Hp):Hp:=λb=>match H b with|some o=>↑o|none=>B b
def MK(h:H b=↑o):FS H B b=↑o:=by unfold FS;rw[h]
def Ib(h:H b=none):FS H B b=B b:=by unfold FS;rw[h]
def GN(h:FS H B b=↑o):H b=↑o\/(H b=none/\B b=↑o):=by
 unfold FS at h
 grind
def nO.make{VA VB HF H VD H':Hp}{pa:Γ Ψ}{ρ:ao}{σ:L2.St}{HB:Hp}{Bs:Nat->Hp}(h:nO K VA VB pa HF H ρ os σ HB ad Bs)(t:Dm HF Hn B0 VD H' B')(B:∀b o,H b=↑o->cut Hn B0 b=↑o)(q:EK K VD B' C x U)(N:∀(i k:Nat),ρ[i]?=↑(Slot.obj k)->k<os.length) :
  nO K VA VB pa VD H' ρ (os++[{C,U}]) σ (FS HB B') (λj=>if j=os.length then x else ad j) (λj=>if j=os.length then B' else Bs j):=by
 have g:=h.S.gr;have d:az HB H:=g.hh;have f:∀b o,B' b=↑o->H b=none:=λb o e=>by
  cases z:H b with
  |none=>rfl
  |some u=>have:=(t.nw b o e).2;rw[B b u z]at this;cases this
 have n:∀b o,B' b=↑o->HB b=none:=λb o e=>by
  cases z:HB b with
  |none=>rfl
  |some u=>have:=f b o e;rw[d b u z]at this;lia
 have G:bc VA (FS HB B') VD H':=by
  refine{λb o e=>?_,g.ff.trans t.gr.ff,t.gr.fh,λb o e=>?_}
  .rcases GN e with z|⟨_,z⟩
   .exact t.gr.hh b o<|B b o<|d b o z
   .exact t.sb b o z
  .have N:B' b=none:=by
    cases z:B' b with
    |none=>rfl
    |some u=>rw[(t.nw b u z).1]at e;grind
   have fin:HB b=none->FS HB B' b=none:=λz=>by rw[Ib z];lia
   rcases t.gr.nw b o e with z|z
   .rcases g.nw b o z with y|y<;>grind
   .refine .inr<|fin ?_;cases y:HB b with
    |none=>rfl
    |some u=>rw[B b u<|d b u y]at z;lia
 have l:∀{j:Nat},j<(os++[{C,U}]:Γ Oj).length->j≠os.length->j<os.length:=λ{j}w A=>by
  grind
 refine{Aq h.S G t.gr.ff (λb o p r=>?_) λi k e=>yN<|yR<|N i k e,λb o e=>MK<|h.h0 b o e,λj o e=>?_,λj J b o e=>?_,λj J b o e=>?_,λi j I J E b o e=>?_,by rw[zN];exact yD h.pl<|jU _ _,λk a e=>?_}
 .have ch:=B b o r;refine{t.gr.hh b o ch,?_,λs=>t.gr.Wa s ch};show FS HB B' b=none;rw[Ib p];cases z:B' b with
  |none=>rfl
  |some u=>grind
 .show EK K VD (if j=os.length then B' else Bs j) o.C (if j=os.length then x else ad j) o.st;by_cases J:j=os.length
  .rw[yL J,yL J];rw[J,yT<|yM _,Nat.sub_self]at e;cases e;exact q
  .rw[yN J,yN J];rw[yS<|l (List.getElem?_eq_some_iff.mp e).1 J]at e;exact(h.at_ j o e).mono t.gr.ff
 .by_cases X:j=os.length
  .rw[yL X]at e;rw[Ib<|n b o e];lia
  .rw[yN X]at e;exact MK<|h.sb j (l J X) b o e
 .by_cases X:j=os.length
  .rw[yL X]at e;have v:=n b o e;refine{?_,?_}
   .cases z:VB b with
    |none=>rfl
    |some u=>rw[h.h0 b u z]at v;lia
   .cases z:VA b with
    |none=>rfl
    |some u=>have:=(t.nw b o e).1;rw[t.gr.ff b u<|g.ff b u z]at this;lia
  .rw[yN X]at e;exact h.fr j (l J X) b o e
 .by_cases c:i=os.length
  .rw[yL c]at e;have m:j≠os.length:=λz=>E<|c.trans z.symm;rw[yN m];cases z:Bs j b with
   |none=>rfl
   |some u=>have:=h.sb j (l J m) b u z;rw[n b o e]at this;cases this
  .rw[yN c]at e;by_cases X:j=os.length
   .rw[yL X];cases z:B' b with
    |none=>rfl
    |some u=>have:=h.sb i (l I c) b o e;grind
   .rw[yN X];exact h.dj i j (l I c) (l J X) E b o e
 .rw[yN<|yR<|zP (List.getElem?_eq_some_iff.mp e).1 h.pl];exact h.pa k a e
def LS{VB:Hq}(S:gS K VA VB HF H ρ σ):gS K VA VB HF H (ρ.set i<|.obj k) (σ.set i<|↑(.ref<|VB.ad k)):=by
 have E:∀{j:Nat}{s:Slot},(ρ.set i<|.obj k)[j]?=↑s->s≠.obj k->i≠j/\ρ[j]?=↑s:=λ{j s}h o=>by
  rw[xI]at h;by_cases N:i=j
  .rw[yL N]at h;split at h
   .cases h;exact absurd rfl o
   .cases h
  .rw[yN N]at h;exact⟨N,h⟩
 refine{S.gr,λj e h=>?_,λj d h=>?_,λj k d m a b c g l=>?_,by rw[yC,yC];exact S.len,S.tb,λj f h=>?_,λj k f p b c=>S.one j k f p (E b λz=>by cases z).2 (E c λz=>by cases z).2,λj n h=>?_}
 .let(N,h):=E h λz=>by cases z
  rw[xI,yN N];exact S.val j e h
 .let(N,h):=E h λz=>by cases z
  rw[xI,yN N];exact S.own j d h
 .let(q,b):=E b λz=>by cases z
  let(r,c):=E c λz=>by cases z
  rw[xI,yN q]at g;rw[xI,yN r]at l;exact S.inj j k d m a b c g l
 .let(N,h):=E h λz=>by cases z
  rw[xI,yN N];exact S.tab j f h
 .rw[xI]at h ⊢;by_cases N:i=j
  .rw[yL N]at h ⊢;split at h
   .rename_i L;cases h;rw[yL<|zP L S.len]
   .cases h
  .rw[yN N]at h ⊢;exact S.ob j n h
end
section
variable {os VL:Γ Oj}{st:Ω}{rest:Γ Ω}
def below(n:Nat):Slot->θ|.obj k=>decide (k<n)|_=>true
def Af(i:Nat)(C:Ψ)(n:Nat)(m:Γ Slot->Fs->Δ (D×Fs))(fs:yf):OG:=λa o=>(fs a o).bind λy=>if a.all (below y.2.length)=true/\y.1.length+1=n then(m (.obj 0::y.1.map Slot.val) []).bind λw=>match w.1 with
 |.none=>↑(.nx (a.set i<|.obj y.2.length)<|y.2++[{C,w.2}])
 |_=>none else none
def Md{fs:yf}{pos':Pos}(M:Mk X.K C f)(F:dE X.prog X.w X.K X.mg X.base tI k f fd ps (LC X.K C n mi))(hr:bT (k+1) X.A)(g:Gl X cn)(hm:X.mg cn=↑(.ref C))(hb:Binds X.K fd ps [])(ha:OA X VA VB pa (e::es) fs)
  (hN:X.N.Nodup)(hi:X.N[i]?=↑x)(hx:Loc X.env.scope x)
  (V5:(cn==("__debug__":Str))=false:=by decide)(he:starEach (e::es) X.env=(false,eval e X.env)::starEach es X.env:=by rfl)(Wh:(backTo cpos<|starEach es X.env).any (·.1)=false:=by rfl)
  (hs:swapsWith (.Call (.Name cn p) (e::es) [] cpos) (↑(.Name x pos')) pos.line X.env=pure false:=by rfl)
  (hf:X.fn x=true\/X.env.scope.names.lookup x=↑.local:=by first|exact .inl rfl|exact .inr rfl|assumption):OS X VA VB pa (.Assign [.Name x pos'] (.Call (.Name cn p) (e::es) [] cpos) pos) (Af i C n mi fs):=
 bL (oK hN hi hx (KH (E:=E0) M F hr g hm hb .nil o8 ha V5 he Wh) hs hf) λE σ H z=>by
  let(Z,R,os,o,S,g,q):=z;let((L,o1),h1,g):=bs g;split at g
  .rename_i hc;let((d,Wb),h2,g):=bs g;split at g
   .rename_i J;cases g;have J:d=.none:=J;subst J;refine{Z,R,os,L,o1,S,h1,λvs s I z s1 r1 x D Q a c=>?_};let(W,ad,Bs,O):=z;rw[qF];let B:Hp:=upd (upd (λ_=>none) D<|.own x) x<|.ins C D [];let G:Hp:=upd (upd s D<|.own x) x<|.ins C D [];have bx:B x=↑(.ins C D []):=av;have bd:B D=↑(.own x):=by show upd _ x _ D=_;rw[ak c,av]
    have m:∀b u,s b=↑u->b≠x/\b≠D:=λb u z=>{aM z Q,aM z a}
    have hB:∀b u,s b=↑u->cut G B b=↑u:=λb u z=>by
     let(z1,z2):=m b u z;refine je ?_ ?_
     .show upd _ x _ b=_;rw[ak z1,ak z2];exact z
     .show upd _ x _ b=_;rw[ak z1,ak z2]
    have P:∀b u,B b=↑u->I b=none/\G b=↑u:=λb u z=>by
     have z:upd (upd (λ_=>none) D<|.own x) x (.ins C D []) b=↑u:=z;by_cases y:b=x
     .rw[y]at z ⊢;rw[av]at z;cases z;exact{O.S.gr.fh.free Q,av}
     .rw[ak y]at z;by_cases Y:b=D
      .rw[Y]at z ⊢;rw[av]at z;cases z;refine{O.S.gr.fh.free a,?_};show upd _ x _ D=_;rw[ak c,av]
      .rw[ak Y]at z;cases z
    have sm:az I G:=λb u z=>by
     let(z1,z2):=m b u<|O.S.gr.fh b u z;show upd _ x _ b=_;rw[ak z1,ak z2];exact O.S.gr.fh b u z
    refine{I,B,x,Slot.obj 0::L.map Slot.val,[],.none,Wb,sm,O.S.tb,λb u z=>(P b u z).2,λb u z=>(P b u z).1,{D,[],[],bx,bd,.nil,.nil},.obj<|lz r1,by simpa using hc.2,h2,λv U VD T t z r=>?_};simp?[Rep]at r;refine{r,?_};have nb:∀(i k:Nat),R[i]?=↑(Slot.obj k)->k<o1.length:=λi k y=>by
     have:=List.all_eq_true.mp hc.1 _<|qB y;exact yQ this
    have l:=O.make t hB z nb;refine q _ U VD {_,_,_,l.pure (σ':=σ.set i<|↑(.ref x)) ?_<|.refl _}<|s1.trans t.gr.ff;have:=LS (i:=i) (k:=o1.length) l.S;rw[show(Hq.mk (FS W T) λj=>if j=o1.length then x else ad j).ad o1.length=x from yL rfl]at this;exact this
   .cases g
  .cases g
end
section
variable {K:Φ}
def uL(r:ar K HF ds us)(h:ds[ds.length-1]?=↑d):∃v,us[us.length-1]?=↑v/\Rep K HF d v:=by
 let(v,H,R):=r.getD h;exact{v,by rw[r.length];lia,R}
def oP:∀{ds:Γ D}{us:Γ V},ar K HF ds us->ar K HF ds.dropLast us.dropLast
 |[],us,r=>by rw[r.nil_inv];rfl
 |[d],us,r=>by
  let(v,s,rfl,_,R):=r.cons_inv;rw[R.nil_inv];rfl
 |d::a::ds,us,r=>by
  let(v,s,rfl,r1,R):=r.cons_inv;let(e,S,rfl,b,c):=R.cons_inv;exact ar.cons r1<|oP R
end
end Ob
namespace Dl
open PySem L2 PySem.Spec PyProof.Rows
def JS(i:Nat):ao->Δ Out:=oN i λd=>if d=[]then none else↑d.dropLast
def Pr(i:Nat)(n:X.N[i]?=↑x)(l:nW X.env.scope x)(D:(x==("__debug__":Str))=false)(R:(x==("__classdict__":Str))=false)(I:(apos.endLine==cpos.line)=true) :
  DS X VA VB (.Expr (.Call (.Attribute (.Name x px) "pop" apos) [] [] cpos) pos) (JS i):=
 bL (iW<|Gz qM PySem.F.slot_list_pop PySem.F.type_list_pop GW (bQ n l D R) rfl I) λE m H z=>by
  let(k,u,o,S,G,q):=z;let(s,t,j,b,rfl):=iC G;let(a,v,f,e,p,r,g):=S.own i s j;by_cases c:s=[]
  .rw[yL c]at b;cases b
  rw[yN c]at b;cases b;obtain⟨d,D⟩:∃d,s[s.length-1]?=↑d:={_,zK (by have:=List.length_pos_iff.mpr c;lia)}
  let(y,Y,_):=Ob.uL g D;exact{.ref a,f,.inl {rfl,v,iw.of e},a,v,y,rfl,rfl,e,Y,q m _ k (S.mut j f e<|Ob.oP g)<|.refl _}
def Bb(i j:Nat):Env->Δ (Γ D):=λb=>(ae i b).bind λa=>(ae j b).bind<|BD a
end Dl
namespace Rf
open PySem L2 Dl PySem.Spec PyProof.Rows
variable {env:PySem.Env}{cs fz:Γ Nat}{py apos:Pos}
def uz{c:Prop}[Decidable c]{a:Δ α}(h:(if c then a else none)=↑z):c/\a=↑z:=by
 grind
def IR(e:γ):θ:=e.ctorIdx==26||e.ctorIdx==25||e.ctorIdx==22
def l9(h:IR b=false):mY b:=by
 cases b<;>first|(intro _ _;rfl)|cases h
abbrev GS:=ao->Δ Out
def turns:Nat:=1000000
structure Sg where
 fn:Γ (Str×Nat×(Γ D->Δ D))
 int:Γ (Str×Int)
structure Vx(G:Sg)(X:Cx)(j:Nat):Prop where
 fn:∀x n m,G.fn.lookup x=↑(n,m)->FB X.prog X.w X.K X.mg X.base j x n m
 int:∀x i,G.int.lookup x=↑i->∃t,X.mg x=↑(.int i t)
 bn:Bn X
def sX:γ->Γ Str
 |.Name x _=>[x]
 |.Tuple e _ _=>e.flatMap fun|.Name x _=>[x]|_=>[]
 |_=>[]
def oJ(N:Γ Str)(scope:ζ)(xs:Γ Str):Γ Str:=xs++N.filter λx=>decide (scope.names.lookup x=↑.free)
structure Cn(G:Sg)(X:Cx)(N:List Str)(sc:Scope)(j k:Nat):Prop where
 b:Bk X N sc k
 g:Vx G X j
 le:j<=k
section
variable {G:Sg}{X:Cx}{N:Γ Str}{sc:ζ}{k j:Nat}{pos p:Pos}{VA:Hp}{VB:Hq}
def Cn.c(C:Cn G X N sc j k):X.calm=true:=C.b.calm
def Cn.u3(C:Cn G X N sc j k):X.A.in1.in1.in1.units<cLine:=by
 have:=C.b.u66;show X.A.units+1+1+1<cLine;lia
def Cn.bl(C:Cn G X N sc j k)(h:(yi sc x&&df.contains x)=true)(H:bootBuiltins x=↑v):nC X x v:=by
 rw[zF]at h;exact C.b.blt C.g.bn h.1 (List.contains_iff_mem.mp h.2) H
def Cn.gi(C:Cn G X N sc j k)(h:yi sc x=true)(hi:G.int.lookup x=↑i)(d:(x==("__debug__":Str))=false):DE X (.Name x pos) (fC<|.int i):=let ⟨_,ht⟩:=C.g.int x i hi;LX (C.b.gl h) ht d
def bo{env:PySem.Env}:∀{es:Γ γ},(es.all λe=>!isStar e)=true->(backTo pos<|starEach es env).any (·.1)=false
 |[],_=>rfl
 |e::es,h=>by
  rw[xS,zF,yP]at h;rw[aA h.1];show(false||(backTo pos<|starEach es env).any (·.1))=false;rw[bo h.2];rfl
def Cn.call(C:Cn G X N sc j k)(a:DA X (e::es) fs)(l:G.fn.lookup x=↑(n,m))(H:(yi sc x&&!(x==("__debug__":Str)))=true)(hs:isStar e=false)(ht:(es.all λe=>!isStar e)=true):DE X (.Call (.Name x p) (e::es) [] pos) (aj n m fs):=by
 simp?[zF,yP]at H;exact LU (C.g.fn x n m l) (C.b.room.mono C.le) (C.b.gl H.1) a H.2 (aA hs)<|bo ht
def Ht(h:(es.all λe=>!isStar e)=true)(l:es.length<20):((backTo cpos<|starEach es env).all (λx=>!x.1)&&(backToKw cpos<|keywordEach [] env).all (λx=>x.1.isSome)&&decide (es.length+([]:Γ Keyword).length+(if([]:Γ Keyword).isEmpty then 0 else 1)<30))=true:=by
 have H:(backTo cpos<|starEach es env).all (λx=>!x.1)=true:=by
  have:=bo (pos:=cpos) (env:=env) h;rw[List.all_eq_not_any_not];simpa using this
 rw[H];simp[backToKw,keywordEach];lia
def Cn.blk(C:Cn G X N sc j k)(v:kj sc scope N (oJ N scope<|sX tg) t cs=true)(Y:∀fp s H,Cn G (aW X scope (oJ N scope<|sX tg) fp s H) (oJ N scope<|sX tg) scope j k->DG (aW X scope (oJ N scope<|sX tg) fp s H) tg tgt/\MX (aW X scope (oJ N scope<|sX tg) fp s H) ifs tt/\DE (aW X scope (oJ N scope<|sX tg) fp s H) elt te) :
  iQ X scope (oJ N scope<|sX tg) (kh t cs)/\∀fp s H,DG (aW X scope (oJ N scope<|sX tg) fp s H) tg tgt/\MX (aW X scope (oJ N scope<|sX tg) fp s H) ifs tt/\DE (aW X scope (oJ N scope<|sX tg) fp s H) elt te:=
 let ⟨S,B⟩:=C.b.comp v
 {S,λfp s H=>Y fp s H {B fp s H,{C.g.fn,C.g.int,C.g.bn},C.le}}
def ya(h:(e.ctorIdx==7)=false):∀x,foldedSetIterable e env x=pure x:=by
 cases e<;>first|(intro _;rfl)|exact nomatch (show true=false from h)
def Cn.comp(C:Cn G X N sc j k)(d:DI X tg iter fi)(Y:∀fp s H,Cn G (aW X scope (oJ N scope<|sX tg) fp s H) (oJ N scope<|sX tg) scope j k->DG (aW X scope (oJ N scope<|sX tg) fp s H) tg tgt/\MX (aW X scope (oJ N scope<|sX tg) fp s H) ifs tt/\DE (aW X scope (oJ N scope<|sX tg) fp s H) elt te)
  (f:(iter.ctorIdx==7)=false)(v:kj sc scope N (oJ N scope<|sX tg) t cs=true):DF X (.ListComp elt [{tg,iter,ifs,0}] scope pos) (ax t cs fi tgt tt te):=let ⟨S,h⟩:=C.blk v Y;L4 C.c S d h<|ya f
def Cn.setC(C:Cn G X N sc j k)(d:DI X tg iter fi)(Y:∀fp s H,Cn G (aW X scope (oJ N scope<|sX tg) fp s H) (oJ N scope<|sX tg) scope j k->DG (aW X scope (oJ N scope<|sX tg) fp s H) tg tgt/\MX (aW X scope (oJ N scope<|sX tg) fp s H) ifs tt/\DE (aW X scope (oJ N scope<|sX tg) fp s H) elt te)
  (f:(iter.ctorIdx==7)=false)(v:kj sc scope N (oJ N scope<|sX tg) t cs=true)(l:nQ N sc i x=true)(hc:decide (sc.names.lookup x=↑.local)=true)(a:(px.line==pos.line&&!(scope.names.any λ(n,k)=>n==x&&(k==.local || k==.cell)))=true) :
  DS X VA VB (.Assign [.Name x px] (.ListComp elt [{tg,iter,ifs,0}] scope pos) p) (bb i fz<|ax t cs fi tgt tt te):=
 let ⟨S,h⟩:=C.blk v Y;let ⟨z1,z2,_,_⟩:=C.b.loc l
 JC i _ C.c S d h z1 z2 (C.b.adF hc) (C.b.swap hc a) (ya f)
def Cn.swl(C:Cn G X N sc j k)(h:(decide (sc.names.lookup x=↑.cell)||!(px.line==pos.line))=true):swapsWith (.ListComp elt gens scope pos) (↑(.Name x px)) line X.env=pure false:=by
 rcases jA _ _▸h with h|h
 .exact C.b.ack h
 .rw[yP]at h;rw[sQ,h];simp
def Cn.set(C:Cn G X N sc j k)(l:nQ N sc i x=true)(H:DE X e f)(hs:swapsWith e (↑(.Name x px)) pos.line X.env=pure false):DS X VA VB (.Assign [.Name x px] e pos) (aL i fz f):=let ⟨z1,z2,z3,z4⟩:=C.b.loc l;NT i _ z1 z2 z3 H hs z4
def Cn.ad2(C:Cn G X N sc j k)(l:nQ N sc i x=true)(H:DF X e f)(hs:swapsWith e (↑(.Name x px)) pos.line X.env=pure false):DS X VA VB (.Assign [.Name x px] e pos) (bb i fz f):=let ⟨z1,z2,z3,z4⟩:=C.b.loc l;Ml i _ z1 z2 z3 H hs z4
def Cn.g1(C:Cn G X N sc j k)(l:nQ N sc i x=true):DG X (.Name x pos) (fG i):=let ⟨z1,z2,z3,z4⟩:=C.b.loc l;Lo i z1 z2 z3 z4
def Cn.g2(C:Cn G X N sc j k){px py:Pos}(H:nQ N sc i x=true)(m:nQ N sc l y=true):DG X (.Tuple [.Name x px,.Name y py] n pos) (jx i l):=let ⟨z1,z2,z3,z4⟩:=C.b.loc H;let ⟨_,w,W,a⟩:=C.b.loc m;Pc i l C.c z1 z2 z3 w W z4 a
def Cn.t1(C:Cn G X N sc j k)(l:nQ N sc i x=true):OX X VA VB (.Name x pos) (AA i):=let ⟨z1,z2,z3,z4⟩:=C.b.loc l;FO i z1 z2 z3 z4
def Cn.t2(C:Cn G X N sc j k){px py:Pos}(H:nQ N sc i x=true)(m:nQ N sc l y=true):OX X VA VB (.Tuple [.Name x px,.Name y py] n pos) (js i l):=let ⟨z1,z2,z3,z4⟩:=C.b.loc H;let ⟨_,w,W,a⟩:=C.b.loc m;LH i l C.c z1 z2 z3 w W z4 a
def Cn.ad3(C:Cn G X N sc j k){P p2 Q q2 r1 R r:Pos}(H:fR N sc i x=true)(q:fR N sc l y=true)(B:nC X "sorted" (.builtin "sorted"))(a:nC X "set" (.type "set")):DF X (.Call (.Name "sorted" p) [.BinOp (.Call (.Name "set" P) [.Name x Q] [] r1) .BitOr (.Call (.Name "set" p2) [.Name y q2] [] R) r] [] pos) (Bb i l):=
 let ⟨A,d,e,f⟩:=C.b.W9 H;let ⟨g,m,n,o⟩:=C.b.W9 q;Gd C.c C.u3 B a A d g m e f n o
def Cn.app(C:Cn G X N sc j k){px apos cpos:Pos}(h:fR N sc i x=true)(H:DE X e f)(hs:isStar e=false)(l:(apos.endLine==cpos.line)=true):DS X VA VB (.Expr (.Call (.Attribute (.Name x px) "append" apos) [e] [] cpos) pos) (jq i fz f):=let ⟨a,A,c,d⟩:=C.b.W9 h;ER i _ a A H c d (by rw[aA hs];rfl) l<|aA hs
def Cn.ext(C:Cn G X N sc j k){px apos cpos:Pos}(h:fR N sc i x=true)(H:DF X e f)(hs:isStar e=false)(l:(apos.endLine==cpos.line)=true):DS X VA VB (.Expr (.Call (.Attribute (.Name x px) "extend" apos) [e] [] cpos) pos) (El i fz f):=let ⟨a,A,c,d⟩:=C.b.W9 h;ED i _ a A H c d (by rw[aA hs];rfl) l<|aA hs
def Cn.ins(C:Cn G X N sc j k){px apos cpos:Pos}(h:fR N sc i x=true)(hk:DE X e fk)(H:DE X U f)(hs:isStar e=false)(ht:isStar U=false)(l:(apos.endLine==cpos.line)=true):DS X VA VB (.Expr (.Call (.Attribute (.Name x px) "insert" apos) [e,U] [] cpos) pos) (FM i fz fk f):=let ⟨a,A,c,d⟩:=C.b.W9 h;E1 i _ a A hk H c d (by rw[aA hs,aA ht];rfl) l (aA hs)<|aA ht
def Cn.pop(C:Cn G X N sc j k){px apos cpos:Pos}(h:fR N sc i x=true)(l:(apos.endLine==cpos.line)=true):DS X VA VB (.Expr (.Call (.Attribute (.Name x px) "pop" apos) [] [] cpos) pos) (JS i):=let ⟨a,A,c,d⟩:=C.b.W9 h;Pr i a A c d l
def Cn.sto(C:Cn G X N sc j k){px W:Pos}(h:fR N sc i x=true)(hk:DE X U fk)(E:DE X e f)
  (H:∀v,assign (.Subscript (.Name x px) U W) X.env v=(do let o <- holding [v]<|eval (.Name x px) X.env;let I <- holding [v,o]<|eval U X.env;standAt W;holding [v,o,I]<|setItem o I v;release [v,o,I] []))
  (hs:swapsWithSole [.Subscript (.Name x px) U W] e pos.line X.env=pure false):DS X VA VB (.Assign [.Subscript (.Name x px) U W] e pos) (BN i fz fk f):=let ⟨a,A,c,d⟩:=C.b.W9 h;Jd i _ a A hk E c d H hs rfl rfl
def Cn.idx(C:Cn G X N sc j k){apos cpos:Pos}(O:DE X o fo)(H:DE X e fe)(hc:attributeBase o ("index":Str) X.env (eval o X.env)=eval o X.env)(hs:isStar e=false)(l:(apos.endLine==cpos.line)=true):DE X (.Call (.Attribute o "index" apos) [e] [] cpos) (f2 Al fo fe):=D3 hc (by rw[aA hs];rfl) l (aA hs) O H
def Cn.get(C:Cn G X N sc j k){apos cpos:Pos}{a b:γ}(O:DE X o fo)(H:DE X a fa)(B:DE X b fb)(hc:attributeBase o ("get":Str) X.env (eval o X.env)=eval o X.env)(hs:isStar a=false)(ht:isStar b=false)(l:(apos.endLine==cpos.line)=true):DE X (.Call (.Attribute o "get" apos) [a,b] [] cpos) (Jw fo fa fb):=L5 C.u3 hc (by rw[aA hs,aA ht];rfl) l (aA hs) (aA ht) O H B
def Cn.Z0(C:Cn G X N sc j (j+3))(L:C1 X q){cs:Γ Nat}{px F a p0:Pos}(w:DE X l fl)
  (y:∀A f c s H,Cn G (pz X A q scope (oJ N scope [x]) f c s H) (oJ N scope [x]) scope j j->DE (pz X A q scope (oJ N scope [x]) f c s H) body te)(e:yi sc "sorted"=true)(hs:isStar l=false)(v:kj sc scope N (oJ N scope [x]) 1 cs=true)(o:y0 scope (oJ N scope [x]) x=true)
  (B:∀cl m(Y:Θ)(u:Θ)(c:Ψ),bindArgs (W.kla_fn "<lambda>" q {[],[{x,none,px}],none,[],[],none,[]} body scope cl m (.ref c) Y) {[u],[]}=pure [(x,u)]) :
  DF X (.Call (.Name "sorted" p0) [l] [{↑"key",.Lambda {[],[{x,none,px}],none,[],[],none,[]} body scope F,a}] pos) (oG cs fl te):=
 Bk.Z0 (p:=x) C.b (C.b.blt C.g.bn e (by decide +kernel) EY) L v o B rfl w (λA f c s H d=>y A f c s H {d,{C.g.fn,C.g.int,C.g.bn},yM j}) (aA hs) (by rw[aA hs];rfl) (bo<|by simp[hs])
end
section
variable {K:Φ}
def rE(P:ε)(w:δ)(K:Φ)(g:Str->Δ Θ)(base:ι)(j:Nat)(l:Γ (Str×Nat×(Γ D->Δ D))):Prop:=∀x n m,l.lookup x=↑(n,m)->FB P w K g base j x n m
def mf(m:Str->Δ Θ)(l:Γ (Str×Int)):Prop:=∀x i,l.lookup x=↑i->∃t,m x=↑(.int i t)
def S6:rE P w K mg base j []:=λ_ _ _ h=>by cases h
def Rp(F:FB P w K mg base j x n m)(h:rE P w K mg base j l):rE P w K mg base j ((x,n,m)::l):=λy N M e=>by
 rw[yB]at e;cases q:y==x with
 |true=>rw[q]at e;cases e;rw[eq_of_beq q];exact F
 |false=>rw[q]at e;exact h y N M e
def TR:mf mg []:=λ_ _ h=>by cases h
def ML(F:∃t,mg x=↑(.int i t))(h:mf mg l):mf mg ((x,i)::l):=λy I e=>by
 rw[yB]at e;cases q:y==x with
 |true=>rw[q]at e;cases e;rw[eq_of_beq q];exact F
 |false=>rw[q]at e;exact h y I e
abbrev Tp(st:Ω)(N:Γ Str)(S:Sg)(g:GS):Prop:=∀(X:Cx)(_:Unit)(F:Hp)(H:Hq)(_:Unit)(j k:Nat),Cn S X N (ah st) j k->Unit->Fx X F H (aP st) g
abbrev UJ(st:Ω)(N:Γ Str)(S:Sg)(q:Str)(g:GS):Prop:=∀(X:Cx)(_:Unit)(F:Hp)(H:Hq)(_:Unit)(j:Nat)(_:Unit),Cn S X N (ah st) j (j+3)->C1 X q->Fx X F H (aP st) g
def Vk{st:Ω}(D:Em K mg x st ps)(S:aY N ps (ah st))(B:∀x∈df,mg x=none)(c:rE P w K mg base j fs)(hi:mf mg is)
  (t:Tp st N ⟨fs,is⟩ g):FB P w K mg base (j+1) x ps.length (bF g N.length):=by
 let(f,d,m,F,b):=D.ex;exact UB F S b m λX p hw k W E C _ _ a H=>by subst p;subst hw;subst k;subst W;subst E;exact t X () a H () j j {C,{c,hi,B},yM j} ()
def UV{st:Ω}(D:O7 K mg x st ps)(S:aY N ps (ah st))(B:∀x∈df,mg x=none)(o:rE P w K mg base j fs)(hi:mf mg is)
  (Q:x∈ka/\x++".<locals>."++"<lambda>"=q)(t:UJ st N ⟨fs,is⟩ q g):FB P w K mg base (j+4) x ps.length (bF g N.length):=by
 let(f,v,c,p,M,F,n,hc,b):=D.ex;refine UB (k:=j+3) F S n M λX m hw l W E C e i a H=>?_;subst m;subst hw;subst l;subst W;subst E;have L:C1 X q:=by
  refine{c,p,by rw[e,hc],by rw[i];exact Q.2,b,λa T=>?_};let(O,s,kV,d,y,A,Y,u,J,rfl,r,_):=F.ex;have:=T f O s _ J c p r Q.1 hc b;rw[<-Q.2];exact this
 exact t X () a H () j () {C,{o,hi,B},jU j 3} L
end
def Uh(a:sc.kind=.function:=by rfl)(b:sc.isCoroutine=false:=by rfl)(c:sc.isGenerator=false:=by rfl)(d:N.Nodup:=by decide +kernel)(e:N.take P.length=P:=by rfl)(f:∀x∈P,sc.names.lookup x=↑.local \/ sc.names.lookup x=↑.cell:=by decide +kernel)(g:∀y∈sc.names,y.2≠.free:=by decide +kernel):aY N P sc:={a,b,c,d,e,f,g}
end Rf
namespace Ex
open PySem L2 PySem.Spec PyProof.Rows
variable {rest:Γ Ω}
def tW(x:dX P w H h a o):∃ob,h.get? a=↑ob:=by
 cases o with
 |lst s=>let(_,_,_,_,e):=x;exact{_,e}
 |tup s=>let(_,_,_,(_,e,_),_):=x;exact{_,e}
 |dK v=>let(_,_,_,_,o,_,_,e,_):=x;exact{_,e}
 |dT v=>let(_,_,o,_,_,e,_):=x;exact{_,e}
 |set S n=>let(o,_,_,_,e,_):=x;exact{_,e}
 |ins C d fs=>let(_,_,_,e,_):=x;exact{_,e}
 |own y=>let(_,e):=x;exact{_,e}
 |xd fs=>let(_,(_,_,_,e,_),_):=x;exact{_,e}
 |rng l i=>let(_,_,_,e):=x;exact{_,e}
 |Wj ob u=>let(e,_):=x;exact{_,e}
 |tab q=>let(_,e,_):=x;exact{_,e}
 |Y0 q=>let(_,_,_,_,E,e,_):=x;cases E;exact{_,e}
 |met f y=>exact{_,(show h.get? a=↑_ from x)}
 |ext b=>let(_,(_,e),_):=x;exact{_,e}
structure EM(P:Program)(w:World)(l:List Env)(H:Hp)(s:Shared)(cls:Value)(ea:Addr)(H':Hp)(s':Shared):Prop where
 os:s'.os=s.os
 bare:AllBare s'.gens
 un:Un (iO l) [] H H' s.heap s'.heap
 VH:mV P w H' s'.heap
 fly:∃B a0,Heap.FlyingW B l ea cls a0 s'.heap/\∀b,b∉iO l->(H' b≠none\/∃o,s.heap.get? b=↑o)->∃o,B.get? b=↑o
def uE(P:ε)(w:δ):JH:=λl H s E e S=>∃A c a,e=.ref A/\EM P w l H s c A a S/\E c none a
section
variable {X:Cx}{pins:Γ (Ψ×Obj)}{σ:L2.St}{H H':Hp}{s s':Ξ}{cls:Θ}{ea:Ψ}
def CA(I:Inv X pins σ H s)(hs:X.stack=X.env::X.outer)(G:X.env.frame=↑X.env.locals)(k:X.ex=[])(A:s'.os=s.os)(r:AllBare s'.gens)(x:Un (iO X.stack) [] H H' s.heap s'.heap)(y:mV X.prog X.w H' s'.heap)
  (U:B.StaysIn s'.heap)(F:s'.heap.FunFrames B X.stack)(j:∀b,b∉iO X.stack->(H' b≠none\/∃o,X.VQ.heap.get? b=↑o)->∃o,B.get? b=↑o)(x1:Heap.FlyingW B X.outer ea cls a0 h')
  (K:∀b∈iO X.outer,∀o,s'.heap.get? b=↑o->(∀vs,o.data≠.fields vs)->∃l,h'.get? b=some {o with slots:=l}) :
  EM X.prog X.w X.outer X.VB X.VQ cls ea H' {s' with heap:=h'}:=by
 have N:∀b:Ψ,b∉X.ex:=λb=>by rw[k];simp
 have fs:iO X.stack=X.env.locals::iO X.outer:=by rw[hs];unfold iO;rw[jF,G]
 have L:∀b o,X.VQ.heap.get? b=↑o->b≠X.env.locals:=λb o e=>yR<|zP (zY e) I.ok.above;have t:∀b o,X.VQ.heap.get? b=↑o->b∉iO X.outer->b∉iO X.stack:=λb o e c z=>by
  rw[fs]at z;rcases List.mem_cons.mp z with z|z
  .exact L b o e z
  .exact c z
 have Z:∀b∈iO X.stack,H' b=none:=λb c=>by
  let(_,o,J,_):=I.stack.mem c;exact x.free b o J (I.WK b c)<|by simp
 have Jm:∀b u,H' b≠none->s'.heap.get? b=↑u->h'.get? b=↑u:=λb u f e=>by
  let(o,O):=j b (λz=>f<|Z b z)<|.inl f;have:=U b o O;rw[e]at this;cases this;exact x1.1 b u O
 have D:∀b o o2,b∉iO X.stack->X.VQ.heap.get? b=↑o->s'.heap.get? b=↑o2->h'.get? b=↑o2:=λb o o2 c e E=>by
  let(o3,O):=j b c<|.inr {o,e};have:=U b o3 O;rw[E]at this;cases this;exact x1.1 b o2 O
 have i:∀b,b∈iO X.outer->b∈iO X.stack:=λb c=>by rw[fs];exact zC _ c
 have Y:∀b∈iO X.outer,∀o,s'.heap.get? b=↑o->∃l,h'.get? b=some {o with slots:=l}:=λb c o e=>by
  let(_,o2,E,C):=F.mem<|i b c;rw[e]at E;cases E;exact K b c o e C
 refine{A.trans I.os,r,{λb o e n c _=>?_,λb o e n c _=>?_,λb o e n _=>?_,λb o e _=>?_,λb v e=>x.WT b v<|I.base.WT b v e,λb o u e=>x.WJ b o u<|I.base.WJ b o u e,?_},λa o e=>?_,B,a0,x1,λb c p=>?_}
 .have d:=I.base.keep b o e n c<|N b;have m:=I.base.free b o e n<|N b;have W:=t b o e c;exact D b o o W e<|x.keep b o d m W<|by simp
 .let(l,d):=I.base.slot b o e n c<|N b;have m:=I.base.free b o e n<|N b;let(M,E):=x.slot b _ d m (i b c) (by simp);let(S,g):=Y b c _ E;exact⟨S,g⟩
 .let(o1,d):=I.base.there b o e<|N b;exact x.free b o1 d (I.base.free b o e n<|N b)<|by simp
 .let(o1,d):=I.base.there b o e<|N b;let(o2,E):=x.there b o1 d (by simp);by_cases c:b∈iO X.outer
  .let(l,g):=Y b c o2 E;exact{_,g}
  .exact{o2,D b o o2 (t b o e c) e E}
 .exact I.base.Wx.trans<|x.Wx.trans<|.kept (λb u ⟨q,z⟩ e=>Jm b u (by rw[z];simp) e) λ_ _ e _=>e
 .refine (y a o e).Wa (λb u c q=>Jm b u ?_ q) (λ_ q=>q) λ_ _ q _=>q;rcases c with rfl|z
  .rw[e];simp
  .rw[z];simp
 .refine j b (λz=>?_) p;rw[fs]at z;rcases List.mem_cons.mp z with z|z
  .subst z;rcases p with f|⟨o,e⟩
   .exact f<|Z _ (by rw[fs];exact zE)
   .exact L _ o e rfl
  .exact c z
def RQ(hs:X.stack=X.env::X.outer)(f:X.env.frame=↑X.env.locals)(x:X.ex=[])
  (a:∀e s',wpAny (model X.prog X.w) X.A (leaving X.env e) (λ_ g=>uE X.prog X.w X.outer X.VB X.VQ U e g) (λ_ _=>False) s'->X.xe e s')(k:∀cls H',E cls none H'->U cls none H'):cO (uE X.prog X.w) X E:=by
 intro p t H s e s' I h;let(i,cls,H',rfl,F,hc):=h;let(B,c,W,j):=F.fly;refine a _ _ ?_;refine wpAny_leaves_onW (base:=B) (a0:=c) (cls:=cls) (by rw[I.ok.frames,hs]) f (by rw[<-hs];exact W) λr n q=>{i,cls,H',rfl,CA I hs f x F.os F.bare F.un F.VH W.1 W.2.2.1 (λb l m=>j b l (m.imp id λz=>by let(o,e):=z;exact I.base.there b o e (by rw[x];simp))) n λb _ o e d=>q b o e d,k _ _ hc}
def Bg(I:Inv X pins σ H s)(hs:X.stack=X.env::X.outer)(f:X.env.frame=↑X.env.locals)(x:X.ex=[])
  (E:∀e s',wpAny (model X.prog X.w) X.A (leaving X.env e) (λ_ c=>uE X.prog X.w X.outer X.VB X.VQ U e c) (λ_ _=>False) s'->X.xe e s')(m:Heap.MadeExcOf s.heap s'.heap ea cls args)(O:s'.os=s.os)(G:AllBare s'.gens)(d:U cls none H):X.xe (.ref ea) s':=by
 have a:=I.stack;apply E;have Y:∀env∈X.stack,∀b,env.frame=↑b->b∈iO X.stack:=λenv g b B=>List.mem_filterMap.mpr {env,g,B};refine wpAny_leaves_madeW (by rw[I.ok.frames,hs]) f (λb o=>W.of_hideAll _) (by rw[<-hs];exact W.funFrames_hide a Y) m λp t k r v l=>{ea,cls,H,rfl,(CA I hs f x O G (Un.kept m.keeps) (I.VH.kept m.keeps) (λb o q=>m.keeps b o<|W.of_hideAll _ q) ((W.funFrames_hide a Y).of_keeps λb o q _=>{o,m.keeps b o q,rfl}) (λb B i=>?_) k λb _ o e=>l b o e),d}
 have ⟨o,e⟩:∃o,s.heap.get? b=↑o:=by
  rcases i with n|h
  .let(u,j):=Option.ne_none_iff_exists'.mp n;exact tW<|I.VH b u j
  .let(o,e):=h;exact I.base.there b o e<|by grind
 exact{o,W.hideAll_get _ e B}
end
abbrev Jy:Γ Θ:=[.type "ValueError",.type "Exception",.type "BaseException",.type "object"]
def LP{K:Φ}(X:K.In h)(q:W.excIn K C Jy "ValueError.__new__"=true) :
  ∃b N nm Q bs d sn sub ab col dd k0 k1 k2 k3 k5 M,h.get? C=↑(excClassObj nm Q C N bs b d sn sub ab col dd k0 k1 k2 k3 k5 "ValueError.__new__")/\h.Ns N M/\M "__init__"=none/\OwnTail h Jy b:=by
 unfold W.excIn at q;split at q
 .rename_i dd c S o;split at q
  .rename_i e b k0 k1 k2 k3 n k5 m H;simp?[zF,vJ,yP]at q;obtain⟨⟨⟨⟨⟨rfl,rfl⟩,a⟩,ht⟩,v⟩,i⟩:=q;cases c with
   |mk nm bs O s Q d sn sub ab col D =>
    simp only at m a v i;subst m a;cases S with
    |mk l =>
     simp only at H;subst H;exact{b,s,nm,Q,bs,d,sn,sub,ab,col,dd,k0,k1,k2,k3,k5,_,X _ _ o,.of_isNs<|W.isNs_of_in X v,W.nsMap_none_of_in X v i,W.tail_of_in X ht}
  .cases q
 .cases q
def yz(I:Inv X pins σ H s)(hc:X.calm=true)(J:Gl X x)(L:X.mg x=↑(.ref C))(q:W.excIn X.K C Jy "ValueError.__new__"=true)
  (hs:X.stack=X.env::X.outer)(G:X.env.frame=↑X.env.locals)(a:X.ex=[])
  (f:∀e s',wpAny (model X.prog X.w) X.A (leaving X.env e) (λ_ o=>uE X.prog X.w X.outer X.VB X.VQ U e o) (λ_ _=>False) s'->X.xe e s')(u:U (.ref C) none H)(v:(x==("__debug__":Str))=false) :
  wpAny (model X.prog X.w) X.A (exec (.Raise (↑(.Call (.Name x np) [.Constant (.str t) i p] [] cpos)) none pos) X.env) Q X.xe s:=by
 let(P,N,M,O,bs,z,sn,b,B,c,D,g,j,l,m,n,S,r,y,d,T):=LP I.WX q;refine wpAny_Raise_call_subT (nm:=M) (q:=O) (N:=N) (bs:=bs) (hdct:=z) (sn:=sn) (sub:=b) (ab:=B) (col:=c) (dd:=D) (k0:=g) (k1:=j) (k2:=l) (k3:=m) (k5:=n)
  F.excBase_ValueError (T.hasType F.excBase_ValueError.hasBase) (I.ok.hd hc) rfl d (jg I J L {rfl,(Calls.evalArgs_plain<|jI<|Calls.Constant_str (k:=i) (pos:=p)<|kH {rfl,?_,r,y,T,λR e E=>(Bg (I.tok _) hs G a f E rfl I.bare u)})} v)
 .exact yD (show 1<=4000 by lia) (by decide)
open PySem L2 Dl PySem.Spec PyProof.Rows
def UQ(K:Φ)(m:Str->Δ Θ)(n:Nat)(xm:Γ D->Δ Str):Sp:=λs H _ E=>∃F d c C,az F H/\cx K F/\ar K F d s/\d.length=n/\xm d=↑c/\m c=↑(.ref C)/\∀a v,bc F H v a->E (.ref C) none a
structure Jl(P:Program)(w:World)(K:W.Frag)(mg:Str->Option Value)(base:Heap)(k:Nat)(x:Str)(n:Nat)(xm:List D->Option Str):Prop where
 ex:∃ (f:Ψ) (fd:η) (ps:Γ Str),dE P w K mg base (uE P w) k f fd ps (UQ K mg n xm)/\mg x=↑(.ref f)/\W.keepIn K (.ref f)=true/\Binds K fd ps []
def Jl.mono{K:Φ}{xm:Γ D->Δ Str}(F:Jl P w K mg base k x n xm)(h:k<=j):Jl P w K mg base j x n xm:=by
 let(f,e,p,a,b,c,d):=F.ex;exact{f,e,p,a.mono h,b,c,d}
structure Xk(X:Cx)(E:XK):Prop where
 hs:X.stack=X.env::X.outer
 hf:X.env.frame=↑X.env.locals
 hex:X.ex=[]
 hxe:∀e s',wpAny (model X.prog X.w) X.A (leaving X.env e) (λ_ W4=>uE X.prog X.w X.outer X.VB X.VQ E e W4) (λ_ _=>False) s'->X.xe e s'
def Xk.pass(x:Xk X E):cO (uE X.prog X.w) X E:=RQ x.hs x.hf x.hex x.hxe λ_ _ h=>h
def UG(K:Φ)(m:Str->Δ Θ)(E:XK)(x:Dl.Env->Δ Str):TE:=λd H _=>∃F b c C,az F H/\cu K F b d/\x b=↑c/\m c=↑(.ref C)/\∀a D,bc F H D a->E (.ref C) none a
def S7(X:Cx)(E:XK)(e:γ)(x:Dl.Env->Δ Str):Prop:=PE X e<|UG X.K X.mg E x
def tX(K:Φ)(m:Str->Δ Θ)(VA:Hp)(VB:Hq)(E:XK)(xg:ao->Δ Str):TS:=λ_ d H=>∃F b c C,gS K VA VB F H b d/\xg b=↑c/\m c=↑(.ref C)/\∀a D,bc VA VB D a->E (.ref C) none a
def DX(X:Cx)(E:XK)(VA:Hp)(VB:Hq)(st:Ω)(xg:ao->Δ Str):Prop:=PS X st<|tX X.K X.mg VA VB E xg
def Jo(X:Cx)(E:XK)(VA:Hp)(VB:Hq)(st:Γ Ω)(xg:ao->Δ Str):Prop:=qb X st<|tX X.K X.mg VA VB E xg
def A9(h:PA X.V0 es t):PA X es t:=λP p s b H Q I hw =>
 xA (h P p s b H Q (I.WM _) hw) (λ_ _ z=>by let(v,a,i,r,q):=z;exact {v,a,i.V1,r,q}) λ_ _=>False.elim
def Po{st:Ω}(h:PS X.V0 st t):PS X st t:=λp s a H D I hw =>
 xA (h p s a H D (I.WM _) hw) (λ_ _ q=>q.V1) λ_ _=>False.elim
def wU(n:Nat)(xm:Γ D->Δ Str)(fs:Dl.Env->Δ (Γ D)):Dl.Env->Δ Str:=λa=>(fs a).bind λd=>if d.length=n then xm d else none
def JP{xm:Γ D->Δ Str}{p pos:Pos}(F:Jl X.prog X.w X.K X.mg X.base k x n xm)(R:bT k X.A)(t:cO (uE X.prog X.w) X E)(s:Gl X x)(m:DA X.V0 (e::es) fs)(v:(x==("__debug__":Str))=false:=by decide)
  (r:starEach (e::es) X.env=(false,eval e X.env)::starEach es X.env:=by rfl)(W:(backTo pos<|starEach es X.env).any (·.1)=false:=by rfl):S7 X E (.Call (.Name x p) (e::es) [] pos) (wU n xm fs):=by
 let(f,I,P,O,M,hk,B):=F.ex;refine aF (mH O R s M hk B .nil t (A9 m) v r W) λJ H Q z=>?_;let(i,u,c,C,sm,o,a,hc,q):=z;let(d,Y,a):=bs a;split at a
 .rename_i L;exact{i,u,d,sm,o,Y,λS y l G r1=>{l,d,c,C,G.fh,o.tb.mono G.ff,by rw[qF];exact r1,L,a,hc,λb j g=>q b j<|G.trans g}}
 .cases a
def Rz{K:Φ}{D:Ends}(h:tX K mg VA VB E (λρ=>U<|aI ρ) D σ H):UG K mg E U σ H Q:=by
 let(F,ρ,c,C,S,x,hc,q):=h;exact{H,aI ρ,c,C,.refl _,S.all,x,hc,λa v G=>q a F (S.step G.hh).gr}
def Gy(h:S7 X E e U)(hs:swapsWith e none pos.line X.env=pure false:=by rfl):DX X E VA VB (.Expr e pos) (λρ=>U<|aI ρ):=bL (iW h hs) λD a H=>Rz
def rg{st:Ω}(h:DX X E VA VB st xg):Jo X E VA VB (st::rest) xg:=λp s a H D I q=>by
 refine vE<|b0 (h p s a H ⟨λ_ _=>False,λ_ _=>False,λ_ _=>False,λ_ _=>False⟩ I q) λf S z=>?_;cases f with
 |next=>let(_,_,_,z):=z;exact z.elim
 |brk=>let(_,_,_,z):=z;exact z.elim
 |cont=>let(_,_,_,z):=z;exact z.elim
 |ret u=>let(_,_,_,_,_,z):=z;exact z.elim
def On(g:ao->Δ Out)(xg:ao->Δ Str):ao->Δ Str:=λb=>(g b).bind λo=>match o with|.nx a=>xg a|.rt _=>none
def He{st:Ω}(h:DS X.V0 VA VB st g)(r:Jo X E VA VB rest xg):Jo X E VA VB (st::rest) (On g xg):=
 fZ (et (Po h) r) λD i H z=>by
  let(F,b,c,C,S,x,hc,q):=z;let(o,O,x):=bs x;cases o with
  |rt d=>cases x
  |nx a=>exact{F,b,.nx a,S,O,λe f v s _=>{v,a,c,C,s,x,hc,q}}
def O9(t:Dl.Env->Δ θ)(xa xb:ao->Δ Str):ao->Δ Str:=λa=>(t<|aI a).bind λb=>if b=true then xa a else xb a
def MU(hc:DT X.V0 c t)(A:Jo X E VA VB a xa)(B:Jo X E VA VB b xb):DX X E VA VB (.If c a b pos) (O9 t xa xb):=
 bL (uJ (.V0 hc) A B) λD f H z=>by
  let(F,d,c,C,S,x,hc,q):=z;let(b,h,x):=bs x;refine{H,aI d,b,.refl _,S.all,h,λe v G=>?_};cases b with
  |true=>exact mZ {F,d,c,C,S.step G.hh,x,hc,q}
  |false=>exact lJ {F,d,c,C,S.step G.hh,x,hc,q}
def GH(hk:Xk X E)(hc:X.calm=true)(g:Gl X x)(m:X.mg x=↑(.ref C))(q:W.excIn X.K C Jy "ValueError.__new__"=true)(v:(x==("__debug__":Str))=false:=by decide) :
  DX X E VA VB (.Raise (↑(.Call (.Name x np) [.Constant (.str t) i p] [] cpos)) none pos) (λ_=>↑x):=λP s e H D I z=>by
 let(F,d,c,b,S,a,U,z):=z;cases a;rw[m]at U;cases U;exact yz I hc g m q hk.hs hk.hf hk.hex hk.hxe (z H F S.gr) v
def sM(xg:ao->Δ Str)(n:Nat)(args:Γ D):Δ Str:=xg<|args.map Slot.val++List.replicate (n-args.length) .VC
def zu{K:Φ}(sm:az HF H)(tb:cx K HF)(r:ar K HF ds vs):gS K HF {H,λ_=>0} HF H (ds.map Slot.val++List.replicate (N.length-ds.length) .VC) (L2.start N vs):=by
 refine{.refl sm,λi e h=>?_,λi s h=>?_,λi j s fs a h=>?_,?_,tb,λi S h=>absurd h vy,λi j S l h=>absurd h vy,λi k h=>absurd h HZ}
 .have I:i<ds.length:=by
   by_cases I:i<ds.length
   .exact I
   .rw[yT<|by simpa using I,yX]at h;split at h<;>cases h
  rw[yS<|by simpa using I,zO]at h;let(D,d,h):=ai h;cases h;let(v,b,R):=r.getD d;refine{v,?_,R};unfold L2.start;rw[yS<|by simpa [r.length]using I,zO,b];rfl
 .exfalso;by_cases I:i<ds.length
  .rw[yS<|by simpa using I,zO]at h;let(D,d,h):=ai h;cases h
  .rw[yT<|by simpa using I,yX]at h;split at h<;>cases h
 .exfalso;by_cases I:i<ds.length
  .rw[yS<|by simpa using I,zO]at h;let(D,d,h):=ai h;cases h
  .rw[yT<|by simpa using I,yX]at h;split at h<;>cases h
 .unfold L2.start;rw[zN,zN,zD,zD,xM,xM,r.length];exact yM _
def fnX{K:Φ}{st:Ω}(F:yg K x qual st f fd)(S:aY N ps (ah st))(B:Binds K fd ps [])(m:mg x=↑(.ref f))
  (body:∀X E,X.prog=P->X.w=w->X.K=K->X.mg=mg->X.base=base->Bk X.V0 N (ah st) k->X.calm=true->Xk X E->∀VA VB,Jo X E VA VB (aP st) xg):Jl P w K mg base (k+1) x ps.length (sM xg N.length):=by
 refine{f,fd,ps,?_,m,F.kp,B};let(O,u,kV,d,M,n,Y,T,J,rfl,l,R):=F.ex;refine tT l R S (λv H Q E z=>by let(a,D,c,C,p,_,b,g,_):=z;rw[b.length,g]) λA o s H v Q E r z=>?_;let(a,D,c,C,sm,t,j,L,i,hc,q):=z;exact{_,body _ E rfl rfl rfl rfl rfl {rfl,S.nd,λy kd=>.inl,rfl,λ_ _=>rfl,r,rfl,S.kind} rfl {rfl,rfl,rfl,λe G z=>xA z (λ_ _ h=>h) λ_ _ h=>h.elim} a {H,λ_=>0},({a,_,c,C,zu sm t j,i,hc,q})}
section
variable {X:Cx}{pins:Γ (Ψ×Obj)}{σ:L2.St}{H H':Hp}{s s':Ξ}{cls:Θ}{ea:Ψ}
def Iz(I:Inv X pins σ H s)(x:Un (iO X.stack) [] H H' s.heap s'.heap)(v:mV X.prog X.w H' s'.heap)
  (W:B.StaysIn s'.heap)(F:s'.heap.FunFrames B X.stack)(g:∀b,b∉iO X.stack->(H' b≠none\/∃o,s.heap.get? b=↑o)->∃o,B.get? b=↑o)(x1:B.StaysIn h')(j:s'.heap.UpToSlots h') :
  Un (iO X.stack) [] H H' s.heap h'/\mV X.prog X.w H' h':=by
 have Z:∀b∈iO X.stack,H' b=none:=λb c=>by
  let(_,o,i,_):=I.stack.mem c;exact x.free b o i (I.WK b c)<|by simp
 have Jm:∀b u,H' b≠none->s'.heap.get? b=↑u->h'.get? b=↑u:=λb u N e=>by
  let(o,O):=g b (λz=>N<|Z b z)<|.inl N;have:=W b o O;rw[e]at this;cases this;exact x1 b u O
 have d:∀b o o2,b∉iO X.stack->s.heap.get? b=↑o->s'.heap.get? b=↑o2->h'.get? b=↑o2:=λb o o2 c e E=>by
  let(o3,O):=g b c<|.inr {o,e};have:=W b o3 O;rw[E]at this;cases this;exact x1 b o2 O
 have Y:∀b∈iO X.stack,∀o,s'.heap.get? b=↑o->∃l,h'.get? b=↑_:=λb c o e=>by
  let(_,o2,E,D):=F.mem c;rw[e]at E;cases E;exact j b o e D
 refine{{λb o e n c _=>(d b o o c e<|x.keep b o e n c<|by lia),λb o e n c _=>?_,λb o e n _=>x.free b o e n<|by lia,λb o e _=>?_,x.WT,x.WJ,(x.Wx.trans<|.kept (λb u ⟨q,z⟩=>Jm b u<|by grind) λ_ _ e _=>e)},λa o e=>?_}
 .let(k,E):=x.slot b o e n c (by lia);let(S,f):=Y b c _ E;exact⟨S,f⟩
 .let(o2,E):=x.there b o e (by lia);by_cases c:b∈iO X.stack
  .let(l,f):=Y b c o2 E;exact{_,f}
  .exact{o2,d b o o2 c e E}
 .refine (v a o e).Wa (λb u c=>Jm b u ?_) (λ_ q=>q) λ_ _ q _=>q
  grind
def EM.inv(I:Inv X pins σ H s)(F:EM X.prog X.w X.stack H s cls ea H' s'):Inv X pins σ H' s':=I.ZM F.os F.un F.VH F.bare λb B=>absurd B<|by simp
def EM.Wa(I:Inv X pins σ H s)(F:EM X.prog X.w X.stack H s cls ea H' s')(W:Heap.FlyingW B X.stack ea cls a0 s'.heap)(a:∀b,b∉iO X.stack->(H' b≠none\/∃o,s.heap.get? b=↑o)->∃o,B.get? b=↑o)
  (x1:Heap.FlyingW B X.stack ea cls a0 h')(x:s'.heap.UpToSlots h'):EM X.prog X.w X.stack H s cls ea H' {s' with heap:=h'}:=by
 let(u,k):=Iz I F.un F.VH W.1 W.2.2.1 a x1.1 x;exact{F.os,F.bare,u,k,B,a0,x1,a}
def land{M:Model}{E:Θ->Ξ->Prop}{Q:Unit->Ξ->Prop}(I:Inv X pins σ H s)(hs:X.stack=X.env::X.outer)(f:X.env.frame=↑X.env.locals)(F:EM X.prog X.w X.stack H s cls ea H' s')
  (k:∀h',EM X.prog X.w X.stack H s cls ea H' {s' with heap:=h'}->Q () {s' with heap:=h'}) :
  wpAny M X.A (noteFrame (.ref ea) X.env) (λ_ s2=>wpAny M X.A (setFlight (.ref ea) none) Q E s2) E s':=by
 let(B,a,W,d):=F.fly;refine wpAny_looks_onW (base:=B) (a0:=a) (cls:=cls) (by rw[I.ok.frames,hs]) f (by rw[<-hs];exact W) λb e x=>?_;refine wpAny_landsW (s:={s' with heap:=b}) e λc y Y=>k c ?_;exact F.Wa I W d (by rw[hs];exact y)<|x.trans Y
def again{M:Model}{A:ξ}{E:Θ->Ξ->Prop}{Q:Unit->Ξ->Prop}(I:Inv X pins σ H s)(F:EM X.prog X.w X.stack H s cls ea H' s')
  (k:∀h',EM X.prog X.w X.stack H s cls ea H' {s' with heap:=h'}->Q () {s' with heap:=h'}):wpAny M A (setFlight (.ref ea) none) Q E s':=by
 let(B,c,W,b):=F.fly;exact lands_againW W λa y Y=>k a<|F.Wa I W b y Y
end
abbrev j5(X:Cx)(a:ξ):Cx:={X with A:=a,calm:=false}
def qp(I:Inv X pins σ H s)(Y:U.frames=X.A.frames):Inv (j5 X U) pins σ H s:=
 let o:=I.ok
 {{o.mod,o.kind,o.glob,o.blt,o.above,o.inj,o.has,o.cab,λz=>(by cases z),Y.trans o.frames,o.ZK,o.exf,o.bs,o.ZE,o.X8,o.YB,o.Wz,o.frf},I.os,I.bare,I.base,I.loc,I.cell,I.free,I.VV,I.pin,I.VH,I.len}
def BL(o:X.Ok)(I:Inv (j5 X U) pins σ H s):Inv X pins σ H s:={o,I.os,I.bare,I.base,I.loc,I.cell,I.free,I.VV,I.pin,I.VH,I.len}
def Bm{t':Nat}(I:Inv X pins σ H s)(j:h'.Ns X.env.locals U)(hs:Heap.SameBut X.env.locals s.heap h'):Inv X pins (List.replicate X.N.length none) H {s with heap:=h',toks:=t'}:=by
 have L:∀b o,X.VQ.heap.get? b=↑o->b≠X.env.locals:=λb o e=>yR<|zP (zY e) I.ok.above;have k:∀b o,b≠X.env.locals->s.heap.get? b=↑o->h'.get? b=↑o:=λb o E=>(hs.2 b E).trans;have t:∀b u,H b=↑u->b≠X.env.locals:=λb u e z=>by rw[z,I.free]at e;grind
 refine{I.ok,I.os,I.bare,{λb o e n B d=>k b o (L b o e)<|I.base.keep b o e n B d,λb o e n B d=>?_,I.base.free,λb o e d=>?_,I.base.WT,I.base.WJ,(I.base.Wx.trans<|.kept (λb u ⟨q,z⟩=>k b u<|t b _ z) λ_ _ e _=>e)},{U,j,λi x v _ g _=>?_},λx c e=>?_,I.free,I.VV,λp P=>?_,λa o e=>?_,?_}
 .let(S,f):=I.base.slot b o e n B d;exact{S,k b _ (L b o e) f}
 .let(l,f):=I.base.there b o e d;exact{l,k b _ (L b o e) f}
 .rw[yX]at g;split at g<;>cases g
 .let(v,o,O,D):=I.cell x c e;exact{v,o,k c o (I.cne x c e) O,D}
 .let(e,n,E,r):=I.pin p P;exact{k _ _ E e,n,E,r}
 .refine (I.VH a o e).Wa (λb u B=>k b u ?_) (λ_ q=>q) λ_ _ q _=>q;rcases B with rfl|z
  .exact t b _ e
  .exact t b _ z
 simp
def ExcAt(l:Γ PySem.Env)(H:Hp)(h:ι)(ea:Ψ)(cls:Θ):Prop:=(∃ob v,h.get? ea=↑ob/\ob.cls=cls/\ob.data=.fields v)/\H ea=none/\ea∉iO l
def OO{rest:Γ ExceptHandler}{D:Ends}(I:Inv X pins σ H s)(F:EM X.prog X.w X.stack H s cls ea H' s')(hg:Gl X x)(hm:X.mg x=↑(.ref C))(V5:(x==("__debug__":Str))=false)
  (hx:W.exmOne X.K cls (.ref C)=↑true)(hN:X.N.Nodup)(hi:X.N[i]?=↑n)(hl:X.env.kindOf n=↑.local)(Y:X.env.scope.names.lookup n=↑.local)(WY:X.env.cells.lookup n=none)
  (k:∀s2,Inv (j5 X<|X.A.mark<|↑(.ref ea)) pins (σ.set i<|↑(.ref ea)) H' s2->ExcAt X.stack H' s2.heap ea cls ->
   wpAny (model X.prog X.w) (X.A.mark<|↑(.ref ea)) (execs (ZC::XH) X.env) (λf s3=>∃u v σ' j,f=.ret u/\Inv (j5 X<|X.A.mark<|↑(.ref ea)) pins σ' j s3/\RelV v u/\D.rt v j) (λ_ _=>False) s2) :
  wpAny (model X.prog X.w) X.A (handleBy (.ref ea) X.env (.ExceptHandler (↑(.Name x np)) (↑n) (ZC::XH) pos::rest)) (SP X pins D) X.xe s':=by
 have S:(X.A.mark<|↑(.ref ea)).frames=X.A.frames:=rfl;have p:=F.inv I;let(B,a0,W6,hB):=F.fly;let(ob,R,y):=W6.there;refine wpAny_handleBy_cons (codeAny_handlers_test<|jg (qp p S) hg hm ?_ V5) (by intro q;cases q);apply(W.exm_one p.WX (λA Q E s2 k2 q=>wpAny_typeOf_ref (k2 _ _ R) (by rw[y];exact q)) hx).here;refine codeAny_handlers_suite_as <| again I F λh2 l=>?_
 let(B2,a2,b,J):=l.fly;let(oe,vs,T,oT,ts,Z,(M,_),e,_):=b.2.2.2;refine oH (v:=.ref ea) (l.inv I) hN hi (.inl Y) rfl (λs2 I2 c=>?_) (.inr Y);let(a,c,ha):=c;have L:a=X.env.locals:=by
  rcases ha with h|h
  .exact h
  .rw[WY]at h;cases h
 subst L;have VZ:ea≠X.env.locals:=λz=>by
  let(m,(o,es,ep,ho,hd,_),_):=(l.inv I).loc
  grind
 have g:ea∉iO X.stack:=λz=>by
  let(_,o2,U,d2):=b.2.2.1.mem z;have:=by rw[Z]at U;exact xD U
  exact d2 vs<|this▸e
 have P:H' ea=none:=by
  cases q:H' ea with
  |none=>rfl
  |some u =>
   let(o,eo):=J ea g<|.inl (by rw[q];simp);rw[b.2.1]at eo
   grind
 refine xA (k s2 (qp I2 S) {{oe,vs,(c.2 ea VZ).trans Z,M,e},P,g}) (λf s3 hz=>?_) λ_ _ z=>z.elim;let(u,v,σ',j,rfl,I3,r,d):=hz;have t:=BL p.ok I3;let(m3,O,_):=t.loc;exact wpAny_nameGoes hl O (by rw[t.ok.kind];rfl) λh' m' X2 G=>{v,_,j,Bm t X2 G,r,d}
abbrev fu(X:Cx)(p:Γ (Ψ×Obj))(x:Θ->Ξ->Prop):Cx:={X with pn:=p,xe:=x}
def G9(o:X.Ok):(fu X pn xe).Ok:=
 {o.mod,o.kind,o.glob,o.blt,o.above,o.inj,o.has,o.cab,o.hd,o.frames,o.ZK,o.exf,o.bs,o.ZE,o.X8,o.YB,o.Wz,o.frf}
def Cs(I:Inv X pins σ H s)(h:∀p∈pn++pins',p∈X.pn++pins):Inv (fu X pn xe) pins' σ H s:=
 {G9 I.ok,I.os,I.bare,I.base,I.loc,I.cell,I.free,I.VV,λp P=>I.pin p<|h p P,I.VH,I.len}
def Ef(o:X.Ok)(I:Inv (fu X pn xe) pins' σ H s)(h:∀p∈X.pn++pins,p∈pn++pins'):Inv X pins σ H s:=
 {o,I.os,I.bare,I.base,I.loc,I.cell,I.free,I.VV,λp P=>I.pin p<|h p P,I.VH,I.len}
def uU(X:Cx)(i:Nat)(k:Γ Ω)(c:Str)(d:D):Prop:=∀(n p:Γ (Ψ×Obj))(x:Θ->Ξ->Prop)(j:L2.St)(H:Hp)(s:Ξ)(e C:Ψ),X.mg c=↑(.ref C)->Inv (j5 (fu X n x)<|X.A.mark<|↑(.ref e)) p j H s->j[i]?=↑(↑(.ref e)) ->
 ExcAt X.stack H s.heap e (.ref C)->wpAny (model X.prog X.w) (X.A.mark<|↑(.ref e)) (execs k X.env) (λf S=>∃u v a b,f=.ret u/\Inv (j5 (fu X n x)<|X.A.mark<|↑(.ref e)) p a b S/\RelV v u/\∀F,az F H->∃g,bc F H g b/\Rep X.K g d v) (λ_ _=>False) s
def P6:Ends:={λ_ _=>False,λ_ _=>False,λ_ _=>False,λ_ _=>False}
def MP(z:SP X pins P6 f s1):False:=by
 cases f with
 |next=>let(_,_,_,z):=z;exact z
 |brk=>let(_,_,_,z):=z;exact z
 |cont=>let(_,_,_,z):=z;exact z
 |ret u=>let(_,_,_,_,_,z):=z;exact z
def KJ(h:qb X.V0 body t):PS X (.Try body [.ExceptHandler (↑(.Name x np)) (↑n) (ZC::U) Yw] [] [] pos) (λD σ H=>t {P6 with rt:=D.rt} σ H):=by
 refineλp s σ H D I q=>wpAny_Try_except<|xA (h p s σ H _ (I.WM _) q) (λf S z=>?_) λ_ _ z=>z.elim;cases f with
 |next=>let(_,_,_,z):=z;exact z.elim
 |brk=>let(_,_,_,z):=z;exact z.elim
 |cont=>let(_,_,_,z):=z;exact z.elim
 |ret u=>exact SP.V1 z
def KQ{tx:XK->TS}(hs:X.stack=X.env::X.outer)(hf:X.env.frame=↑X.env.locals)
  (hg:Gl X x)(hm:X.mg x=↑(.ref CF))(V5:(x==("__debug__":Str))=false)(hN:X.N.Nodup)(hi:X.N[i]?=↑n)(hl:X.env.kindOf n=↑.local)(XY:X.env.scope.names.lookup n=↑.local)(WY:X.env.cells.lookup n=none)
  (hx:∀L O E,cO (uE X.prog X.w) (fu X L O) E->qb (fu X L O) body (tx E))(hC:X.mg c=↑(.ref C))(M:W.exmOne X.K (.ref C) (.ref CF)=↑true)(U:uU X i (ZC::XH) c d) :
  PS X (.Try body [.ExceptHandler (↑(.Name x np)) (↑n) (ZC::XH) Yw] [] [] pos) (λD σ H=>∃R:Hp->Prop,tx (λcls _ H'=>cls=.ref C/\R H') P6 σ H/\∀H',R H'->∃VD,az VD H'/\∀v g o,bc VD H' o g->Rep X.K o d v->D.rt v g):=by
 intro S s σ H D I ⟨R,ht,q⟩;refine wpAny_Try_except ?_;let T:Θ->Ξ->Prop:=λe t=>∃P b k m A H',e=.ref A/\Inv (fu X (X.pn++S) X.xe) P b k m/\EM X.prog X.w X.stack k m (.ref C) A H' t/\R H';have j:cO (uE X.prog X.w) (fu X (X.pn++S) T) (λcls _ H'=>cls=.ref C/\R H'):=λP b k m e t a B=>by
  let(A,cls,H',rfl,F,rfl,G):=B;exact{P,b,k,m,A,H',rfl,{G9 I.ok,a.os,a.bare,a.base,a.loc,a.cell,a.free,a.VV,a.pin,a.VH,a.len},F,G}
 have hI:Inv (fu X (X.pn++S) T) [] σ H s:=Cs I λp j=>by rwa[qF]at j
 refine xA (hx _ _ _ j [] s σ H P6 hI ht) (λf t z=>(MP z).elim) λe t z=>?_;let(P,b,k,m,A,H',rfl,a,F,G):=z;let(VD,sm,q):=q H' G;refine land (X:=fu X (X.pn++S) X.xe) a hs hf F λh' Q=>?_;refine b0 (OO (X:=fu X (X.pn++S) X.xe) (D:={P6 with rt:=D.rt}) a Q hg hm V5 M hN hi hl XY WY λs2 Z J=>?_) λf s3 z=>?_
 .have l:i<b.length:=by rw[a.len];exact(List.getElem?_eq_some_iff.mp hi).1
  refine xA (U _ _ _ _ _ _ _ C hC Z (by simp[l]) J) (λf s3 z=>?_) λ_ _ z=>z;let(u,v,Y,g,rfl,y,r,z):=z;let(o,g3,rp):=z VD sm;exact{u,v,Y,g,rfl,y,r,q v g o g3 rp}
 .cases f with
  |next=>let(_,_,_,z):=z;exact z.elim
  |brk=>let(_,_,_,z):=z;exact z.elim
  |cont=>let(_,_,_,z):=z;exact z.elim
  |ret u =>
   let(v,Y,g,y,r,z):=z;exact{v,Y,g,Ef I.ok y λp j=>qJ _ j,r,z}
structure CM(P:Program)(w:World)(K:W.Frag)(mg:Str->Option Value)(base:Heap)(k:Nat)(x c:Str)(d:D):Prop where
 ex:∃ (f:Ψ) (fd:η) (ps:Γ Str),mg x=↑(.ref f)/\W.keepIn K (.ref f)=true/\Binds K fd ps []/\ps.length=1 /\
  ∀(A:ξ)(outer:Γ PySem.Env)(s:Ξ)(H:Hp)(args:Args)(ea C:Ψ),A.depth+3*k+5<recursionLimit->A.units+16*k+200<cLine->tH P w K mg base A outer s H->BindsTo s fd args (ps.zip [.ref ea])->mg c=↑(.ref C)->ExcAt outer H s.heap ea (.ref C) ->
   codeAny (model P w) A (.call (.ref f) args) (λr s'=>∃u,r=.ok (.ret u)/\CE outer P w H s (λv H'=>∀HF,az HF H->∃VD,bc HF H VD H'/\Rep K VD d v) u s') s
def Ek(R:CM X.prog X.w X.K X.mg X.base k x c d)(j:bT k X.A)(Z:Gl X x)(J:(x=="__debug__")=false)(hi:X.N[i]?=↑n)(hl:X.env.kindOf n=↑.local)(Y:X.env.scope.names.lookup n=↑.local)(pR:(n=="__debug__")=false) :
  uU X i [.Return (↑(.Call (.Name x p) [.Name n U] [] cpos)) pos] c d:=by
 let(f,fd,ps,M,hk,T,L,run):=R.ex;intro pn P xe t H s e C S I g b;have O:∀{Q:Θ->Ξ->Prop},Q _ s->wpAny (model X.prog X.w) (X.A.mark<|↑(.ref e)) (eval (.Name n U) X.env) Q (λ_ _=>False) s:=λ{Q}q=>by
  let(m,hn,o):=I.loc;let(u,r,l):=o i n _ hi g<|.inl Y;subst r;rcases l with ⟨hk,M⟩|⟨hk,_⟩
  .exact wD (vW I.ok.kind hk hn M q) pR
  .rw[hl]at hk;rcases hk with hk|hk<;>cases hk
 have y:wpAny (model X.prog X.w) (X.A.mark<|↑(.ref e)) (eval (.Call (.Name x p) [.Name n U] [] cpos) X.env) (EP (j5 (fu X pn xe)<|X.A.mark<|↑(.ref e)) P t (λv B=>∀F,az F H->∃D,bc F H D B/\Rep X.K D d v)) (λ_ _=>False) s:=by
  refine qX<|jg I Z M (W.callWith_K I.ok.mod.kin hk (jI<|O<|kH {I.WX,(vI<|jR (run _ X.stack s H _ e C j.dp j.un I.abX (by have:=T s [.ref e] I.WX (by simp[L]);grind) S b) λr s' a=>?_)}) rfl rfl) J;let(u,rfl,a):=a;exact I.after a
 refine vE<|wpAny_Return_some<|xA y (λu s3 z=>?_) λ_ _ z=>z;let(v,E,G,r,z):=z;exact{u,v,t,E,rfl,G,r,z}
open PySem PySem.W PySem.Spec PySem.Calls PyProof.Rows
section
variable {K:Frag}{x D:Ψ}
def ES(X:K.In h)(H:findIn K (.ref D) name=↑(↑a))(G:specialIn K a "__get__"=↑(↑g))(ht:takesIn K a=↑true):Looks M h (Builtin.ObjectAttr.find self (.ref D) name) (.bind g a):=by
 apply(looks_findIn X H).andThen;apply(looks_specialIn X G).andThen;apply(show Looks M h (Builtin.ObjectAttr.dataDescriptor? (↑a)<|↑g) _ from(looks_takesIn X ht).andThen .now).andThen;exact .tag .now
def Gx(X:K.In s.heap)(L:Looks (model prog w) s.heap (typeOf<|.ref x) (.ref D))(m:mroIn K D (.type "object")=↑true)
  (h:R (.ok<|.ret<|.ref D) s):codeAny (model prog w) A (.call (.builtin "getset_descriptor.__get__") {[.builtin "object.__class__",.ref x,U],[]}) R s:=by
 have I:Looks _ s.heap (isInstance _ _) true:=L.andThen<|looks_mroIn X m;refine vX KF.slot_gs.plain KF.entry_gs<|KF.slot_gs.check _ _ _ _ _ _ _ _ KF.type_class (KF.args_gs _ _ _)<|zV<|zW ?_;simp[Builtin.Getset_descriptor.descrGetter,Builtin.Getset_descriptor.descrCheckInstance,Builtin.Getset_descriptor.descrNameAndClass,KF.owner_class]
 repeat lk
 refine{wH _<|by decide +kernel,kE KF.entry_class ?_}
 repeat lk
 omega
def Fe(X:K.In s.heap)(r:s.heap.get? x=↑ox)(W:ox.cls=.ref D)(e:findIn K (.ref D) "__getattribute__"=↑(↑(.builtin "BaseException.__getattribute__")))(o:findIn K (.ref D) "__getattr__"=↑none)
  (n:findIn K (.ref D) "__class__"=↑(↑(.builtin "object.__class__")))(N:specialIn K (.builtin "object.__class__") "__get__"=↑(↑(.builtin "getset_descriptor.__get__")))(k:takesIn K (.builtin "object.__class__")=↑true)(p:mroIn K D (.type "object")=↑true)(B:subIn K (.ref D) (.type "BaseException")=↑true)
  (h:Q (↑(.ref D)) {s with toks:=s.toks+1}):wpAny (model prog w) A (getAttr? (.ref x) "__class__") Q E s:=by
 let(H,g,d,t,O):=s;have L:Looks (model prog w) H (typeOf<|.ref x) (.ref D):=W▸(Looks.ld r).andThen .now;have j:=looks_findIn (M:=model prog w) X e;have L2:=looks_findIn (M:=model prog w) X o;have m:=ES (M:=model prog w) (self:=.ref x) X n N k;have I:Looks (model prog w) H (isInstance (.ref x)<|.type "BaseException") true:=L.andThen<|looks_subIn X B;unfold getAttr? getAttrBy? getAttrBy;refine zV<|wpAny_mkText<|zV<|kO<|xX<|zV<|L.at<|zV<|j.at ?_;have f:(Value.builtin "BaseException.__getattribute__"==Value.builtin "object.__getattribute__")=false:=by decide +kernel
 simp?[f,kX,yO,qN];unfold getAttrByItsOwn hookBefore;refine zV ?_;show wpAny _ _ (typeLookup (.ref D) "__getattr__") _ _ _;refine L2.at ?_;refine zV<|kO<|xX ?_;show wpAny _ _ (boundAndCalled (.builtin "BaseException.__getattribute__") (.ref x)<|.str "__class__" t) _ _ _;unfold boundAndCalled;refine zV<|wpAny_of_eq (F.attr_ValueError.ga.bind<|.ref x) ?_;refine vI<|vX F.attr_ValueError.ga.plain F.entry_bexc_ga ?_;have hk:builtinKind "BaseException.__getattribute__"=↑.slot:=by decide +kernel
 have a:splitId "BaseException.__getattribute__"=↑("BaseException","__getattribute__"):=by decide +kernel
 simp?[checkBuiltinCall,hk,a];refine zV<|I.at ?_;simp?[xY,yO,qN];have b:argsOk "BaseException.__getattribute__" {[.ref x]++[.str (Str.ofString "__class__") t],[]}:=F.args_bexc_ga _ _;have body:∀{P:Fin->Ξ->Prop}{i:Θ->Ξ->Prop},P (.done<|.ret<|.ref D) {H,g,d,t+1,O}->wpAny (model prog w) A.in1 (Builtin.«object.__getattribute__» {[.ref x]++[.str (Str.ofString "__class__") t],[]}) P i {H,g,d,t+1,O}:=λ{P i}q=>by
  unfold Builtin.«object.__getattribute__»;refine zV<|zW ?_;refine zV<|zW ?_;refine zV<|L.at ?_;refine zV<|m.at ?_;show wpAny _ _ (holding [.builtin "object.__class__"] (call (.builtin "getset_descriptor.__get__") [.builtin "object.__class__",.ref x,.ref D]) >>= ret) _ _ _;exact zV<|xX<|vI<|Gx (s:={H,g,d,t+1,O}) X L p<|zW q
 cases l:Manifest.signature? "BaseException.__getattribute__"with
 |none=>exact zW (body<|handed_on rfl (zW h))
 |some S =>
  have c:Bind.checkArgs "BaseException.__getattribute__" S {[.ref x]++[.str (Str.ofString "__class__") t],[]}=pure ():=by simpa only[argsOk,l]using b
  simp?[c];exact zW<|body<|handed_on rfl (zW h)
structure K4(K:Frag)(C:Addr):Prop where
 ga:findIn K (.ref C) "__getattribute__"=↑(↑(.builtin "BaseException.__getattribute__"))
 no:findIn K (.ref C) "__getattr__"=↑none
 cl:findIn K (.ref C) "__class__"=↑(↑(.builtin "object.__class__"))
 hn:specialIn K (.builtin "object.__class__") "__get__"=↑(↑(.builtin "getset_descriptor.__get__"))
 tk:takesIn K (.builtin "object.__class__")=↑true
 ob:mroIn K C (.type "object")=↑true
 be:subIn K (.ref C) (.type "BaseException")=↑true
 ci:(clsIn K C).isSome=true
def GK(k:K4 K D):KitX K (.ref x) (.ref D) (λh=>h.get? x=↑ox/\ox.cls=.ref D) where
 ty:=λ_ _ _ p=>p.2▸(Looks.ld p.1).andThen .now
 it:=λ_ _ X _=>by
  have hc:=k.ci;unfold clsIn at hc;split at hc
  .rename_i o;intro A Q E s P q;unfold isType loadHead;exact zV<|wpAny_loadPart (P _ _<|X _ _ o)<|zW q
  .cases hc
 ne:=λh t d v n l X H=>by
  have hc:=k.ci;refine Bool.eq_false_iff.mpr λq=>?_;have e:D=t:=Value.ref.inj<|beq_iff_eq.mp q;subst e;unfold clsIn at hc;split at hc
  .rename_i o;have z:=(X _ _ o).symm.trans H;cases z
  .cases hc
 ca:=λX p q=>Fe X p.1 p.2 k.ga k.no k.cl k.hn k.tk k.ob k.be q
def BX(k:K4 K D)(X:K.In s.heap)(o:s.heap.get? x=↑ox)(hc:ox.cls=.ref D)(e:kitOne K (.ref D) c=↑b)(h:∀t,Q (.bool b) {s with toks:=t}) :
  wpAny (model prog w) A (call (.builtin "isinstance") [.ref x,c]) Q E s:=kia_one (GK k) X {o,hc} e (λz=>nomatch z) h
end
abbrev A6(A:ξ):ξ:={A with handled:=none}
abbrev CW(P:ε)(w:δ)(K:Φ)(m:Str->Δ Θ)(base:ι)(N:Γ Str)(q:Str)(scope:ζ)(f:Ψ)(Y:Θ)(A:ξ)(o:Γ PySem.Env)(s:Ξ)(H:Hp)(p:Γ (Ψ×Obj)):Cx:=
 fu (j5 (tJ tI P w K m base N q scope f Y (A6 A) o s H E0)<|A.deeper<|envOfC q scope s.heap.objs.size f Y) p λ_ _=>False
section
variable {K:Φ}
def E6{C:Ψ}{st:Ω}(F:yg K x qual st f fd)(S:aY N ps (ah st))(t:ps.length=1)
  (g:A.depth<recursionLimit)(E:tH P w K mg base A outer s H)(B:BindsTo s fd args (ps.zip [.ref ea]))(O:s.heap.get? ea=↑ob)(G:ob.data=.fields vs)(T:H ea=none)(M:ea∉iO outer)
  (body:∀(Y:Θ)(a:Ξ),Inv (CW P w K mg base N qual (ah st) f Y A outer s H [(ea,ob)]) [] (L2.start N [.ref ea]) H a ->
   wpAny (model P w) (A.deeper<|envOfC qual (ah st) s.heap.objs.size f Y) (execs (aP st)<|envOfC qual (ah st) s.heap.objs.size f Y) (λfl s'=>∃u v σ' H',fl=.ret u/\Inv (CW P w K mg base N qual (ah st) f Y A outer s H [(ea,ob)]) [] σ' H' s'/\RelV v u/\Q v H') (λ_ _=>False) a) :
  codeAny (model P w) A (.call (.ref f) args) (λr s'=>∃u,r=.ok (.ret u)/\CE outer P w H s Q u s') s:=by
 let(oc,od,kV,D,pm,an,Y,ct,XJ,rfl,lk,R):=F.ex;have X:K.In s.heap:=E.mod.kin.keeps λb o e=>(E.bs b o e).1;have l:s.heap.NoLimit:=E.mod.nolimit.keeps λb o e=>(E.bs b o e).1;have Z:∀y∈ps.zip [Value.ref ea],(ah st).names.lookup y.1=↑.local \/ ((ah st).names.lookup y.1=↑.cell/\((cellsFrom (s.heap.objs.size+1) (ah st).names []).lookup y.1).isSome=true):=λz U=>by
  let(n,v):=z
  rcases S.par n (vQ U).1 with q|q
  .exact .inl q
  .exact .inr {q,W.cellsFrom_some _ _ _<|.inl q}
 refine codeAny_call_function g (X _ _ lk) rfl S.co S.gen rfl (W.codeRec_of X R) (B _ _ _ _ ?_);refine wpAny_newFunctionEnv_cells S.kind Z λm L a x=>?_;subst L;refine{l.keeps x.toInCall.keep,codeAny_func ?_};have d:tH P w K mg base (A6 A) outer s H:={E.frames,E.mod,E.bs,E.ZE,E.Wz,E.frf,E.VH,E.bare}
 have I:Inv (tJ tI P w K mg base N qual (ah st) f Y (A6 A) outer s H E0) [] (L2.start N [.ref ea]) H a:=uu S rfl d (by simp[t]) (.cons rfl .nil) x;have k:ea<s.heap.objs.size:=zY O;have i:=I.XI (pins':=[(ea,ob)]) λp c=>by
  have c:p=(ea,ob):=by simpa using c
  subst c;exact{x.toInCall.keep _ _ O,T,yR k,M,λv z=>by rw[G]at z;cases z}
 have j:Inv (CW P w K mg base N qual (ah st) f Y A outer s H [(ea,ob)]) [] (L2.start N [.ref ea]) H a:=Cs (qp i rfl) λp c=>yE _ (by simpa using c);refine xA (body Y a j) (λfl s' z=>?_) λ_ _ z=>z.elim;let(u,v,σ',H',rfl,J,r,q):=z;exact{u,rfl,v,H',J.os,J.bare,J.base,J.VH,r,q}
end
def OV{i:Nat}{n y:Str}{ea C:Ψ}{ob:Obj}{c:Θ}{b:θ}{p P p2 pos:Pos}(k:K4 X.K C)(d:(ea,ob)∈X.pn)(x:ob.cls=.ref C)(a:Gl X "isinstance")(Z:X.mg "isinstance"=none)(hi:X.N[i]?=↑n)(L:X.env.kindOf n=↑.local)(Y:X.env.scope.names.lookup n=↑.local)(pR:(n=="__debug__")=false)
  (j:∀{pins:Γ _}{σ:L2.St}{H:Hp}{s:Ξ}{Q:Θ->Ξ->Prop},Inv X pins σ H s->Q c s->wpAny (model X.prog X.w) X.A (eval (.Name y p2) X.env) Q X.xe s)(e:W.kitOne X.K (.ref C) c=↑b) :
  PE X (.Call (.Name "isinstance" p) [.Name n P,.Name y p2] [] pos) (λσ H Q=>σ[i]?=↑(↑(.ref ea))/\Q (.bl b) H):=by
 intro pins s σ H Q I ⟨f,q⟩;have v:∀{Q:Θ->Ξ->Prop},Q _ s->wpAny (model X.prog X.w) X.A (eval (.Name n P) X.env) Q X.xe s:=λ{Q}q=>by
  let(m,g,o):=I.loc;let(u,r,l):=o i n _ hi f<|.inl Y;subst r;rcases l with ⟨hk,M⟩|⟨hk,_⟩
  .exact wD (vW I.ok.kind hk g M q) pR
  .rw[L]at hk;rcases hk with hk|hk<;>cases hk
 exact qX<|fO I a Z (by rfl)<|PyProof.Rows.callWith_builtin1 (jI<|v<|jI<|j I<|kH<|BX k I.WX ((I.pin _<|qJ _ d).1) x e λt=>{.bl b,H,I.tok t,rfl,q}) rfl rfl
def Ln(d:D)(xs:Γ D):Nat:=xs.countP λx=>PyData.eqv x d
def Ew(z:X.A.units+66<cLine):Mt X "list.count" (λx vs H Q=>∃ (HF:Hp) (ds:Γ D) (d:D) (y:V),az HF H/\Rep X.K HF (.list ds) x/\vs=[y]/\Rep X.K HF d y/\SeqAt.shaped d=true/\SeqAt.shaped (.list ds)=true/\Q (.int<|Ln d ds) H):=by
 intro p s J H x vs v G Q I k j h;let(HF,ds,d,y,sm,r1,rfl,r,e,L,q):=h;let(u,rfl,U):=j.one;let(S,R):=cY I sm r1 k;let(bs,B):=cY I sm r U;have c2:=kJ L;have w:=SeqAt.depth_of_shaped e;have m:=Nat.min_le_right (PyData.depthAll ds) d.depth;cases R with
 |list b g i c =>
  rename_i l o E n S;let(C,f,a,t):=o;subst g i;refine qV F.slot_list_count {_,b,rfl} F.entry_list_count (F.args_list_count_2 _ _) (PySem.SeqAt.list_countAt l E n f t u λy=>PyData.eqv (SeqAt.readOf s.heap y) d) {b,(SeqAt.items_eqAt c B c2 (kJ e)<|by lia),?_}
  .refine{.int _,H,I.tok _,{s.toks,?_},q};rw[Ln,<-(SeqAt.readsAll_map _ _ _ c2 c),List.countP_map];rfl
def lF(X:Cx)(ea:Ψ)(es:Γ γ)(bs:Γ θ):Prop:=PA X es λa H Q=>a[0]?=↑(↑(.ref ea))/\Q (bs.map V.bl) H
def OK:lF X ea [] []:=λP p s a H Q I z=>by let(_,q):=z;exact cf P p s a H Q I q
def Mv{bs:Γ θ}(h:PE X e (λσ H Q=>σ[0]?=↑(↑(.ref ea))/\Q (.bl b) H))(r:lF X ea es bs)(hs:starEach (e::es) X.env=(false,eval e X.env)::starEach es X.env:=by rfl):lF X ea (e::es) (b::bs):=
 hJ (ba h r hs) λσ H Q z=>by let(a,q):=z;exact {a,a,q}
def gD{K:Φ}:∀bs:Γ θ,ar K H (bs.map PyData.bool) (bs.map V.bl)
 |[]=>rfl
 |b::bs=>{_,_,rfl,rfl,gD bs}
def mw(bs:Γ θ):SeqAt.shaped (.list<|bs.map PyData.bool)=true:=by
 have h:∀bs:Γ θ,PyData.canLayAll0 (bs.map PyData.bool)=true/\PyData.depthAll (bs.map PyData.bool)<=1:=λbs=>by
  induction bs with
  |nil=>exact{by rfl,by simp[PyData.depthAll]}
  |cons b bs i=>exact{by simp[PyData.canLayAll0,PyData.canLay0,i.1],by simp[PyData.depthAll,PyData.depth];lia}
 have:=h bs;rw[SeqAt.shaped,zF];exact{by simp[PyData.canLay0,this.1],by simp[PyData.depth];lia}
def HE{a1 a2 a3 b6:Pos}(L:X.A.units+66<cLine)(J:X.N=[("_law_e":Str),("_law_flags":Str)])(l:X.env.scope.names.lookup ("_law_flags":Str)=↑.local)
  (M:lF X ea es1 U)(O:lF X ea es2 bs2)(R:PE X e6 (λσ H Q=>σ[0]?=↑(↑(.ref ea))/\Q (.bl true) H))(w6:∀whole,isTrue e6 X.env whole=(do let v <- whole;standAt e6.pos;holding [v]<|truthy v))
  (hc:Ln (.bool true) ((U++bs2).map PyData.bool)=1)(S:vf (.bool true) ((U++bs2).map PyData.bool)=↑j)(Z:U.length+bs2.length<=sizeLine)(l1:(c2.endLine==c4.line)=true)(l2:(d2.endLine==d4.line)=true) :
  qb X [.Assign [.Name "_law_flags" a1] (.List es1 a2) a3,.Assign [.Name "_law_flags" b1] (.BinOp (.Name "_law_flags" b2) .Add (.List es2 b3) b4) b5,
   .If (.BoolOp .Or [.Compare (.Call (.Attribute (.Name "_law_flags" c1) "count" c2) [.Constant (.bool true) i1 c3] [] c4) [.NotEq] [.Constant (.int 1) i2 c5] c6,.UnaryOp .Not e6 c7] c8) bad [] c9,
   .Return (↑(.Tuple [.Constant (.str "refused") i3 d1,.Call (.Attribute (.Name "_law_flags" d3) "index" d2) [.Constant (.bool true) i4 d5] [] d4] k1 d6)) d7]
   (λD σ H=>σ.length=2/\σ[0]?=↑(↑(.ref ea))/\∀v H',(∀HF,az HF H->∃VD,bc HF H VD H'/\Rep X.K VD (.tuple [.str "refused",.int j]) v)->D.rt v H'):=by
 have pR:X.N.Nodup:=by rw[J];decide
 have I:X.N[1]?=↑("_law_flags":Str):=by rw[J];rfl
 have C:Loc X.env.scope ("_law_flags":Str):=.inl l;have G:nW X.env.scope ("_law_flags":Str):=.inl l;have k:qb X bad (λ_ _ _=>False):=λ_ _ _ _ _ _ z=>z.elim;have p1:=oK (pos':=a1) (pos:=a3) pR I C (B5 (pos:=a2) M) rfl (.inr l);have p2:=oK (pos':=b1) (pos:=b5) pR I C (Co (pos:=b4) sU (bQ (pos:=b2) I G)<|B5 (pos:=b3) O) rfl (.inr l);have P:=uJ (pos:=c9) (PW.pt<|HK (pos:=c8) (pW (pos:=c6) RV (ni (apos:=c2) (cpos:=c4) qM PySem.F.slot_list_count PySem.F.type_list_count (Ew L) (bQ (pos:=c1) I G) (ba (HG (b:=true) (j:=i1) (pos:=c3)) cf) rfl rfl l1) (IQ (i:=1) (j:=i2) (pos:=c5))<|IV _ (by decide)<|by decide)<|BA (pos:=c8)<|Gu (pos:=c7)<|Ik R w6) k ll;have d:=rq (pos:=d7)<|Gp (x1:=k1) (pos:=d6)<|ba (Hj (x:="refused") (j:=i3) (pos:=d1))<|ba (ni (apos:=d2) (cpos:=d4) qM PySem.F.slot_list_index PySem.F.type_list_index (EV L) (bQ (pos:=d3) I G) (ba (HG (b:=true) (j:=i4) (pos:=d5)) cf) rfl rfl l2) cf;refine fZ (et p1<|et p2<|et P<|et d ll) λD σ H z=>?_;let(n,y,q):=z;refine{y,by rw[zD];lia,λp Y=>?_};have s1:∀v:V,(σ.set 1<|↑v)[1]?=↑(↑v):=λv=>by simp[n]
 have s0:∀v:V,(σ.set 1<|↑v)[0]?=↑(↑(.ref ea)):=λv=>by simp[y]
 refine{.ref p,s1 _,s0 _,by rw[zD];lia,λp2 c=>{p,p2,U.map V.bl,bs2.map V.bl,rfl,rfl,.inl<|.inl ?_,.inl<|.inl av,by rw[zD,zD];exact Z,λP B=>?_}}
 .rw[ak (λz=>by rw[z]at c ;rw[av]at c;cases c)];exact av
 have T:∀v w:V,((σ.set 1<|↑w).set 1<|↑v)[1]?=↑(↑v):=λv w=>by simp[n]
 have t0:∀v w:V,((σ.set 1<|↑w).set 1<|↑v)[0]?=↑(↑(.ref ea)):=λv w=>by simp[y]
 let f:Hp:=upd (upd (upd H p<|.lst<|U.map V.bl) p2<|.lst<|bs2.map V.bl) P<|.lst<|U.map V.bl++bs2.map V.bl;have m:az H f:=λb o e=>by
  have n1:b≠p:=λz=>by rw[z,Y]at e;cases e
  have r:upd H p (.lst<|U.map V.bl) b=↑o:=by rw[ak n1];exact e
  have n2:b≠p2:=λz=>by rw[z,c]at r;cases r
  have t:upd (upd H p<|.lst<|U.map V.bl) p2 (.lst<|bs2.map V.bl) b=↑o:=by rw[ak n2];exact r
  have n3:b≠P:=λz=>by rw[z,B]at t;cases t
  show upd _ P _ b=↑o;rw[ak n3];exact t
 have s:iw X.K f P ((U++bs2).map V.bl):=by
  rw[qZ];exact .inl<|.inl av
 have g:Rep X.K f (.list<|(U++bs2).map PyData.bool) (.ref P):={P,_,rfl,s,gD _}
 have W:SeqAt.shaped (.bool true)=true:=by decide
 refine{.ref P,T _ _,.inl {rfl,_,s},f,_,.bool true,.bl true,.refl _,g,rfl,rfl,W,mw _,?_};rw[hc];refine{rfl,?_};refine{false,rfl,?_};refine lJ ?_;refine{t0 _ _,true,rfl,?_};refine lJ ?_;refine{.ref P,T _ _,.inl {rfl,_,s},f,_,.bool true,.bl true,j,.refl _,g,rfl,rfl,W,mw _,by rw[zD,zN];exact Z,S,(show 2<=sizeLine by decide),λd a=>?_};have a:f d=none:=a;refine q (.ref d) _ λHF sm=>{upd HF d<|.tup [.str "refused",.int j],{λb o e=>?_,λb o e=>?_,λb o e=>?_,λb o e=>?_},d,_,rfl,.inl<|.inl av,?_}
 .have E:=m b o e;rw[ak (λz=>by rw[z,a]at E;cases E)];exact E
 .have E:=m b o<|sm b o e;rw[ak (λz=>by rw[z,a]at E;cases E)];exact e
 .by_cases z:b=d
  .subst z;rw[av]at e ⊢;exact e
  .rw[ak z]at e ⊢;exact m b o<|sm b o e
 .by_cases z:b=d
  .subst z;refine .inr ?_;cases w:H b with
   |none=>rfl
   |some u=>have:=m b u w;rw[a]at this;cases this
  .rw[ak z]at e;exact .inl e
 .exact{_,_,rfl,rfl,_,_,rfl,rfl,rfl}
open PySem L2 Dl PySem.Spec PyProof.Rows Rf
abbrev XE:=Dl.Env->Δ Str
abbrev XS:=ao->Δ Str
abbrev XT:=Γ<|Str×Nat×(Γ D->Δ Str)
def pM:XS:=λ_=>none
abbrev md(x:XE):XS:=λa=>x<|aI a
def Sr(c:Str):XS:=λ_=>↑c
def jm(x:XS)(g:GS)(xr:XS):XS:=λa=>match x a with
 |some c=>↑c
 |none=>On g xr a
def Be(P:ε)(w:δ)(K:Φ)(g:Str->Δ Θ)(base:ι)(j:Nat)(l:XT):Prop:=∀x n m,l.lookup x=↑(n,m)->Jl P w K g base j x n m
section
def Qu{st:Γ Ω}:Jo X E VA VB st pM:=λp s b H Q I z=>by let(F,a,c,C,_,h,_):=z;cases h
def Ds{st:Ω}(d:DX X E VA VB st U)(e:DS X.V0 VA VB st g)(f:Jo X E VA VB rest xr):Jo X E VA VB (st::rest) (jm U g xr):=λp s b H D I z=>by
 let(F,a,c,C,S,x,hc,q):=z
 unfold jm at x;split at x
 .rename_i j i;cases x;exact rg d p s b H D I {F,a,c,C,S,i,hc,q}
 .exact He e f p s b H D I {F,a,c,C,S,x,hc,q}
def U6(X:Cx)(E:XK)(VA:Hp)(VB:Hq)(cl:Γ Str):Prop:=∀x∈cl,Gl X x->(x==("__debug__":Str))=false->∀(n c s p:Pos)(t:Str)(i:Nat),DX X E VA VB (.Raise (↑(.Call (.Name x n) [.Constant (.str t) i p] [] c)) none s)<|Sr x
structure Xo(fx:XT)(cl:List Str)(X:Cx)(E:XK)(VA:Hp)(VB:Hq)(j:Nat):Prop where
 hx:Be X.prog X.w X.K X.mg X.base j fx
 hp:cO (uE X.prog X.w) X E
 hr:U6 X E VA VB cl
abbrev UI(st:Ω)(N:Γ Str)(S:Sg)(fx:XT)(cl:Γ Str)(g:XS):Prop:=∀(X:Cx)(E:XK)(F:Hp)(H:Hq)(_:Unit)(j k:Nat),Cn S X.V0 N (ah st) j k->Xo fx cl X E F H j->Jo X E F H (aP st) g
variable {G:Sg}{fx:XT}{X:Cx}{N:Γ Str}{sc:ζ}{j k:Nat}{pos p:Pos}
def RL(C:Cn G X.V0 N sc j k)(Y:Xo fx cl X E VA VB j)(a:DA X.V0 (e::es) fs)(l:fx.lookup x=↑(n,m))(g:(yi sc x&&!(x==("__debug__":Str)))=true)(hs:isStar e=false)(ht:(es.all λe=>!isStar e)=true):S7 X E (.Call (.Name x p) (e::es) [] pos) (wU n m fs):=by
 simp?[zF,yP]at g;exact JP (Y.hx x n m l) (C.b.room.mono C.le) Y.hp (C.b.gl g.1) a g.2 (aA hs)<|bo ht
def OL(C:Cn G X.V0 N sc j k)(Y:Xo fx cl X E VA VB j){n cp:Pos}(g:(cl.contains x&&yi sc x&&!(x==("__debug__":Str)))=true):DX X E VA VB (.Raise (↑(.Call (.Name x n) [.Constant (.str t) i p] [] cp)) none pos) (Sr x):=by
 simp?[zF,yP]at g;exact Y.hr x (List.contains_iff_mem.mp g.1.1) (C.b.gl g.1.2) g.2 _ _ _ _ _ _
end
def DJ(K:Φ)(m:Str->Δ Θ)(cl:Γ Str):Prop:=∀c∈cl,∃C:Ψ,m c=↑(.ref C)/\W.excIn K C Jy "ValueError.__new__"=true
section
variable {K:Φ}
def SW{st:Ω}(D:Em K mg x st ps)(B:∀x∈df,mg x=none)(o:rE P w K mg base j S.fn)(hi:mf mg S.int)(q:Be P w K mg base j fx)(hc:DJ K mg cl)(t:UI st N S fx cl xg)(F:aY N ps (ah st):=by exact Rf.Uh):Jl P w K mg base (j+1) x ps.length (sM xg N.length):=by
 let(f,v,M,u,m):=D.ex;refine fnX u F m M λX E l hw k W e C a hk b H=>?_;subst l;subst hw;subst k;subst W;subst e;exact t X E b H () j j {C,{o,hi,B},yM j} ⟨q,hk.pass,λc Y G n y s r p t i=>by
  let(A,d,g):=hc c Y;exact GH hk a G d g n⟩
def Tn:Be P w K mg base j []:=λ_ _ _ h=>by cases h
def xm(F:Jl P w K mg base i x n m)(h:Be P w K mg base j l)(e:i<=j:=by decide):Be P w K mg base j ((x,n,m)::l):=λy N M E=>by
 rw[yB]at E;cases q:y==x with
 |true=>rw[q]at E;cases E;rw[eq_of_beq q];exact F.mono e
 |false=>rw[q]at E;exact h y N M E
end
def QC(K:Φ)(C:Ψ):θ:=W.findIn K (.ref C) "__getattribute__"==some (↑(.builtin "BaseException.__getattribute__"))&&(W.findIn K (.ref C) "__getattr__"==some none)&&(W.findIn K (.ref C) "__class__"==some (↑(.builtin "object.__class__")))&&(W.specialIn K (.builtin "object.__class__") "__get__"==some (↑(.builtin "getset_descriptor.__get__")))&&(W.takesIn K (.builtin "object.__class__")==some true)&&(W.mroIn K C (.type "object")==some true)&&(W.subIn K (.ref C) (.type "BaseException")==some true)&&(W.clsIn K C).isSome
def RD(K:Φ)(F:Ψ)(cs:Γ (Str×Ψ)):θ:=(W.nsIn K mainGlobals "FlowError"==some (↑(.ref F)))&&(W.nsIn K mainGlobals "ValueError"==some none)&&cs.all λc=>(W.nsIn K mainGlobals c.1==some (↑(.ref c.2)))&&W.excIn K c.2 Jy "ValueError.__new__"&&QC K c.2&&(W.exmOne K (.ref c.2) (.ref F)==some true)&&(W.kitOne K (.ref c.2) (.type "ValueError")==some true)&&cs.all λd=>W.kitOne K (.ref c.2) (.ref d.2)==some (c.1==d.1)
structure vg(K:W.Frag)(mg:Str->Option Value)(F:Addr)(cs:List (Str×Addr)):Prop where
 fe:mg "FlowError"=↑(.ref F)
 ve:mg "ValueError"=none
 at_:∀c∈cs,mg c.1=↑(.ref c.2)
 ex:∀c∈cs,W.excIn K c.2 Jy "ValueError.__new__"=true
 ek:∀c∈cs,K4 K c.2
 xm:∀c∈cs,W.exmOne K (.ref c.2) (.ref F)=↑true
 kv:∀c∈cs,W.kitOne K (.ref c.2) (.type "ValueError")=↑true
 kt:∀c∈cs,∀d∈cs,W.kitOne K (.ref c.2) (.ref d.2)=↑(c.1==d.1)
def J3{K:Φ}{cs:Γ _}(X:K.In h)(G:h.Ns mainGlobals mg)(e:RD K F cs=true):vg K mg F cs:=by
 simp?[RD,zF,xG,vJ]at e;let((a,b),E):=e;refine{W.mg_of X G a,W.mg_none_of X G b,λc hc=>W.mg_of X G (E c hc).1.1.1.1.1,λc hc=>(E c hc).1.1.1.1.2,λc hc=>?_,λc hc=>(E c hc).1.1.2,λc hc=>(E c hc).1.2,λc hc d=>(E c hc).2 d};have q:=(E c hc).1.1.1.2;unfold QC at q;simp  at q;exact{q.1.1.1.1.1.1.1,q.1.1.1.1.1.1.2,q.1.1.1.1.1.2,q.1.1.1.1.2,q.1.1.1.2,q.1.1.2,q.1.2,q.2}
def vg.ok{K:Φ}{cs:Γ _}(M:vg K mg F cs)(h:(cl.all λc=>(cs.map Prod.fst).contains c)=true):DJ K mg cl:=λc hc=>by
 have:=List.contains_iff_mem.mp<|List.all_eq_true.mp h c hc;let(q,H,rfl):=List.mem_map.mp this;exact{q.2,M.at_ q H,M.ex q H}
def Ss(sc:ζ):γ->Δ Str
 |.Call (.Name f _) [.Name n _,.Name y _] [] _=>if(f==("isinstance":Str)&&n==("_law_e":Str)&&yi sc "isinstance"&&yi sc y)=true then↑y else none
 |_=>none
def Ld(sc:ζ):Γ γ->Δ (Γ Str)
 |[]=>↑[]
 |e::r=>(Ss sc e).bind λy=>(Ld sc r).map λs=>y::s
def pK(ns:Γ Str)(c:Str):Δ D:=if ns.contains c=true then(vf (.bool true)<|ns.map λn=>.bool<|c==n).map λj=>.tuple [.str "refused",.int ((j:Nat):Int)]else none
section
variable {K:Φ}{cs:Γ (Str×Ψ)}
def FG(M:vg X.K X.mg F cs)(hc:c∈cs)(a:(ea,ob)∈X.pn)(i:ob.cls=.ref c.2)(j:La X sc)(Z:X.mg "isinstance"=none)(k:X.N[0]?=↑("_law_e":Str))(l:X.env.kindOf ("_law_e":Str)=↑.local)(hs:X.env.scope.names.lookup ("_law_e":Str)=↑.local)
  (r:Ss sc e=↑y)(m:∀{p2:Pos}{pins:Γ (Ψ×Obj)}{σ:L2.St}{H:Hp}{s:Ξ}{Q:Θ->Ξ->Prop},Gl X y->Inv X pins σ H s->Q v s->wpAny (model X.prog X.w) X.A (eval (.Name y p2) X.env) Q X.xe s)(hk:W.kitOne X.K (.ref c.2) v=↑b) :
  PE X e (λσ H Q=>σ[0]?=↑(↑(.ref ea))/\Q (.bl b) H)/\(∀env whole,isTrue e env whole=(do let v <- whole;standAt e.pos;holding [v]<|truthy v))/\∀es:Γ γ,starEach (e::es) X.env=(false,eval e X.env)::starEach es X.env:=by
 unfold Ss at r;split at r
 .rename_i f p n P t o pos;split at r
  .rename_i d;cases r;simp?[zF,vJ]at d;let(((rfl,rfl),G),Y):=d;have g:∀{x:Str},yi sc x=true->Gl X x:=λh=>by
    rcases j _ _ (yQ h)with q|⟨q,_⟩
    .exact q
    grind
   exact{OV (M.ek c hc) a i (g G) Z k l hs (by rfl) (λ{pins σ H s Q}=>m<|g Y) hk,λenv whole=>rfl,λes=>rfl}
  .cases r
 .cases r
def w8(M:vg X.K X.mg F cs)(hc:c∈cs)(a:(ea,ob)∈X.pn)(x:ob.cls=.ref c.2)(Y:La X sc)(Z:X.mg "isinstance"=none)(b:X.N[0]?=↑("_law_e":Str))(l:X.env.kindOf ("_law_e":Str)=↑.local)(hs:X.env.scope.names.lookup ("_law_e":Str)=↑.local)(D:(cs.all λd=>!(d.1==("__debug__":Str)))=true) :
  ∀{es:Γ γ}{ns:Γ Str},Ld sc es=↑ns->(ns.all λc=>(cs.map Prod.fst).contains c)=true->lF X ea es (ns.map λn=>c.1==n)
 |[],ns,h,_=>by cases h;exact OK
 |e::es,ns,h,A=>by
  let(y,i,h):=bs h;let(j,S,rfl):=ai h;rw[xS,zF]at A;let(d,m,rfl):=List.mem_map.mp<|List.contains_iff_mem.mp A.1;have v:(d.1==("__debug__":Str))=false:=by simpa using List.all_eq_true.mp D d m
  let(f,_,g):=FG M hc a x Y Z b l hs i (λ{p2 p k H s Q}G I q=>jg I G (M.at_ d m) q v)<|M.kt c hc d m;exact Mv f (w8 M hc a x Y Z b l hs D S A.2)<|g es
def EB{A:ξ}{env:PySem.Env}(h:A.units+200<cLine):(A.deeper env).units+66<cLine:=by
 have:(A.deeper env).units<=A.units+16:=by simp
 lia
def Rm{st:Ω}(D:Em K mg "_law_refused" st ["_law_e"])(M:vg K mg F cs)(B:∀x∈df,mg x=none)
  (hb:aP st=[.Assign [.Name "_law_flags" a1] (.List es1 a2) a3,.Assign [.Name "_law_flags" b1] (.BinOp (.Name "_law_flags" b2) .Add (.List es2 b3) b4) b5,
   .If (.BoolOp .Or [.Compare (.Call (.Attribute (.Name "_law_flags" c1) "count" c2) [.Constant (.bool true) i1 c3] [] c4) [.NotEq] [.Constant (.int 1) i2 c5] c6,.UnaryOp .Not e6 c7] c8) bad [] c9,
   .Return (↑(.Tuple [.Constant (.str "refused") i3 d1,.Call (.Attribute (.Name "_law_flags" d3) "index" d2) [.Constant (.bool true) i4 d5] [] d4] k1 d6)) d7])
  (S:aY [("_law_e":Str),("_law_flags":Str)] ["_law_e"] (ah st))(r1:Ld (ah st) es1=↑U)(r2:Ld (ah st) es2=↑ns2)(r6:Ss (ah st) e6=↑"ValueError")
  (e:(ah st).names.lookup ("_law_e":Str)=↑.local)(s2:(ah st).names.lookup ("_law_flags":Str)=↑.local)(OD:((U++ns2).all λc=>(cs.map Prod.fst).contains c&&decide (Ln (.bool true) ((U++ns2).map λn=>.bool<|c==n)=1))=true)(V5:(cs.all λd=>!(d.1==("__debug__":Str)))=true)(hz:U.length+ns2.length<=sizeLine)(l1:(c2.endLine==c4.line)=true)(l2:(d2.endLine==d4.line)=true) :
  ∀c d,pK (U++ns2) c=↑d->CM P w K mg base k "_law_refused" c d:=λc d h=>by
 unfold pK at h;split at h
 .rename_i hc;have G:=List.contains_iff_mem.mp hc;let(j,hj,rfl):=ai h;have a:=List.all_eq_true.mp OD c G;rw[zF]at a;let(q,g,rfl):=List.mem_map.mp<|List.contains_iff_mem.mp a.1;have p:=yQ a.2;let(f,fd,hm,R,t):=D.ex;refine{f,fd,["_law_e"],hm,R.kp,t,rfl,λA o s H args E C hdp X6 e0 T hC L=>?_};let((ob,vs,ho,W,hd),N,hf):=L;have m:C=q.2:=by
   have:=M.at_ q g;rw[hC]at this;cases this;rfl
  subst m;refine E6 (C:=q.2) R S rfl (by lia) e0 T ho hd N hf λVY t1 I=>?_;rw[hb];have Wl:∀{l:Γ Str},(∀n∈l,n∈U++ns2)->(l.all λc=>(cs.map Prod.fst).contains c)=true:=λhl=>by
   rw[xG];intro n N;have:=List.all_eq_true.mp OD n<|hl n N;rw[zF]at this;exact this.1
  let X:Cx:=CW P w K mg base [("_law_e":Str),("_law_flags":Str)] "_law_refused" (ah st) f VY A o s H [(E,ob)];have b:(E,ob)∈X.pn:=List.mem_singleton.mpr rfl;have Y:La X (ah st):=λy kd hy=>.inl hy;have Z:X.mg "isinstance"=none:=B _ (by decide);have f1:=w8 (X:=X) (sc:=ah st) M g b W Y Z rfl e e V5 r1 (Wl λn N=>qJ _ N);have f2:=w8 (X:=X) (sc:=ah st) M g b W Y Z rfl e e V5 r2 (Wl λn N=>yE _ N);let(f6,w6,_):=FG (X:=X) (sc:=ah st) (v:=.type "ValueError") M g b W Y Z rfl e e r6 (λ{p2 pins σ H s Q}hg I q=>fO I hg M.ve (by decide +kernel) q) (M.kv q g);have main:=HE (X:=X) (bad:=bad) (j:=j) (a1:=a1) (a2:=a2) (a3:=a3) (b1:=b1) (b2:=b2) (b3:=b3) (b4:=b4) (b5:=b5) (b6:=b5) (c1:=c1) (c2:=c2) (c3:=c3) (c4:=c4) (c5:=c5) (c6:=c6) (c7:=c7) (c8:=c8) (c9:=c9) (d1:=d1) (d2:=d2) (d3:=d3) (d4:=d4) (d5:=d5) (d6:=d6) (d7:=d7) (i1:=i1) (i2:=i2) (i3:=i3) (i4:=i4) (k1:=k1) (EB<|by lia) rfl s2 f1 f2 f6 (λwhole=>w6 _ whole)
   (by rw[<-qZ,zM];exact p) (by rw[<-qZ,zM];exact hj) (by rw[zD,zD];exact hz) l1 l2
   [] t1 (L2.start [("_law_e":Str),("_law_flags":Str)] [.ref E]) H {λ_ _=>False,λv i=>∀HF,az HF H->∃VD,bc HF H VD i/\Rep K VD (.tuple [.str "refused",.int ((j:Nat):Int)]) v,λ_ _=>False,λ_ _=>False} I {rfl,rfl,λv i z=>z}
  refine b0 main λfl s' z=>?_;cases fl with
  |next=>let(_,_,_,z):=z;exact z.elim
  |brk=>let(_,_,_,z):=z;exact z.elim
  |cont=>let(_,_,_,z):=z;exact z.elim
  |ret u =>
   let(v,O,i,J,r,z):=z;exact{u,v,O,i,rfl,J,r,z}
 .cases h
end
end Ex
namespace Hd
open PySem L2 Dl PySem.Spec PyProof.Rows
section
variable {K:Φ}
def RY{st:Ω}(b:dS st ps)(a:W.nsIn K mainGlobals x=↑(↑(.ref f)))(l:K.lookup f=↑(fo x st pm c))(d:W.codeIn K (.ref c) x=true)(k:W.keepIn K (.ref f)=true):gR K x st ps:=Ro b a l d k
def U1{st:Ω}(b:dS st ps)(a:W.nsIn K mainGlobals x=↑(↑(.ref f)))(l:K.lookup f=↑(fo x st pm c))(d:W.codeIn K (.ref c) x=true)(k:W.keepIn K (.ref f)=true)(H:W.codeHdIn K c (Ku K c)=true):rT K x st ps:=QI b a l d k H
end
section
variable {α:Type}{R:Γ α->Prop}
def Ks(h:∀a,R [a])(us:Γ α)(e:us.length=1):R us:=by
 let(a,rfl):=List.length_eq_one_iff.mp e;exact h a
def Mm(us:Γ α)(e:us.length=n+1):∃a r,us=a::r/\r.length=n:=by
 cases us with
 |nil=>cases e
 |cons a r=>exact{a,r,rfl,by simpa using e}
def Lz(h:∀a b,R [a,b])(us:Γ α)(e:us.length=2):R us:=by
 let(a,r,rfl,E):=Mm us e;exact Ks (R:=λr=>R _) (h a) r E
def My(h:∀a b c,R [a,b,c])(us:Γ α)(e:us.length=3):R us:=by
 let(a,r,rfl,E):=Mm us e;exact Lz (R:=λr=>R _) (h a) r E
def O6(h:∀a b c d,R [a,b,c,d])(us:Γ α)(e:us.length=4):R us:=by
 let(a,r,rfl,E):=Mm us e;exact My (R:=λr=>R _) (h a) r E
def TK(h:∀a b c d f,R [a,b,c,d,f])(us:Γ α)(e:us.length=5):R us:=by
 let(a,r,rfl,E):=Mm us e;exact O6 (R:=λr=>R _) (h a) r E
end
section
variable {K:Φ}
def f1(f c:Ψ)(p:Θ){st:Ω}(b:dS st ps:=by exactλ_ _ _ _ _ _ _ _ us H=>Ks (R:=λus=>bindArgs _ {us,[]}=pure (List.zip _ us)) (λ_=>rfl) us H)(a:W.nsIn K mainGlobals x=↑(↑(.ref f)):=by kernel_rfl)(l:K.lookup f=↑(fo x st p c):=by kernel_rfl)(d:W.codeIn K (.ref c) x=true:=by kernel_rfl)(k:W.keepIn K (.ref f)=true:=by kernel_rfl):gR K x st ps:=RY b a l d k
def f2(f c:Ψ)(p:Θ){st:Ω}(b:dS st ps:=by exactλ_ _ _ _ _ _ _ _ us H=>Lz (R:=λus=>bindArgs _ {us,[]}=pure (List.zip _ us)) (λ_ _=>rfl) us H)(a:W.nsIn K mainGlobals x=↑(↑(.ref f)):=by kernel_rfl)(l:K.lookup f=↑(fo x st p c):=by kernel_rfl)(d:W.codeIn K (.ref c) x=true:=by kernel_rfl)(k:W.keepIn K (.ref f)=true:=by kernel_rfl):gR K x st ps:=RY b a l d k
def f3(f c:Ψ)(p:Θ){st:Ω}(b:dS st ps:=by exactλ_ _ _ _ _ _ _ _ us H=>My (R:=λus=>bindArgs _ {us,[]}=pure (List.zip _ us)) (λ_ _ _=>rfl) us H)(a:W.nsIn K mainGlobals x=↑(↑(.ref f)):=by kernel_rfl)(l:K.lookup f=↑(fo x st p c):=by kernel_rfl)(d:W.codeIn K (.ref c) x=true:=by kernel_rfl)(k:W.keepIn K (.ref f)=true:=by kernel_rfl):gR K x st ps:=RY b a l d k
def l3(f c:Ψ)(p:Θ){st:Ω}(b:dS st ps:=by exactλ_ _ _ _ _ _ _ _ us L=>My (R:=λus=>bindArgs _ {us,[]}=pure (List.zip _ us)) (λ_ _ _=>rfl) us L)(a:W.nsIn K mainGlobals x=↑(↑(.ref f)):=by kernel_rfl)(l:K.lookup f=↑(fo x st p c):=by kernel_rfl)(d:W.codeIn K (.ref c) x=true:=by kernel_rfl)(k:W.keepIn K (.ref f)=true:=by kernel_rfl)(H:W.codeHdIn K c (Ku K c)=true:=by kernel_rfl):rT K x st ps:=U1 b a l d k H
def f4(f c:Ψ)(p:Θ){st:Ω}(b:dS st ps:=by exactλ_ _ _ _ _ _ _ _ us H=>O6 (R:=λus=>bindArgs _ {us,[]}=pure (List.zip _ us)) (λ_ _ _ _=>rfl) us H)(a:W.nsIn K mainGlobals x=↑(↑(.ref f)):=by kernel_rfl)(l:K.lookup f=↑(fo x st p c):=by kernel_rfl)(d:W.codeIn K (.ref c) x=true:=by kernel_rfl)(k:W.keepIn K (.ref f)=true:=by kernel_rfl):gR K x st ps:=RY b a l d k
def f5(f c:Ψ)(p:Θ){st:Ω}(b:dS st ps:=by exactλ_ _ _ _ _ _ _ _ us H=>TK (R:=λus=>bindArgs _ {us,[]}=pure (List.zip _ us)) (λ_ _ _ _ _=>rfl) us H)(a:W.nsIn K mainGlobals x=↑(↑(.ref f)):=by kernel_rfl)(l:K.lookup f=↑(fo x st p c):=by kernel_rfl)(d:W.codeIn K (.ref c) x=true:=by kernel_rfl)(k:W.keepIn K (.ref f)=true:=by kernel_rfl):gR K x st ps:=RY b a l d k
end
end Hd
namespace Rg
open PySem L2 Dl Rf Ex PySem.Spec PyProof.Rows
abbrev FT:=Γ<|Str×Nat×(Γ D->Δ D)
def i6(st:Ω):Γ Str:=((ah st).names.filter λy=>y.2==.local || y.2==.cell).map (·.1)
structure Ok(P:Program)(w:World)(K:W.Frag)(mg:Str->Option Value)(base:Heap)(is:List (Str×Int))(cl:List Str)(j:Nat)(l:FT)(fx:XT):Prop where
 of:rE P w K mg base j l
 ox:Be P w K mg base j fx
 oi:mf mg is
 ob:∀x∈df,mg x=none
 oc:DJ K mg cl
 os:∃h:ι,K.In h/\h.Ns mainGlobals mg
section
variable {K:Φ}{st:Ω}{l:FT}
def up(h:Ok P w K mg base is cl j l fx)(e:j<=k):Ok P w K mg base is cl k l fx:={λx n m z=>(h.of x n m z).mono e,λx n m z=>(h.ox x n m z).mono e,h.oi,h.ob,h.oc,h.os}
def Rj(h:Ok P w K mg base is cl j l fx)(F:FB P w K mg base j x n m):Ok P w K mg base is cl j ((x,n,m)::l) fx:={Rp F h.of,h.ox,h.oi,h.ob,h.oc,h.os}
def Tw(h:Ok P w K mg base is cl j l fx)(F:Jl P w K mg base j x n m):Ok P w K mg base is cl j l ((x,n,m)::fx):={h.of,xm F h.ox<|yM j,h.oi,h.ob,h.oc,h.os}
def S5(h:Ok P w K mg base is cl j l fx)(D:gR K x st ps):Em K mg x st ps:=let ⟨_,a,b⟩:=h.os;D.mg a b
def UA(h:Ok P w K mg base is cl j l fx)(D:rT K x st ps):O7 K mg x st ps:=let ⟨_,a,b⟩:=h.os;D.mg a b
def fst(a:sc.kind=.function:=by kernel_rfl)(b:sc.isCoroutine=false:=by kernel_rfl)(c:sc.isGenerator=false:=by kernel_rfl)(d:N.Nodup:=by decide +kernel)(e:N.take P.length=P:=by kernel_rfl)(f:∀x∈P,sc.names.lookup x=↑.local \/ sc.names.lookup x=↑.cell:=by decide +kernel)(g:∀y∈sc.names,y.2≠.free:=by decide +kernel):aY N P sc:={a,b,c,d,e,f,g}
abbrev lE(st:Ω)(n:Nat):Γ Str:=(i6 st).take n
def on(st:Ω)(D:gR K x st (lE st n))(h:Ok P w K mg base is cl j l fx)(t:Tp st (i6 st) ⟨l,is⟩ g:=by ac_rfl)(F:aY (i6 st) (lE st n) (ah st):=by exact fst)(e:(lE st n).length=n:=by kernel_rfl)(E:(i6 st).length=k:=by kernel_rfl):Ok P w K mg base is cl (j+1) ((x,n,bF g k)::l) fx:=by
 have:=Rj (up h<|Nat.le_succ j)<|Vk (S5 h D) F h.ob h.of h.oi t;rw[e,E]at this;exact this
def ox(st:Ω)(D:gR K x st (lE st n))(h:Ok P w K mg base is cl j l fx)(t:Tp st (i6 st) ⟨l,is⟩ g:=by ac_rfl)(tx:UI st (i6 st) ⟨l,is⟩ fx cl xg:=by ac_rfl)(F:aY (i6 st) (lE st n) (ah st):=by exact fst)(e:(lE st n).length=n:=by kernel_rfl)(E:(i6 st).length=k:=by kernel_rfl):Ok P w K mg base is cl (j+1) ((x,n,bF g k)::l) ((x,n,sM xg k)::fx):=by
 have:=SW (S5 h D) h.ob h.of h.oi h.ox h.oc tx F;rw[e,E]at this;exact Tw (on st D h t F e E) this
def ol(st:Ω)(N:Γ Str)(q:Str)(D:rT K x st (N.take n))(h:Ok P w K mg base is cl j l fx)(t:UJ st N ⟨l,is⟩ q g:=by ac_rfl)(F:aY N (N.take n) (ah st):=by exact fst)(H:x∈ka/\x++".<locals>."++"<lambda>"=q:=by decide +kernel)(e:(N.take n).length=n:=by kernel_rfl)(E:N.length=k:=by kernel_rfl):Ok P w K mg base is cl (j+4) ((x,n,bF g k)::l) fx:=by
 have:=Rj (up h<|jU j 4)<|UV (UA h D) F h.ob h.of h.oi H t;rw[e,E]at this;exact this
end
end Rg
namespace Ob
open PySem L2 PySem.Spec PyProof.Rows Dl
section
variable {os VL:Γ Oj}{st:Ω}{rest:Γ Ω}
end
def F7(g:OG)(n:Nat)(args:Γ D):Δ D:=(g (args.map Slot.val++List.replicate (n-args.length) .VC) []).map fun|.rt d _=>d|.nx _ _=>.none
def QL{K:Φ}{st:Ω}(F:yg K x qual st f fd)(S:aY N ps (ah st))
  (body:∀X:Cx,X.prog=P->X.w=w->X.K=K->X.mg=mg->X.base=base->Bk X N (ah st) k->X.env.code=fd.code->X.env.qual=qual++".<locals>."->∀VA VB pa,F3 X VA VB pa (aP st) g):dE P w K mg base tI (k+1) f fd ps (Qf K ps.length<|F7 g N.length):=by
 let(oc,od,kV,C,pm,an,Y,ct,XJ,rfl,lk,R):=F.ex;refine tT lk R S (λvs H Q E z=>by let(m,t,d,h1,_,J,L,_):=z;rw[J.length,L]) λA O s H vs Q E U z=>?_;let(m,t,d,sm,tb,rr,hl,n,q):=z;refine{_,(body (tJ tI P w K mg base N qual (ah _) f Y A O s H E).V0 rfl rfl rfl rfl rfl {rfl,S.nd,λy kd Z=>.inl Z,rfl,λ_ _=>rfl,U,rfl,S.kind} rfl rfl m H []).V0,?_};unfold F7 at n;let(o,T,n):=ai n;have G:∀{D i:Hp}{p:Γ Oj},fT K m H [] D i [] p []->bc m H D i:=λ{D i p} ⟨B,ad,Bs,l⟩=>⟨λb u z=>l.S.gr.hh b u<|l.h0 b u z,l.S.gr.ff,l.S.gr.fh,λb u z=>by
  rcases l.S.gr.nw b u z with y|y
  .exact .inl y
  .refine .inr ?_;cases c:H b with
   |none=>rfl
   |some w=>have:=l.h0 b w c;rw[show B b=none from y]at this;cases this⟩
 refine{m,_,_,o,{H,λ_=>0,λ_ _=>none,{Ex.zu sm tb rr,.refl _,λk o e=>by simp at e,λk hk=>by simp at hk,λk hk=>by simp at hk,λj k M=>by simp at M,yM _,λk a e=>by simp at e}},T,?_};cases o with
 |rt d' p=>cases n;exactλv i D I r=>q v i D (G I) r
 |nx ρ' p=>cases n;exactλσ' i D I _=>q .VC i D (G I.ends) (by simp[Rep])
abbrev CK:=ao->Γ Oj->Δ (Γ Slot×Γ Oj)
def SJ(K:Φ)(VA VB:Hp)(pa:Γ Ψ)(i:Nat)(f:CK):TA:=λc H Q=>∃F b o s L a,fT K VA VB pa F H b o c/\c[i]?=↑(↑(.ref a))/\f b o=↑(s,L)/\∀v d D,fT K VA VB pa D d b L c->az F D->gT K D a s v->Q v d
def KC(X:Cx)(VA VB:Hp)(pa:Γ Ψ)(i:Nat)(es:Γ γ)(f:CK):Prop:=PA X es<|SJ X.K VA VB pa i f
structure P5(P:Program)(w:World)(K:W.Frag)(mg:Str->Option Value)(base:Heap)(k:Nat)(C:Addr)(x:Str)(n:Nat)(mm:List Slot->Fs->Option (D×Fs)):Prop where
 ex:∃ (f:Ψ) (fd:η) (ps:Γ Str),dE P w K mg base tI k f fd ps (LC K C n mm)/\mg x=↑(.ref f)/\W.keepIn K (.ref f)=true/\Binds K fd ps []
def P5.mono{K:Φ}{mm:Γ Slot->Fs->Δ _}(F:P5 P w K mg base k C m n mm)(h:k<=j):P5 P w K mg base j C m n mm:=by
 let(f,d,p,a,b,c):=F.ex;exact{f,d,p,a.mono h,b,c}
section
variable {os VL:Γ Oj}{st:Ω}{rest:Γ Ω}
def Iv:CK:=λ_ o=>↑([],o)
def uW(f:OF)(g:CK):CK:=λa o=>(f a o).bind λx=>(g a x.2).map λy=>(.val x.1::y.1,y.2)
def AW(g:CK):CK:=λa o=>(g a o).map λy=>(.obj 0::y.1,y.2)
def Ky:KC X VA VB pa i [] Iv:=hJ cf λc H Q z=>by
 let(F,b,o,s,L,a,S,A,f,q):=z;cases f;exact q [] H F S (.refl _) .nil
def JI(E:OE X VA VB pa e fa)(hs:KC X VA VB pa i es g)(W:starEach (e::es) X.env=(false,eval e X.env)::starEach es X.env:=by rfl):KC X VA VB pa i (e::es) (uW fa g):=
 hJ (ba E hs W) λu H Q z=>by
  let(F,b,o,p,L,a,S,A,f,q):=z;let((x,o1),k,f):=bs f;let((m,o2),y,z):=ai f;cases z;exact{F,b,o,x,o1,S,k,λv n G d l r1=>{G,b,o1,m,_,a,d,A,y,λt c U j s r=>q _ c U j (l.trans s)<|.val (r1.mono s) r}}
def Kr(n:X.N[i]?=↑x)(v:nW X.env.scope x)(hs:KC X VA VB pa i es g)(d:(x=="__debug__")=false:=by decide)(R:(x=="__classdict__")=false:=by decide)
  (W:starEach (.Name x px::es) X.env=(false,eval (.Name x px) X.env)::starEach es X.env:=by rfl):KC X VA VB pa i (.Name x px::es) (AW g):=
 hJ (ba (bQ n v d R) hs W) λm H Q z=>by
  let(F,j,o,l,L,a,S,A,f,q):=z;let((e,o2),y,z):=ai f;cases z;exact{_,A,F,j,o,e,_,a,S,A,y,λk b U s c r=>q _ b U s c<|.obj r}
def nU(i:Nat)(C:Ψ)(n:Nat)(mm:Γ Slot->Fs->Δ (D×Fs))(fs:CK):OF:=λa o=>(obj i C a o).bind λ_=>(fs a o).bind λy=>(obj i C a y.2).bind λz=>if y.1.length=n then(mm y.1 z.2).map λw=>(w.1,y.2.set z.1 {C,w.2})else none
def F1{mm:Γ Slot->Fs->Δ (D×Fs)}{fs:CK}(F:P5 X.prog X.w X.K X.mg X.base k C x n mm)(hr:bT k X.A)(hg:Gl X x)(ha:KC X VA VB pa i (e::es) fs)(O:(x==("__debug__":Str))=false:=by decide)
  (he:starEach (e::es) X.env=(false,eval e X.env)::starEach es X.env:=by rfl)(W:(backTo pos<|starEach es X.env).any (·.1)=false:=by rfl):OE X VA VB pa (.Call (.Name x p) (e::es) [] pos) (nU i C n mm fs):=by
 let(f,fd,ps,ok,hm,hk,hb):=F.ex;refine aF (mH (E:=E0) ok hr hg hm hk hb .nil o8 ha O he W) λσ H Q z=>?_;let(M,ρ,os,d,VL,S,a,q):=z;let((c,st0),Y,a):=bs a;let((L,o1),h1,a):=bs a;let((k,st),h2,a):=bs a;split at a
 .rename_i hl;let((U,Z),h4,a):=ai a;cases a;let(j,e2):=obj_some Y;let(y,s):=obj_some h2;rw[j]at y;cases y;have S0:=S;let(HB,l,Bs,o):=S;refine{M,ρ,os,L,o1,l c,S0,o.S.ob i c j,h1,λvs H1 T N s1 r1=>?_};let(J,m,B,P):=N;have g:c<o1.length:=(List.getElem?_eq_some_iff.mp s).1;have G:m c=l c:=by
   have z1:=P.S.ob i c j;have z2:=o.S.ob i c j;rw[z2]at z1;injection z1 with z1
   injection z1 with z1
   injection z1 with z1
   exact z1.symm
  rw[qF];refine{T,B c,l c,L,st,U,Z,P.S.gr.fh,P.S.tb,λb u z=>P.S.gr.hh b u<|P.sb c g b u z,λb u z=>P.nf g z,G▸P.at_ c _ s,r1,hl,h4,λv I R B' t z r=>?_};exact q v I R {_,_,_,P.turn s t<|G▸z} (s1.trans t.gr.ff) r
 .cases a
end
open PySem L2 PySem.Spec PyProof.Rows Dl Ex
abbrev XO:=ao->Γ Oj->Δ Str
def PX(K:Φ)(m:Str->Δ Θ)(VA VB:Hp)(pa:Γ Ψ)(E:XK)(xg:XO)(σ:L2.St)(H:Hp):Prop:=∃F b o c D,fT K VA VB pa F H b o σ/\xg b o=↑c/\m c=↑(.ref D)/\∀a v,bc F H v a->E (.ref D) none a
def De(X:Cx)(E:XK)(VA VB:Hp)(pa:Γ Ψ)(e:γ)(xg:XO):Prop:=PE X e λa H _=>PX X.K X.mg VA VB pa E xg a H
def yn(X:Cx)(E:XK)(VA VB:Hp)(pa:Γ Ψ)(s:Γ Ω)(xg:XO):Prop:=qb X s λ_ a H=>PX X.K X.mg VA VB pa E xg a H
section
variable {xg xa xb:XO}{K:Φ}
def fT.tb{os:Γ Oj}(h:fT K VA VB pa HF H ρ os σ):cx K HF:=let ⟨_,_,_,o⟩:=h;o.S.tb
def RN:XO:=λ_ _=>none
def Pw{st:Γ Ω}:yn X E VA VB pa st RN:=λp s b H Q I z=>by let(F,a,o,c,D,_,h,_):=z;cases h
def Dk{rest:Γ Ω}(h:De X E VA VB pa e xg):yn X E VA VB pa (.Return (↑e) pos::rest) xg:=λp s a H D I q=>vE<|b0 (rq h p s a H P6 I q) λf S z=>(MP z).elim
def tj(t:Dl.Env->Δ θ)(xa xb:XO):XO:=λa o=>(t<|aI a).bind λb=>if b=true then xa a o else xb a o
def M0(h:PX K mg VA VB pa E (tj t xa xb) σ H)(i:∀a,PX K mg VA VB pa E xa σ a->Q true a)(j:∀a,PX K mg VA VB pa E xb σ a->Q false a):MH K t σ H Q:=by
 let(F,d,o,c,D,S,x,hc,q):=h;let(b,B,x):=bs x;refine{H,aI d,b,.refl _,S.all,B,λa k G=>?_};have p:∀{g:XO},g d o=↑c->PX K mg VA VB pa E g σ a:=λz=>{F,d,o,c,D,S.step G.hh,z,hc,λf v e=>q f v<|bc.trans {G.hh,.refl _,S.fh.trans G.hh,λ_ _=>.inl} e}
 cases b with
 |true=>exact i a (p x)
 |false=>exact j a<|p x
def Nm(hc:DT X.V0 c t)(A:De X E VA VB pa a xa)(B:De X E VA VB pa b xb):De X E VA VB pa (.IfExp c a b pos) (tj t xa xb):=
 aF (rV (PT.V0 hc) A B) λd H Q h=>M0 h (λ_ z=>mZ z) λ_ z=>lJ z
def GU{rest:Γ Ω}(hc:DT X.V0 c t)(a:yn X E VA VB pa ss xa)(b:yn X E VA VB pa rest xb):yn X E VA VB pa (.If c ss [] pos::rest) (tj t xa xb):=
 fZ (et (uJ (.V0 hc) a ll) b) λD d H h=>M0 h (λ_=>mZ) λ_=>lJ
def Oh(n:Nat)(xm:Γ D->Δ Str)(fs:FK):XO:=λa o=>(fs a o).bind λd=>if d.length=n then xm d else none
def Gw{xm:Γ D->Δ Str}(F:Jl X.prog X.w X.K X.mg X.base k x n xm)(R:bT k X.A)(s:cO (uE X.prog X.w) X E)(r:Gl X x)(m:Pp X.V0 VA VB pa (e::es) fs)(v:(x==("__debug__":Str))=false)
  (o:starEach (e::es) X.env=(false,eval e X.env)::starEach es X.env)(W:(backTo pos<|starEach es X.env).any (·.1)=false):De X E VA VB pa (.Call (.Name x p) (e::es) [] pos) (Oh n xm fs):=by
 let(f,C,P,O,M,hk,B):=F.ex;refine aF (mH O R r M hk B .nil s (A9 m) v o W) λJ H Q z=>?_;let(i,u,t,c,D,S,a,hc,q):=z;let(d,Y,a):=bs a;let(L,a):=Rf.uz a;exact{i,u,t,d,S,Y,λI y l G r1=>{l,d,c,D,G.fh,S.tb.mono G.ff,by rw[qF];exact r1,L,a,hc,λb j g=>q b j<|G.trans g}}
def EW(K:Φ)(m:Str->Δ Θ)(C:Ψ)(n:Nat)(xm:Γ Slot->Fs->Δ Str):Sp:=λS H _ E=>∃F B a s st c D,az F H/\cx K F/\az B H/\(∀b o,B b=↑o->F b=none)/\EK K F B C a st/\gT K F a s S/\s.length=n/\xm s st=↑c/\m c=↑(.ref D) /\
 ∀d v,bc F H v d->E (.ref D) none d
structure B7(P:Program)(w:World)(K:W.Frag)(mg:Str->Option Value)(base:Heap)(k:Nat)(C:Addr)(m:Str)(n:Nat)(xm:List Slot->Fs->Option Str):Prop where
 ex:∃ (f:Ψ) (fd:η) (ps:Γ Str),dE P w K mg base (uE P w) k f fd ps (EW K mg C n xm)/\A3 K C m f/\Binds K fd ps []
def B7.mono{xm:Γ Slot->Fs->Δ Str}(F:B7 P w K mg base k C m n xm)(h:k<=j):B7 P w K mg base j C m n xm:=by
 let(f,d,p,a,b,c):=F.ex;exact{f,d,p,a.mono h,b,c}
def HH(i:Nat)(C:Ψ)(m:Str)(n:Nat)(xm:Γ Slot->Fs->Δ Str)(fs:FK):XO:=λa o=>(obj i C a o).bind λy=>if(y.2.lookup m).isNone=true then(fs a o).bind λd=>if d.length+1=n then xm (.obj 0::d.map Slot.val) y.2 else none else none
def DM{xm:Γ Slot->Fs->Δ Str}(h:PX K mg VA VB pa E (HH i C m n xm fs) σ H):CV C m (EW K mg C n xm) [] E (Fg i) (Re K VA VB pa fs) σ H Q:=by
 let(F,I,O,c,D,S,f,hc,q):=h;let((k,st),w,f):=bs f;let(l,f):=Rf.uz f;let(d,y,f):=bs f;let(N,f):=Rf.uz f;let(t,e):=obj_some w;have S0:=S;let(J,a,B,o):=S;let(x,A,M,f1,f2,f3,f4):=(o.at_ k _ e).ex;have L:=(List.getElem?_eq_some_iff.mp e).1;have s:az _ H:=λb u z=>o.S.gr.hh b u<|o.sb k L b u z;refine{_,o.S.ob i k t,a k,x,A,rfl,s _ _ f1,lx f3 (by cases z:st.lookup m with|none=>rfl|some _=>rw[z]at l;cases l),F,I,O,d,S0,y,λP p r G r1=>?_};show EW K mg C n xm _ p Q E;rw[qF];exact{r,B k,a k,.obj 0::d.map _,st,c,D,G.fh,S0.tb.mono G.ff,s.trans G.hh,λb u z=>G.Wa (o.nf L z)<|s b u z,(o.at_ k _ e).mono G.ff,.obj<|lz r1,by simpa using N,f,hc,λj v g=>q j v<|G.trans g}
def FV{xm:Γ Slot->Fs->Δ Str}(F:B7 X.prog X.w X.K X.mg X.base k C m n xm)(r:bT k X.A)(p:cO (uE X.prog X.w) X E)(a:X.N[i]?=↑x)(v:nW X.env.scope x)(cl:sd X.K C)(b:Pp X.V0 VA VB pa (e::es) fs)(d:(x==("__debug__":Str))=false)(R:(x==("__classdict__":Str))=false)
  (u:starEach (e::es) X.env=(false,eval e X.env)::starEach es X.env)(W:(backTo pos<|starEach es X.env).any (·.1)=false)
  (ht:eval (.Call (.Attribute (.Name x px) m apos) (e::es) [] pos) X.env=(do
   let o <- eval (.Name x px) X.env
   standAt apos.atName
   let (f,first) <- holding [o]<|getMethod o m pl
   callWith pos f first (backTo pos<|starEach (e::es) X.env) (backToKw pos<|keywordEach [] X.env))):De X E VA VB pa (.Call (.Attribute (.Name x px) m apos) (e::es) [] pos) (HH i C m n xm fs):=by
 let(f,D,s,O,M,B):=F.ex;exact aF (vo (bQ a v d R) cl M O r B .nil p (A9 b) u W ht) λc H Q=>DM
def Eg{xm:Γ Slot->Fs->Δ Str}(F:B7 X.prog X.w X.K X.mg X.base k C m n xm)(r:bT k X.A)(P:cO (uE X.prog X.w) X E)(l:X.N[i]?=↑x)(s:nW X.env.scope x)(cl:sd X.K C)(D:(x==("__debug__":Str))=false)(R:(x==("__classdict__":Str))=false)
  (ht:eval (.Call (.Attribute (.Name x px) m apos) [] [] pos) X.env=(do
   let o <- eval (.Name x px) X.env
   standAt apos.atName
   let (f,first) <- holding [o]<|getMethod o m pl
   callWith pos f first (backTo pos<|starEach [] X.env) (backToKw pos<|keywordEach [] X.env))):De X E VA VB pa (.Call (.Attribute (.Name x px) m apos) [] [] pos) (HH i C m n xm rH):=by
 let(f,u,z,O,M,B):=F.ex;refine aF (qv (bQ l s D R) cl M O r B .nil P ht) λI H Q h=>?_;let(v,e,a,d,fs,c,g,j,b,G,y,t,S,p,q):=DM (Q:=Q) h;cases p;exact{v,e,a,d,fs,c,g,j,q [] H b (.refl S.fh) .nil}
end
def pC(xg:XO)(C:Ψ)(n:Nat):Γ Slot->Fs->Δ Str:=λa st=>xg (a++List.replicate (n-a.length) .VC) [⟨C,st⟩]
def Py{K:Φ}{st:Ω}(F:yg K x qual st f fd)(S:aY N ps (ah st))
  (body:∀X E,X.prog=P->X.w=w->X.K=K->X.mg=mg->X.base=base->Bk X.V0 N (ah st) k->X.calm=true->Xk X E->∀VA VB pa,yn X E VA VB pa (aP st) xg):dE P w K mg base (uE P w) (k+1) f fd ps (EW K mg C ps.length<|pC xg C N.length):=by
 let(I,M,kV,g,U,u,Y,T,J,rfl,L,R):=F.ex;refine tT L R S (λv H Q E z=>by let(b,B,a,d,st,c,D,_,_,_,_,_,i,j,_):=z;rw[i.length,j]) λA o s H v Q E r z=>?_;let(b,B,a,d,st,c,D,sm,t,p,n,O,m,G,l,hc,q):=z;exact{_,body _ E rfl rfl rfl rfl rfl {rfl,S.nd,λy kd=>.inl,rfl,λ_ _=>rfl,r,rfl,S.kind} rfl {rfl,rfl,rfl,λe Z z=>xA z (λ_ _ h=>h) λ_ _ h=>h.elim} b (cut H B) [a],({b,_,_,c,D,xo sm t p n O m,l,hc,q})}
def Im(hk:Xk X E)(hc:X.calm=true)(g:Gl X x)(m:X.mg x=↑(.ref C))(q:W.excIn X.K C Jy "ValueError.__new__"=true)(v:(x==("__debug__":Str))=false) :
  PS X (.Raise (↑(.Call (.Name x np) [.Constant (.str t) i p] [] cpos)) none pos) (λ_ _ H=>E (.ref C) none H):=λP s a H D I z=>yz I hc g m q hk.hs hk.hf hk.hex hk.hxe z v
def jt(gb:OG)(xg:XO)(fin:Str->Δ D):OG:=λa o=>match gb a o with
 |some (.rt d L)=>↑(.rt d L)
 |some (.nx _ _)=>none
 |none=>(xg a o).bind λc=>(fin c).map λd=>.rt d o
def Nb(X:Cx)(i:Nat)(s:Γ Ω)(F:Ψ)(fin:Str->Δ D):Prop:=∀c d,fin c=↑d->∃C,X.mg c=↑(.ref C)/\W.exmOne X.K (.ref C) (.ref F)=↑true/\uU X i s c d
def PH{fin:Str->Δ D}(hs:X.stack=X.env::X.outer)(R:X.env.frame=↑X.env.locals)
  (T:Gl X x)(hm:X.mg x=↑(.ref U))(r:(x=="__debug__")=false)(J:X.N.Nodup)(hi:X.N[i]?=↑n)(Z:X.env.kindOf n=↑.local)(Y:X.env.scope.names.lookup n=↑.local)(W:X.env.cells.lookup n=none)
  (y:F3 X.V0 VA VB pa body gb)(hx:∀P g E,cO (uE X.prog X.w) (fu X P g) E->yn (fu X P g) E VA VB pa body xg)(Q:Nb X i (ZC::XH) U fin) :
  OS X VA VB pa (.Try body [.ExceptHandler (↑(.Name x np)) (↑n) (ZC::XH) Yw] [] [] pos) (jt gb xg fin):=by
 intro p s k H D I z;let(F,j,f,o,S,O,q):=z;unfold jt at O;split at O
 .rename_i d L B;cases O;exact KJ y p s k H D I {F,j,f,.rt d L,S,B,q}
 .cases O
 .let(c,hc,O):=bs O;let(d,M,rfl):=ai O;let(C,e,m,u):=Q c d M;exact KQ (tx:=λE _=>PX X.K X.mg VA VB pa E xg) hs R T hm r J hi Z Y W hx e m u p s k H D I {λb=>∃a,bc F H a b,{F,j,f,c,C,S,hc,e,λb a G=>{rfl,a,G}},λb z=>by let(a,G):=z;exact {a,G.fh,λv l t A=>q v l t (S.grow<|G.trans A).ends}}
def runN(x:Γ Slot->Fs->Δ Str)(fin:Str->Δ D):Γ D->Δ D:=λd=>(x (.obj 0::d.map Slot.val) []).bind fin
def Eb(t:Dl.Env->Δ θ)(fa fb:OF):OF:=λa o=>(t<|aI a).bind λb=>if b=true then fa a o else fb a o
def NC(hc:DT X c t)(A:OE X VA VB pa a fa)(B:OE X VA VB pa b fb):OE X VA VB pa (.IfExp c a b pos) (Eb t fa fb):=aF (rV hc A B) λi H Q z=>by
 let(F,e,o,d,L,S,f,q):=z;let(b,h,f):=bs f;refine{H,aI e,b,.refl _,S.all,h,λg v G=>?_};cases b with
 |true=>exact mZ {F,e,o,d,L,S.step G.hh,f,q}
 |false=>exact lJ {F,e,o,d,L,S.step G.hh,f,q}
section
variable {X:Cx}{VA VB HF H VD H':Hp}{pa:Γ Ψ}{ρ ρ':ao}{os VL:Γ Oj}{σ σ':L2.St}{st:Ω}{rest:Γ Ω}{e a b c:γ}{es:Γ γ}{pos p px apos cpos WH:Pos}
def Ia(i:Nat)(C:Ψ)(f:Str)(fb:Dl.Env->Δ D):RF:=λa o=>(obj i C a o).bind λy=>match y.2.lookup f with
 |some (.lst s)=>(fb<|bD a).bind λd=>aN (.list s) d
 |_=>none
def Pj(D:DE X b fb)(hs:mY b)(B:X.N[i]?=↑x)(J:nW X.env.scope x)(cl:sd X.K C)(M:eL X.K C f)
  (a:attributeBase (.Name x px) f X.env (eval (.Name x px) X.env)=eval (.Name x px) X.env)(I:(x==("__debug__":Str))=false)(R:(x==("__classdict__":Str))=false) :
  OR X VA VB pa (.Subscript (.Attribute (.Name x px) f WH) b pos) (Ia i C f fb):=
 aF (G1 BV (wx (bQ B J I R) a) D hs) λW H Q z=>by
  let(m,T,O,d,S,F,q):=z;let((k,st),A,F):=bs F;let(E,e):=obj_some A;split at F
  .rename_i s t;let(y,Y,g):=bs F;cases y<;>try cases g
   rename_i n;have g:tw s n=↑d:=g;have S0:=S;let(HB,ad,Z,o):=S;have L:k<O.length:=(List.getElem?_eq_some_iff.mp e).1;show JF X.K (Fg i) f W H _;refine pV o E e t cl M λdx fs as b U f1 f2 f3 f4 g1 u w=>?_;refine{m,bD T,.int n,S0.fh,S0.Wj,Y,λv l p G r=>?_};let(j,c,P):=nG w g;simp?[Rep]at r;exact .inl {b,U,n,j,rfl,r,iw.of<|G.hh _ _<|o.S.gr.hh _ _<|o.sb k L _ _ u,c,q j l p G<|P.mono G.ff}
  .cases F
def yl(i:Nat)(C:Ψ)(f:Str):OF:=λa o=>(obj i C a o).bind λy=>match y.2.lookup f with
 |some (.lst s)=>(s[s.length-1]?).map λd=>(d,o.set y.1 {C,pG f (.lst s.dropLast) y.2})
 |_=>none
def LV(v:X.N[i]?=↑x)(L:nW X.env.scope x)(cl:sd X.K C)(M:eL X.K C f)
  (w:attributeBase (.Name x px) f X.env (eval (.Name x px) X.env)=eval (.Name x px) X.env)(J:(x==("__debug__":Str))=false)(R:(x==("__classdict__":Str))=false)
  (W:attributeBase (.Attribute (.Name x px) f WH) "pop" X.env (eval (.Attribute (.Name x px) f WH) X.env)=eval (.Attribute (.Name x px) f WH) X.env)
  (I:(apos.endLine==cpos.line)=true) :
  OE X VA VB pa (.Call (.Attribute (.Attribute (.Name x px) f WH) "pop" apos) [] [] cpos) (yl i C f):=
 aF (Gz qM PySem.F.slot_list_pop PySem.F.type_list_pop GW (wx (bQ v L J R) w) W I) λσ H Q z=>by
  let(j,ρ,O,d,Z,S,g,q):=z;let((k,st),p,g):=bs g;let(m,E):=obj_some p;split at g
  .rename_i ds a;let(d',r,e):=ai g;cases e;let(U,ad,T,o):=S;have l:k<O.length:=(List.getElem?_eq_some_iff.mp E).1;unfold RI;refine pV o m E a cl M λD fs A b s f1 f2 f3 f4 n G c=>?_;have B:H b=↑(.lst s):=o.S.gr.hh _ _<|o.sb k l _ _ G;let(y,Y,P):=uL c r;refine{.inl {rfl,s,iw.of B},b,s,y,rfl,rfl,B,Y,?_};have t:=wz (u:=.lst s.dropLast) (λb u z=>o.S.gr.hh b u<|o.sb k l b u z) (λb u z=>o.nf l z) o.S.gr.fh G;refine q y _ j {_,_,_,o.turn E t {D,fs,A,?_,?_,?_,f4}} (.refl _) P
   .rw[ak λz=>by rw[z,G]at f1;cases f1];exact f1
   .rw[ak λz=>by rw[z,G]at f2;cases f2];exact f2
   .exact ze (oP c) f3 f4 a n
  .cases g
end
section
variable {X:Cx}{VA VB HF H VD H':Hp}{pa:Γ Ψ}{σ σ':L2.St}{rest:Γ Ω}{e a b c:γ}{es:Γ γ}{pos p px apos cpos WH:Pos}
def IJ(g:D->D->Δ D)(fa fb:RF):RF:=λa o=>(fa a o).bind λx=>(fb a o).bind λy=>g x y
def MO(R:fy X.K r g):∀σ H Q,Qd X.K VA VB pa (IJ g fa fb) σ H Q->NO r (Qd X.K VA VB pa fa) (Qd X.K VA VB pa fb) σ H Q:=λσ H Q z=>by
 let(F,b,o,d,S,f,q):=z;let(x,l,f):=bs f;let(y,Y,k):=bs f;exact{F,b,o,x,S,l,λp t i G r1=>{i,b,o,y,S.grow G,Y,λs e U a m=>R U e x y p s d Q (S.grow<|G.trans a).fh (r1.mono a.ff) m k λv c D j n=>q v c D ((G.trans a).trans j) n}}
def RH(o:il X (binaryOp op) r)(R:fy X.K r g)(H:OR X VA VB pa a fa)(B:OR X VA VB pa b fb):OR X VA VB pa (.BinOp a op b pos) (IJ g fa fb):=aF (Co o H B)<|MO R
def SR(K:Φ)(C:Ψ)(mr:Fs->Δ D):Sp:=λs H Q _=>∃F B a st d,s=[V.ref a]/\az F H/\cx K F/\az B H/\(∀b o,B b=↑o->F b=none)/\EK K F B C a st/\mr st=↑d/\∀v c e,bc F H e c->Rep K e d v->Q v c
structure D5(P:Program)(w:World)(K:W.Frag)(mg:Str->Option Value)(base:Heap)(k:Nat)(C:Addr)(m:Str)(mr:Fs->Option D):Prop where
 ex:∃ (f:Ψ) (fd:η) (ps:Γ Str),dE P w K mg base tI k f fd ps (SR K C mr)/\A3 K C m f/\Binds K fd ps []
def D5.mono{K:Φ}{mr:Fs->Δ D}(F:D5 P w K mg base k C m mr)(h:k<=j):D5 P w K mg base j C m mr:=by
 let(f,d,p,a,b,c):=F.ex;exact{f,d,p,a.mono h,b,c}
def bZ(i:Nat)(C:Ψ)(m:Str)(mr:Fs->Δ D):RF:=λa o=>(obj i C a o).bind λy=>if(y.2.lookup m).isNone=true then mr y.2 else none
def JR{mr:Fs->Δ D}{pl:Sem θ}(F:D5 X.prog X.w X.K X.mg X.base k C m mr)(G:bT k X.A)(r:X.N[i]?=↑x)(I:nW X.env.scope x)(cl:sd X.K C)(y:(x==("__debug__":Str))=false)(R:(x==("__classdict__":Str))=false)
  (ht:eval (.Call (.Attribute (.Name x px) m apos) [] [] pos) X.env=(do
   let v <- eval (.Name x px) X.env
   standAt apos.atName
   let (f,first) <- holding [v]<|getMethod v m pl
   callWith pos f first (backTo pos<|starEach [] X.env) (backToKw pos<|keywordEach [] X.env))) :
  OR X VA VB pa (.Call (.Attribute (.Name x px) m apos) [] [] pos) (bZ i C m mr):=by
 let(f,W,Y,O,M,t):=F.ex;refine aF (qv (E:=E0) (bQ r I y R) cl M O G t .nil o8 ht) λσ H Q z=>?_;let(g,Z,P,d,S,a,q):=z;let((k,st),p,a):=bs a;let(l,a):=Rf.uz a;let(n,e):=obj_some p;have S0:=S;let(T,c,B,o):=S;let(j,J,U,f1,f2,f3,f4):=(o.at_ k _ e).ex;have L:k<P.length:=(List.getElem?_eq_some_iff.mp e).1;have s:az (B k) H:=λb u z=>o.S.gr.hh b u<|o.sb k L b u z;exact{_,o.S.ob i k n,c k,j,J,rfl,s _ _ f1,lx f3 (by cases z:st.lookup m with|none=>rfl|some _=>rw[z]at l;cases l),g,B k,c k,st,d,rfl,S0.fh,S0.tb,s,λb u z=>o.nf L z,o.at_ k _ e,a,q}
def Iu(f:RF)(C:Ψ)(n:Nat):Fs->Δ D:=λst=>f (Slot.obj 0::List.replicate (n-1) .VC) [⟨C,st⟩]
def Rl{K:Φ}{st:Ω}(F:yg K x qual st f fd)(S:aY N ps (ah st))(p:ps.length=1)
  (body:∀X:Cx,X.prog=P->X.w=w->X.K=K->X.mg=mg->X.base=base->Bk X N (ah st) k->∀VA VB pa,qb X (aP st) λE σ H=>Qd X.K VA VB pa fr σ H E.rt):dE P w K mg base tI (k+1) f fd ps (SR K C<|Iu fr C N.length):=by
 let(m,u,kV,c,M,j,Y,T,J,rfl,l,R):=F.ex;refine tT l R S (λv H Q E z=>by let(b,B,a,st,d,e,_):=z;rw[e,p];rfl) λA o s H v Q E r z=>?_;let(b,B,a,st,d,rfl,sm,t,i,n,O,D,q):=z;refine{_,(body (tJ tI P w K mg base N qual (ah _) f Y A o s H E).V0 rfl rfl rfl rfl rfl {rfl,S.nd,λy kd g=>.inl g,rfl,λ_ _=>rfl,r,rfl,S.kind} b (cut H B) [a]).V0,?_};exact{b,_,_,d,xo sm t i n O<|.obj .nil,D,q}
def GI(h:OR X VA VB pa e f):qb X [.Return (↑e) pos] (λE σ H=>Qd X.K VA VB pa f σ H E.rt):=pQ<|rq h
def Am(f:RF)(xa xb:XO):XO:=λa o=>(f a o).bind λd=>(gB d).bind λb=>if b=true then xa a o else xb a o
def Lv(O:il X.V0 (compareOp op) r)(R:fy X.K r g)(s:OR X.V0 VA VB pa a fa)(t:OR X.V0 VA VB pa b fb)(M:behindInMarks op b=false)(A:yn X E VA VB pa ss xa)(B:yn X E VA VB pa rest xb):yn X E VA VB pa (.If (.Compare a [op] [b] p) ss [] pos::rest) (Am (IJ g fa fb) xa xb):=
 fZ (et (uJ (PT.V0<|pW O s t M) A ll) B) λD f H h=>by
  let(F,c,o,C,i,S,x,U,q):=h;let(d,u,x):=bs x;let(b,W,x):=bs x;refine MO (X:=X.V0) R f H _ {F,c,o,d,S,u,λv l n G r=>?_};obtain rfl:d=.bool b:=by cases d<;>cases W<;>rfl
  simp?[Rep]at r;have P:∀{e:XO},e c o=↑C->PX X.K X.mg VA VB pa E e f l:=λz=>{n,c,o,C,i,S.grow G,z,U,λk m j=>q k m<|G.trans j}
  refine{_,r,?_};cases b with
  |true=>exact mZ (P x)
  |false=>exact lJ<|P x
def L9(c:Str):XO:=λ_ _=>↑c
def EG(hk:Xk X E)(hc:X.calm=true)(g:Gl X x)(m:X.mg x=↑(.ref C))(q:W.excIn X.K C Jy "ValueError.__new__"=true)(v:(x==("__debug__":Str))=false) :
  yn X E VA VB pa [.Raise (↑(.Call (.Name x np) [.Constant (.str t) i p] [] cpos)) none pos] (L9 x):=
 fZ (pQ<|Im hk hc g m q v) λD e H h=>by
  let(F,b,o,c,d,S,a,U,q):=h;cases a;rw[m]at U;cases U;exact q H F<|.refl S.fh
def Jg(i:Nat)(C:Ψ)(m:Str)(xb:XO):XO:=λa o=>(obj i C a o).bind λy=>if(y.2.lookup m).isNone=true then xb a o else none
def FR{mm:Γ Slot->Fs->Δ (D×Fs)}{pl:Sem θ}(F:Nh X.prog X.w X.K X.mg X.base k C m n mm)(I:bT k X.A)(y:X.N[i]?=↑x)(J:nW X.env.scope x)(cl:sd X.K C)(B:De X E VA VB pa b xb)(G:(x==("__debug__":Str))=false)(R:(x==("__classdict__":Str))=false)
  (g:starEach [b] X.env=(false,eval b X.env)::starEach [] X.env)
  (ht:eval (.Call (.Attribute (.Name x px) m apos) [b] [] pos) X.env=(do
   let v <- eval (.Name x px) X.env
   standAt apos.atName
   let (f,first) <- holding [v]<|getMethod v m pl
   callWith pos f first (backTo pos<|starEach [b] X.env) (backToKw pos<|keywordEach [] X.env))):De X E VA VB pa (.Call (.Attribute (.Name x px) m apos) [b] [] pos) (Jg i C m xb):=by
 let(f,Z,ps,P,M,d):=F.ex;refine aF (vo (E:=E0) (bQ y J G R) cl M P I d .nil o8 (ba B cf g) g rfl ht) λσ H Q z=>?_;let(j,T,s,c,D,S,a,hc,q):=z;let((k,st),u,a):=bs a;let(l,a):=Rf.uz a;let(t,e):=obj_some u;have S0:=S;let(W,p,U,o):=S;let(r,O,Y,f1,f2,f3,f4):=(o.at_ k _ e).ex;have L:k<s.length:=(List.getElem?_eq_some_iff.mp e).1;exact{_,o.S.ob i k t,p k,r,O,rfl,o.S.gr.hh _ _<|o.sb k L _ _ f1,lx f3 (by cases z:st.lookup m with|none=>rfl|some _=>rw[z]at l;cases l),j,T,s,c,D,S0,a,hc,q}
end
section
variable {X:Cx}{VA VB:Hp}{pa:Γ Ψ}{b:γ}{pos px:Pos}
def jw(i:Nat)(fb:Dl.Env->Δ D):OF:=λa o=>match a[i]? with
 |some (.own d)=>(fb<|bD a).bind λk=>(aN (.list d) k).map (·,o)
 |_=>none
def Pm(B:DE X b fb)(hs:mY b)(m:X.N[i]?=↑x)(o:nW X.env.scope x)(D:(x==("__debug__":Str))=false)(R:(x==("__classdict__":Str))=false) :
  OE X VA VB pa (.Subscript (.Name x px) b pos) (jw i fb):=
 aF (G1 BV (bQ m o D R) B hs) λK H Q z=>by
  let(F,u,J,d,L,S,f,q):=z;unfold jw at f;split at f
  .rename_i s I;let(y,Y,f):=bs f;let(E,g,e):=ai f;cases e;cases y<;>try cases g
   rename_i n;have g:tw s n=↑d:=g;have S0:=S;let(A,C,w,O):=S;let(a,t,f1,f2,f3,_,f4):=O.S.own i s I;refine{.ref a,f1,F,bD u,.int n,S0.fh,S0.Wj,Y,λv k l G r=>?_};let(j,c,p):=nG f4 g;simp?[Rep]at r;exact .inl {a,t,n,j,rfl,r,iw.of<|G.hh _ _ f2,c,q j k l (S0.grow G) G.ff<|p.mono G.ff}
  .cases f
end
end Ob
namespace Og
open PySem L2 Dl Rf Ob PySem.Spec PyProof.Rows
variable {pos' cp:Pos}
abbrev MF:=Γ Dl.Slot->Fs->Δ (D×Fs)
abbrev XF:=Γ Dl.Slot->Fs->Δ Str
structure Cg where
 cn:Str
 C:Ψ
 fl:Γ Str
 ms:Γ (Str×Nat×MF)
 ini:Δ (Nat×MF)
 rs:Γ (Str×(Fs->Δ D))
 fs:Γ (Str×Nat×MF)
 xs:Γ (Str×Nat×XF)
 on:Γ Str
 ol:Γ Str
structure Sy(P:Program)(w:World)(K:W.Frag)(mg:Str->Option Value)(base:Heap)(j:Nat)(c:Cg):Prop where
 cl:sd K c.C
 na:∀f,c.fl.contains f=true->eL K c.C f
 ms:∀m n mm,c.ms.lookup m=↑(n,mm)->Nh P w K mg base j c.C m n mm
 ini:∀n mi,c.ini=↑(n,mi)->∃f fd ps,Mk K c.C f/\dE P w K mg base tI j f fd ps (LC K c.C n mi)/\Binds K fd ps []/\mg c.cn=↑(.ref c.C)
 rs:∀m mr,c.rs.lookup m=↑mr->D5 P w K mg base j c.C m mr
 fs:∀x n mm,c.fs.lookup x=↑(n,mm)->P5 P w K mg base j c.C x n mm
 xs:∀m n xm,c.xs.lookup m=↑(n,xm)->B7 P w K mg base j c.C m n xm
abbrev rZ(c:Cg)(X:Cx)(j:Nat):Prop:=Sy X.prog X.w X.K X.mg X.base j c
abbrev Ut:OG:=λ_ _=>none
def Uy(X:Cx)(E:XK)(VA VB:Hp)(pa:Γ Ψ)(cl:Γ Str):Prop:=∀x,cl.contains x=true->Gl X x->(x==("__debug__":Str))=false->∀(n c s p:Pos)(t:Str)i,yn X E VA VB pa [.Raise (↑(.Call (.Name x n) [.Constant (.str t) i p] [] c)) none s]<|L9 x
section
variable {c:Cg}{G:Sg}{X:Cx}{N:Γ Str}{sc:ζ}{k j:Nat}{pos p px ap fp:Pos}{VA VB:Hp}{pa:Γ Ψ}
def uB(hs:(args.all λe=>!isStar e)=true)(l:args.length<20)(I:(apos.endLine==pos.line)=true):∃pl:Sem θ,eval (.Call (.Attribute (.Name x px) m apos) args [] pos) env=(do
   let o <- eval (.Name x px) env
   standAt apos.atName
   let (f,first) <- holding [o]<|getMethod o m pl
   callWith pos f first (backTo pos<|starEach args env) (backToKw pos<|keywordEach [] env)):=by
 have a:methodCallForm (args.length+([]:Γ Keyword).length) (backTo pos<|starEach args env) (backToKw pos<|keywordEach [] env)=true:=Ht hs l;have Y:methodCallPos true (.Name x px) env apos pos=pure pos:=by unfold methodCallPos;simp[I]
 refine{(do return(<- importBound (.Name x px) env).getD true),?_};rw[arm_eval_Call];unfold methodCall;rw[a,Y];rfl
structure Yo(c:Cg)(X:Cx)(j k:Nat):Prop where
 ck:rZ c X j
 lt:j<k
structure Yx(c:Cg)(fx:Ex.XT)(cl:List Str)(X:Cx)(E:XK)(VA VB:Hp)(pa:List Addr)(j:Nat):Prop where
 ck:rZ c X.V0 j
 hx:Ex.Be X.prog X.w X.K X.mg X.base j fx
 hp:cO (Ex.uE X.prog X.w) X E
 cl:Uy X E VA VB pa cl
def RJ{st:Ω}:OS X VA VB pa st Ut:=λp s b H E I z=>by let(F,a,O,o,S,g,q):=z;cases g
def Rt{fs:yf}(C:Cn G X N sc j k)(a:OA X VA VB pa (e::es) fs)(l:G.fn.lookup x=↑(n,m))(H:(yi sc x&&!(x==("__debug__":Str)))=true)(hs:isStar e=false)(ht:(es.all λe=>!isStar e)=true):OE X VA VB pa (.Call (.Name x p) (e::es) [] pos) (eh n m fs):=by
 simp?[zF,yP]at H;exact LQ (C.g.fn x n m l) (C.b.room.mono C.le) (C.b.gl H.1) a H.2 (aA hs)<|bo ht
def ND{fs:CK}(C:Cn G X N sc j k)(K:rZ c X j)(a:KC X VA VB pa i (e::es) fs)(l:c.fs.lookup x=↑(n,m))(g:(yi sc x&&!(x==("__debug__":Str)))=true)(hs:isStar e=false)(ht:(es.all λe=>!isStar e)=true):OE X VA VB pa (.Call (.Name x p) (e::es) [] pos) (nU i c.C n m fs):=by
 simp?[zF,yP]at g;exact F1 (K.fs x n m l) (C.b.room.mono C.le) (C.b.gl g.1) a g.2 (aA hs)<|bo ht
def TL{g:CK}(C:Cn G X N sc j k)(hs:KC X VA VB pa i es g)(h:fR N sc i x=true):KC X VA VB pa i (.Name x px::es) (AW g):=let ⟨a,b,d,e⟩:=C.b.W9 h;Kr a b hs d e<|aA rfl
def QY{fs:yf}(C:Cn G X N sc j k)(K:rZ c X j)(a:OA X VA VB pa (e::es) fs)(l:c.ms.lookup m=↑(n,mm))(h:fR N sc i x=true)(I:(ap.endLine==pos.line)=true)(hs:isStar e=false)(ht:(es.all λe=>!isStar e)=true)(z:decide ((e::es).length<20)=true):OE X VA VB pa (.Call (.Attribute (.Name x px) m ap) (e::es) [] pos) (cT i c.C m n mm fs):=by
 let(v,d,f,g):=C.b.W9 h;let(p,hw):=uB (x:=x) (m:=m) (px:=px) (env:=X.env) (args:=e::es) (by simp[hs,ht]) (yQ z) I;exact LJ (K.ms m n mm l) (C.b.room.mono C.le) v d K.cl a f g (aA hs) (bo ht) (pl:=p) hw
def Oa(C:Cn G X N sc j k)(K:rZ c X j)(l:c.ms.lookup m=↑(n,mm))(h:fR N sc i x=true)(I:(ap.endLine==pos.line)=true):OE X VA VB pa (.Call (.Attribute (.Name x px) m ap) [] [] pos) (cT i c.C m n mm dU):=by
 let(v,a,d,e):=C.b.W9 h;let(p,hw):=uB (x:=x) (m:=m) (px:=px) (env:=X.env) (args:=[]) rfl (by simp) I;exact GA (K.ms m n mm l) (C.b.room.mono C.le) v a K.cl d e (pl:=p) hw
def Ng(C:Cn G X N sc j k)(K:rZ c X j)(l:c.rs.lookup m=↑mr)(h:fR N sc i x=true)(I:(ap.endLine==pos.line)=true):OR X VA VB pa (.Call (.Attribute (.Name x px) m ap) [] [] pos) (bZ i c.C m mr):=by
 let(v,a,d,e):=C.b.W9 h;let(p,hw):=uB (x:=x) (m:=m) (px:=px) (env:=X.env) (args:=[]) rfl (by simp) I;exact JR (K.rs m mr l) (C.b.room.mono C.le) v a K.cl d e (pl:=p) hw
def TY(C:Cn G X N sc j k)(K:rZ c X j)(hc:c.fl.contains f=true)(h:fR N sc i x=true)(B:nC X "len" (.builtin "len")):OR X VA VB pa (.Call (.Name "len" p) [.Attribute (.Name x px) f fp] [] pos) (uy i c.C f):=let ⟨v,a,d,e⟩:=C.b.W9 h;K7 B v a K.cl (K.na _ hc) rfl d e
def UK(C:Cn G X N sc j k)(K:rZ c X j)(H:DE X b fb)(a:IR b=false)(hc:c.fl.contains f=true)(h:fR N sc i x=true):OR X VA VB pa (.Subscript (.Attribute (.Name x px) f fp) b pos) (Ia i c.C f fb):=let ⟨v,d,e,g⟩:=C.b.W9 h;Pj H (l9 a) v d K.cl (K.na _ hc) rfl e g
def Vf(C:Cn G X N sc j k)(H:DE X b fb)(a:IR b=false)(h:fR N sc i x=true):OE X VA VB pa (.Subscript (.Name x px) b pos) (jw i fb):=let ⟨v,c,d,e⟩:=C.b.W9 h;Pm H (l9 a) v c d e
def Um(C:Cn G X N sc j k)(K:rZ c X j)(hc:c.fl.contains f=true)(h:fR N sc i x=true)(l:(ap.endLine==pos.line)=true):OE X VA VB pa (.Call (.Attribute (.Attribute (.Name x px) f fp) "pop" ap) [] [] pos) (yl i c.C f):=let ⟨v,a,d,e⟩:=C.b.W9 h;LV v a K.cl (K.na _ hc) rfl d e rfl l
def SM(C:Cn G X N sc j k)(H:OE X VA VB pa e f)(l:nQ N sc i x=true)(hs:swapsWith e (↑(.Name x pos')) pos.line X.env=pure false):OS X VA VB pa (.Assign [.Name x pos'] e pos) (og i f):=let ⟨z1,z2,z3,z4⟩:=C.b.loc l;PU i z1 z2 z3 H hs z4
def SS(C:Cn G X N sc j k)(K:rZ c X j)(H:DF X e fl)(hc:c.fl.contains f=true)(h:fR N sc i x=true)(hs:swapsWith e (↑(.Attribute (.Name x px) f fp)) pos.line X.env=pure false):OS X VA VB pa (.Assign [.Attribute (.Name x px) f fp] e pos) (CY i c.C f fl):=let ⟨v,a,d,g⟩:=C.b.W9 h;JL H v a K.cl (K.na _ hc) hs d g
def TC(C:Cn G X N sc j k)(K:rZ c X j)(H:OR X VA VB pa e fe)(hc:c.fl.contains f=true)(h:fR N sc i x=true)(hs:isStar e=false)(l:(ap.endLine==cp.line)=true):OS X VA VB pa (.Expr (.Call (.Attribute (.Attribute (.Name x px) f fp) "append" ap) [e] [] cp) pos) (zh i c.C f fe):=let ⟨v,a,d,g⟩:=C.b.W9 h;JD H v a K.cl (K.na _ hc) rfl d g rfl (Ht (by simp[hs])<|by simp) l (aA hs) rfl
def R3(C:Cn G X N sc j k)(Y:Yo c X j k){fs:yf}(a:OA X VA VB pa (e::es) fs)(hi:c.ini=↑(n,U))(g:(yi sc c.cn&&!(c.cn==("__debug__":Str)))=true)(l:nQ N sc i x=true)(hs:isStar e=false)(ht:(es.all λe=>!isStar e)=true):OS X VA VB pa (.Assign [.Name x pos'] (.Call (.Name c.cn p) (e::es) [] ap) pos) (Af i c.C n U fs):=by
 simp?[zF,yP]at g;let(f,d,s,M,F,B,m):=Y.ck.ini n U hi;let(z1,z2,z3,z4):=C.b.loc l;exact Md M F (C.b.room.mono Y.lt) (C.b.gl g.1) m B a z1 z2 z3 g.2 (aA hs) (bo ht) rfl z4
def Vs(C:Cn G X N sc j k)(H:OE X VA VB pa a fa)(B:OE X VA VB pa b fb):OT X VA VB pa (.Compare a [.Eq] [b] pos) (oB<|yq bV fa fb):=Gm (wX C.b.u64) lb H B<|gH _
def one(C:Cn G X N sc j k)(H:OE X VA VB pa a fa)(B:OE X VA VB pa b fb):OT X VA VB pa (.Compare a [.NotEq] [b] pos) (oB<|yq dC fa fb):=Gm (IZ C.b.u64) lb H B<|gH _
def QB(H:OR X VA VB pa a fa)(B:OR X VA VB pa b fb):OR X VA VB pa (.BinOp a .Sub b pos) (IJ Dl.gG fa fb):=RH FU A4 H B
end
section
variable {c:Cg}{G:Sg}{fx:Ex.XT}{cl:Γ Str}{X:Cx}{N:Γ Str}{sc:ζ}{k j:Nat}{pos p px ap fp:Pos}{VA VB:Hp}{pa:Γ Ψ}
def Oc{fs:FK}(C:Cn G X.V0 N sc j k)(Y:Yx c fx cl X E VA VB pa j)(a:Pp X.V0 VA VB pa (e::es) fs)(l:fx.lookup x=↑(n,m))(g:(yi sc x&&!(x==("__debug__":Str)))=true)(hs:isStar e=false)(ht:(es.all λe=>!isStar e)=true):De X E VA VB pa (.Call (.Name x p) (e::es) [] pos) (Oh n m fs):=by
 simp?[zF,yP]at g;exact Gw (Y.hx x n m l) (C.b.room.mono C.le) Y.hp (C.b.gl g.1) a g.2 (aA hs)<|bo ht
def QM{fs:FK}(C:Cn G X.V0 N sc j k)(Y:Yx c fx cl X E VA VB pa j)(a:Pp X.V0 VA VB pa (e::es) fs)(l:c.xs.lookup m=↑(n,xm))(h:fR N sc i x=true)(I:(ap.endLine==pos.line)=true)(hs:isStar e=false)(ht:(es.all λe=>!isStar e)=true)(z:decide ((e::es).length<20)=true):De X E VA VB pa (.Call (.Attribute (.Name x px) m ap) (e::es) [] pos) (HH i c.C m n xm fs):=by
 let(v,d,f,g):=C.b.W9 h;let(p,hw):=uB (x:=x) (m:=m) (px:=px) (env:=X.env) (args:=e::es) (by simp[hs,ht]) (yQ z) I;exact FV (Y.ck.xs m n xm l) (C.b.room.mono C.le) Y.hp v d Y.ck.cl a f g (aA hs) (bo ht) (pl:=p) hw
def Oq(C:Cn G X.V0 N sc j k)(Y:Yx c fx cl X E VA VB pa j)(l:c.xs.lookup m=↑(n,xm))(h:fR N sc i x=true)(I:(ap.endLine==pos.line)=true):De X E VA VB pa (.Call (.Attribute (.Name x px) m ap) [] [] pos) (HH i c.C m n xm rH):=by
 let(v,a,d,e):=C.b.W9 h;let(p,hw):=uB (x:=x) (m:=m) (px:=px) (env:=X.env) (args:=[]) rfl (by simp) I;exact Eg (Y.ck.xs m n xm l) (C.b.room.mono C.le) Y.hp v a Y.ck.cl d e (pl:=p) hw
def TF(C:Cn G X.V0 N sc j k)(Y:Yx c fx cl X E VA VB pa j)(a:De X E VA VB pa e xb)(l:(c.ms.lookup m).isSome=true)(h:fR N sc i x=true)(I:(ap.endLine==pos.line)=true)(hs:isStar e=false):De X E VA VB pa (.Call (.Attribute (.Name x px) m ap) [e] [] pos) (Jg i c.C m xb):=by
 let(v,d,f,g):=C.b.W9 h;let(p,hw):=uB (x:=x) (m:=m) (px:=px) (env:=X.env) (args:=[e]) (by simp[hs]) (by simp) I;let((n,mm),l):=Option.isSome_iff_exists.mp l;exact FR (Y.ck.ms m n mm l) (C.b.room.mono C.le) v d Y.ck.cl a f g (aA hs) (pl:=p) hw
def Q1{rest:Γ Ω}(C:Cn G X.V0 N sc j k)(H:OR X.V0 VA VB pa a fa)(c:OR X.V0 VA VB pa b fb)(A:yn X E VA VB pa ss xa)(B:yn X E VA VB pa rest xb):yn X E VA VB pa (.If (.Compare a [.Eq] [b] p) ss [] pos::rest) (Am (IJ bV fa fb) xa xb):=Lv (wX C.b.u64) lb H c (gH _) A B
def Vv(C:Cn G X.V0 N sc j k)(Y:Yx c fx cl X E VA VB pa j){n cp:Pos}(g:(cl.contains x&&yi sc x&&!(x==("__debug__":Str)))=true):yn X E VA VB pa [.Raise (↑(.Call (.Name x n) [.Constant (.str t) i p] [] cp)) none pos] (L9 x):=by
 simp?[zF,yP]at g;exact Y.cl x g.1.1 (C.b.gl g.1.2) g.2 _ _ _ _ _ _
end
abbrev P2(st:Ω)(N:Γ Str)(S:Sg)(c:Cg)(b:Γ Ω)(g:OG):Prop:=∀(X:Cx)(_:Unit)(F H:Hp)(p:Γ Ψ)(j k:Nat),Cn S X N (ah st) j k->Yo c X j k->F3 X F H p b g
abbrev O1(st:Ω)(N:Γ Str)(S:Sg)(c:Cg)(fx:Ex.XT)(cl:Γ Str)(b:Γ Ω)(g:XO):Prop:=∀(X:Cx)(E:XK)(F H:Hp)(p:Γ Ψ)(j k:Nat),Cn S X.V0 N (ah st) j k->Yx c fx cl X E F H p j->yn X E F H p b g
abbrev UP(st:Ω)(N:Γ Str)(S:Sg)(c:Cg)(e:γ)(g:RF):Prop:=∀(X:Cx)(_:Unit)(F H:Hp)(p:Γ Ψ)(j k:Nat),Cn S X N (ah st) j k->Yo c X j k->OR X F H p e g
end Og
namespace Xq
open PySem L2 Dl Rf Ob Og Ex Rg PySem.Spec PyProof.Rows
variable {cs:Γ (Str×Ψ)}
structure nJ(K:W.Frag)(C:Addr)(m:Str)(st:Stmt)(ps:List Str):Prop where
 ex:∃ (f:Ψ) (fd:η) (qual:Str),yg K m qual st f fd/\A3 K C m f/\Binds K fd ps []
def Df{K:Φ}{st:Ω}{kV:Θ}(b:dS st ps)(a:W.findIn K (.ref C) m=↑(↑(.ref f)))(n:W.isFn K (.ref f)=true)(l:K.lookup f=↑{oc,od,.func<|W.fnOf m qual (eE st) (aP st) (ah st) .none kV d p A Y t,XJ})
  (c:W.codeIn K Y qual=true)(k:W.keepIn K (.ref f)=true):nJ K C m st ps:={f,_,qual,oI l c k,⟨a,n,k⟩,(oI l c k).binds λkV d p A Y t u=>b _ _ kV d p A Y t u}
section
variable {K:Φ}{st:Ω}{c:Cg}
def IY(h:Sy P w K mg base i c)(e:i<=j):Sy P w K mg base j c:={h.cl,h.na,λm n mm z=>(h.ms m n mm z).mono e,λn M z=>let ⟨f,F,p,a,b,d⟩:=h.ini n M z;{f,F,p,a,b.mono e,d},λm r z=>(h.rs m r z).mono e,λx n mm z=>(h.fs x n mm z).mono e,λm n xm z=>(h.xs m n xm z).mono e}
structure Bp(P:Program)(w:World)(K:W.Frag)(mg:Str->Option Value)(base:Heap)(is:List (Str×Int))(cl:List Str)(j:Nat)(l:FT)(fx:XT)(c:Cg):Prop where
 ok:Ok P w K mg base is cl j l fx
 ck:Sy P w K mg base j c
def yo(h:Bp X.prog X.w X.K X.mg X.base is cl j l fx c)(e:j<k)(C:Bk X N sc k):Cn ⟨l,is⟩ X N sc j k/\Yo c X j k:={{C,{h.ok.of,h.ok.oi,h.ok.ob},jS e},h.ck,e}
def vh{α:Type}{a:α}{l:Γ _}{R:Str->α->Prop}(h:R x a)(H:∀y b,l.lookup y=↑b->R y b):∀y b,((x,a)::l).lookup y=↑b->R y b:=λy b z=>by
 grind
def UL{X:Cx}{E:XK}(o:DJ X.K X.mg cl)(hk:Xk X E)(hc:X.calm=true):Uy X E VA VB pa cl:=λx b g v n c s p t i=>by
 let(C,H,a):=o x<|List.contains_iff_mem.mp b;exact EG hk hc g H a v
def Q3(u:yg K m qual st f fd)(h:Bp P w K mg base is cl j l fx c)(t:P2 st (i6 st) ⟨l,is⟩ c (aP st) g)(F:aY (i6 st) (lE st n) (ah st))(e:(lE st n).length=n)(d:(i6 st).length=k):dE P w K mg base tI (j+2) f fd (lE st n) (LC K c.C n<|gF g c.C k):=by
 have:dE P w K mg base tI (j+2) f fd (lE st n) (LC K c.C (lE st n).length<|gF g c.C (i6 st).length):=MV (k:=j+1) u F λX p hw i W E C _ o H A=>by
  subst p;subst hw;subst i;subst W;subst E;exact let ⟨a,b⟩:=yo h (kM j) C;t X () _ _ A j _ a b
 rw[e,d]at this;exact this
def Ua(u:yg K m qual st f fd)(h:Bp P w K mg base is cl j l fx c)(t:O1 st (i6 st) ⟨l,is⟩ c fx cl (aP st) xg)(F:aY (i6 st) (lE st n) (ah st))(e:(lE st n).length=n)(b:(i6 st).length=k):dE P w K mg base (uE P w) (j+2) f fd (lE st n) (EW K mg c.C n<|pC xg c.C k):=by
 have:dE P w K mg base (uE P w) (j+2) f fd (lE st n) (EW K mg c.C (lE st n).length<|pC xg c.C (i6 st).length):=Py (k:=j+1) u F λX E p hw d W a C hc x g H A=>by
  subst p;subst hw;subst d;subst W;subst a;exact t X E _ _ A j _ {C,{h.ok.of,h.ok.oi,h.ok.ob},Nat.le_succ j} {h.ck,h.ok.ox,x.pass,UL h.ok.oc x hc}
 rw[e,b]at this;exact this
def om(st:Ω)(D:nJ K c.C m st (lE st n))(h:Bp P w K mg base is cl j l fx c)(t:P2 st (i6 st) ⟨l,is⟩ c (aP st) g:=by ac_rfl)(F:aY (i6 st) (lE st n) (ah st):=by exact fst)(e:(lE st n).length=n:=by kernel_rfl)(E:(i6 st).length=k:=by kernel_rfl) :
  Bp P w K mg base is cl (j+2) l fx {c with ms:=(m,n,gF g c.C k)::c.ms}:=by
 let(f,i,q,u,M,B):=D.ex;have d:=IY h.ck<|jU j 2;exact{up h.ok<|jU j 2,{d with ms:=λo N mm=>vh (R:=λm a=>Nh P w K mg base (j+2) c.C m a.1 a.2) {f,i,_,Q3 u h t F e E,M,B} (λy b=>d.ms y b.1 b.2) o (N,mm)}}
def So(st:Ω)(D:nJ K c.C m st (lE st n))(h:Bp P w K mg base is cl j l fx c)(t:P2 st (i6 st) ⟨l,is⟩ c (aP st) g:=by ac_rfl)(tx:O1 st (i6 st) ⟨l,is⟩ c fx cl (aP st) xg:=by ac_rfl)(F:aY (i6 st) (lE st n) (ah st):=by exact fst)(e:(lE st n).length=n:=by kernel_rfl)(E:(i6 st).length=k:=by kernel_rfl) :
  Bp P w K mg base is cl (j+2) l fx {c with ms:=(m,n,gF g c.C k)::c.ms,xs:=(m,n,pC xg c.C k)::c.xs}:=by
 have o:=om st D h t F e E;let(f,d,q,u,M,B):=D.ex;exact{o.ok,{o.ck with xs:=λi N mm=>vh (R:=λm a=>B7 P w K mg base (j+2) c.C m a.1 a.2) {f,d,_,Ua u h tx F e E,M,B} (λy b=>(IY h.ck<|jU j 2).xs y b.1 b.2) i (N,mm)}}
def oq(st:Ω)(D:nJ K c.C m st (lE st 1))(h:Bp P w K mg base is cl j l fx c)(r:aP st=[.Return (↑ex) U]:=by rfl)(t:UP st (i6 st) ⟨l,is⟩ c ex fr:=by ac_rfl)(F:aY (i6 st) (lE st 1) (ah st):=by exact fst)(e:(lE st 1).length=1:=by kernel_rfl)(i:(i6 st).length=k:=by kernel_rfl) :
  Bp P w K mg base is cl (j+2) l fx {c with rs:=(m,Iu fr c.C k)::c.rs}:=by
 let(f,g,q,u,M,B):=D.ex;have d:=IY h.ck<|jU j 2;have n:dE P w K mg base tI (j+2) f g (lE st 1) (SR K c.C<|Iu fr c.C (i6 st).length):=Rl (k:=j+1) u F e λX p hw o W E C x H A=>by
  subst p;subst hw;subst o;subst W;subst E;rw[r];exact let ⟨a,b⟩:=yo h (kM j) C;GI<|t X () _ _ A j _ a b
 rw[i]at n;exact{up h.ok<|jU j 2,{d with rs:=λs v=>vh (R:=λm a=>D5 P w K mg base (j+2) c.C m a) {f,g,_,n,M,B} d.rs s v}}
def oi(f':Ψ)(st:Ω)(D:nJ K c.C "__init__" st (lE st n))(H:Mk K c.C f')(hc:mg c.cn=↑(.ref c.C))(h:Bp P w K mg base is cl j l fx c)(t:P2 st (i6 st) ⟨l,is⟩ c (aP st) g:=by ac_rfl)(F:aY (i6 st) (lE st n) (ah st):=by exact fst)(e:(lE st n).length=n:=by kernel_rfl)(E:(i6 st).length=k:=by kernel_rfl) :
  Bp P w K mg base is cl (j+2) l fx {c with ini:=↑(n,gF g c.C k)}:=by
 let(f,d,q,u,M,B):=D.ex;have a:=IY h.ck<|jU j 2;have z:=M.at_;rw[H.init]at z;cases z;have b:=Q3 u h t F e E;refine{up h.ok<|jU j 2,a.cl,a.na,a.ms,λN m z=>?_,a.rs,a.fs,a.xs};have z:↑(n,gF g c.C k)=↑(N,m):=z;cases z;exact{_,d,_,H,b,B,hc}
abbrev pR(p p2 P a b c:Pos):Γ ExceptHandler:=[.ExceptHandler (↑(.Name "FlowError" p)) (↑"_law_e") [.Return (↑(.Call (.Name "_law_refused" p2) [.Name "_law_e" P] [] a)) b] c]
structure Nd(st:Stmt)(i:Nat):Prop where
 s:fR (i6 st) (ah st) i "_law_e"=true:=by kernel_rfl
 l:(ah st).names.lookup ("_law_e":Str)=↑.local:=by kernel_rfl
 cl:((ah st).names.all λy=>!(y.2==NameKind.cell))=true:=by decide +kernel
 f:yi (ah st) "FlowError"=true:=by decide +kernel
 r:yi (ah st) "_law_refused"=true:=by decide +kernel
def Rb(C:Bk X (i6 st) (ah st) j)(t:Top X st)(T:Nd st i)(M:vg X.K X.mg F cs)(R:∀c d,pK ns c=↑d->CM X.prog X.w X.K X.mg X.base j "_law_refused" c d)(x:(ns.all λc=>(cs.map Prod.fst).contains c)=true):Nb X i [.Return (↑(.Call (.Name "_law_refused" p2) [.Name "_law_e" U] [] p4)) p5] F (pK ns):=λc d v=>by
 have a:=v;unfold pK at a;let(hc,_):=uz a;let(z,H,rfl):=List.mem_map.mp<|List.contains_iff_mem.mp<|List.all_eq_true.mp x c<|List.contains_iff_mem.mp hc;exact{z.2,M.at_ z H,M.xm z H,Ek (R z.1 d v) C.room (C.gl T.r) (by decide) (C.W9 T.s).1 (t.lc _ T.l).1 (t.lc _ T.l).2<|by decide}
def oT(st:Ω)(i:Nat)(D:gR K x st (lE st n))(M:vg K mg Fa cs)(R:{j:Nat}->∀c d,pK ns c=↑d->CM P w K mg base j "_law_refused" c d)(h:Bp P w K mg base is cl j l fx c)(L:aP st=[.Try body (pR p1 p2 p3 p4 p5 p6) [] [] p7]:=by rfl)(t:P2 st (i6 st) ⟨l,is⟩ c body g:=by ac_rfl)(tx:O1 st (i6 st) ⟨l,is⟩ c fx [] body xg:=by ac_rfl)(T:Nd st i:=by exact {})(z:(ns.all λc=>(cs.map Prod.fst).contains c)=true:=by decide +kernel)
  (F:aY (i6 st) (lE st n) (ah st):=by exact fst)(e:(lE st n).length=n:=by kernel_rfl)(G:(i6 st).length=k:=by kernel_rfl):Bp P w K mg base is cl (j+2) l fx {c with fs:=(x,n,gF (jt g xg<|pK ns) c.C k)::c.fs}:=by
 let(f,q,N,u,B):=(S5 h.ok D).ex;have r:dE P w K mg base tI (j+2) f q (lE st n) (LC K c.C (lE st n).length<|gF (jt g xg<|pK ns) c.C (i6 st).length):=MV (k:=j+1) u F λX J hw I W v C p HF H A=>by
  subst J;subst hw;subst I;subst W;subst v;rw[L];refine wc<|PH p.hs p.hf (C.gl T.f) M.fe (by decide) (by rw[C.n];exact C.nd) (C.W9 T.s).1 (p.lc _ T.l).1 (p.lc _ T.l).2 (p.nc _ T.cl) (let ⟨a,b⟩:=yo (X:=X.V0) h (kM j) {C.1,C.2,C.3,C.4,C.5,C.6,rfl,C.8};t X.V0 () _ _ A j _ a b) (λY Z E O=>tx (fu X Y Z) E _ _ A j _ {{C.1,C.2,C.3,C.4,C.5,C.6,rfl,C.8},{h.ok.of,h.ok.oi,h.ok.ob},Nat.le_succ j} {h.ck,h.ok.ox,O,λx Q=>by cases Q})<|Rb C p T M R z
 rw[e,G]at r;have o:=IY h.ck<|jU j 2;exact{up h.ok<|jU j 2,{o with fs:=λS U mm=>vh (R:=λm a=>P5 P w K mg base (j+2) c.C m a.1 a.2) {f,q,_,r,N,u.kp,B} (λy b=>o.fs y b.1 b.2) S (U,mm)}}
end
section
variable {K:Φ}{C:Ψ}{m:Str}{ps:Γ Str}
def m1(q:Str)(f c:Ψ)(p:Θ){st:Ω}(b:dS st ps:=by exactλ_ _ _ _ _ _ _ _ us H=>Hd.Ks (R:=λus=>bindArgs _ {us,[]}=pure (List.zip _ us)) (λ_=>rfl) us H)(a:W.findIn K (.ref C) m=↑(↑(.ref f)):=by kernel_rfl)(n:W.isFn K (.ref f)=true:=by kernel_rfl)(l:K.lookup f=↑(Hd.RC m q st p c):=by kernel_rfl)(d:W.codeIn K (.ref c) q=true:=by kernel_rfl)(k:W.keepIn K (.ref f)=true:=by kernel_rfl):nJ K C m st ps:=Df b a n l d k
def m2(q:Str)(f c:Ψ)(p:Θ){st:Ω}(b:dS st ps:=by exactλ_ _ _ _ _ _ _ _ us H=>Hd.Lz (R:=λus=>bindArgs _ {us,[]}=pure (List.zip _ us)) (λ_ _=>rfl) us H)(a:W.findIn K (.ref C) m=↑(↑(.ref f)):=by kernel_rfl)(n:W.isFn K (.ref f)=true:=by kernel_rfl)(l:K.lookup f=↑(Hd.RC m q st p c):=by kernel_rfl)(d:W.codeIn K (.ref c) q=true:=by kernel_rfl)(k:W.keepIn K (.ref f)=true:=by kernel_rfl):nJ K C m st ps:=Df b a n l d k
def m3(q:Str)(f c:Ψ)(p:Θ){st:Ω}(b:dS st ps:=by exactλ_ _ _ _ _ _ _ _ us H=>Hd.My (R:=λus=>bindArgs _ {us,[]}=pure (List.zip _ us)) (λ_ _ _=>rfl) us H)(a:W.findIn K (.ref C) m=↑(↑(.ref f)):=by kernel_rfl)(n:W.isFn K (.ref f)=true:=by kernel_rfl)(l:K.lookup f=↑(Hd.RC m q st p c):=by kernel_rfl)(d:W.codeIn K (.ref c) q=true:=by kernel_rfl)(k:W.keepIn K (.ref f)=true:=by kernel_rfl):nJ K C m st ps:=Df b a n l d k
def m4(q:Str)(f c:Ψ)(p:Θ){st:Ω}(b:dS st ps:=by exactλ_ _ _ _ _ _ _ _ us H=>Hd.O6 (R:=λus=>bindArgs _ {us,[]}=pure (List.zip _ us)) (λ_ _ _ _=>rfl) us H)(a:W.findIn K (.ref C) m=↑(↑(.ref f)):=by kernel_rfl)(n:W.isFn K (.ref f)=true:=by kernel_rfl)(l:K.lookup f=↑(Hd.RC m q st p c):=by kernel_rfl)(d:W.codeIn K (.ref c) q=true:=by kernel_rfl)(k:W.keepIn K (.ref f)=true:=by kernel_rfl):nJ K C m st ps:=Df b a n l d k
end
section
variable {K:Φ}{st:Ω}{c:Cg}
def Ri{fl:Γ Str}(n:(fl.all λf=>match W.findIn K (.ref C) f with|some none=>true|_=>false)=true)(H:fl.contains f=true):eL K C f:=by
 have:=List.all_eq_true.mp n f<|List.contains_iff_mem.mp H;show W.findIn K (.ref C) f=↑none;split at this
 .assumption
 .cases this
def U0{on ol:Γ Str}(c:sd K C)(a:(fl.all λf=>match W.findIn K (.ref C) f with|some none=>true|_=>false)=true)(h:Ok P w K mg base is cl j l fx):Bp P w K mg base is cl j l fx {cn,C,fl,[],none,[],[],[],on,ol}:=
 {h,c,λf H=>Ri a H,λm n mm z=>(nomatch z),λn i z=>(nomatch z),λm r z=>(nomatch z),λx n mm z=>(nomatch z),λx n mm z=>(nomatch z)}
end
end Xq
namespace Pg
open PySem L2 Dl PySem.Spec PyProof.Rows
def rL:ao->Δ Out:=(aH (pL (qo (eO<|fB<|OP "int"<|ae 0)<|fB<|OP "bool"<|ae 0) (bC<|fC<|.bool false) l8)<|bC<|me Me Me (ae 1) (ae 0)<|ae 2)
def cB:Γ D->Δ D:=bF rL 3
def pq:ao->Δ Out:=(bC<|aj 3 cB<|aa (ae 0)<|aa (fC<|.int 0)<|aa (f2 Dl.gG (ae 1)<|fC<|.int 1) ag)
def da:Γ D->Δ D:=bF pq 2
def uk:ao->Δ Out:=(bC<|vp (OP "tuple"<|ae 0)<|me Me Me (ae 1) (cQ cS<|aa (ae 0) ag)<|ae 2)
def dv:Γ D->Δ D:=bF uk 3
def oZ:ao->Δ Out:=(aH (pL (eO<|fB<|OP "tuple"<|ae 0) (bC<|fC<|.bool false) l8)<|aH (pL (eO<|fB<|cQ Bz<|aa (fP<|ax 1 [1] (bw<|ae 0) (fG 0) (λ_=>↑true)<|aj 2 da<|aa (ae 0)<|aa (ae 1) ag) ag) (bC<|fC<|.bool false) l8)<|bC<|f2 bV (f1 m5<|ae 0)<|cQ cS<|aa (ae 0) ag)
def gV:Γ D->Δ D:=bF oZ 2
def zy:ao->Δ Out:=(bC<|vp (aj 3 dv<|aa (ae 0)<|aa (fC<|.int 2)<|aa (fC<|.int 2) ag)<|vp (aj 3 cB<|aa (f2 aN (ae 0)<|fC<|.int 0)<|aa (fC<|.int 0)<|aa (fC<|.int 9) ag)<|aj 2 gV<|aa (f2 aN (ae 0)<|fC<|.int 1)<|aa (ae 1) ag)
def gu:Γ D->Δ D:=bF zy 2
def Ai:ao->Δ Out:=(aH (pL (eO<|fB<|aj 3 dv<|aa (ae 0)<|aa (fC<|.int 3)<|aa (fC<|.int 3) ag) (bC<|fC<|.bool false) l8)<|bC<|vp (aj 2 da<|aa (f2 aN (ae 0)<|fC<|.int 0)<|aa (ae 1) ag)<|vp (aj 2 da<|aa (f2 aN (ae 0)<|fC<|.int 1)<|aa (ae 2) ag)<|aj 3 cB<|aa (f2 aN (ae 0)<|fC<|.int 2)<|aa (fC<|.int 1)<|aa (fC<|.int 9) ag)
def k6:Γ D->Δ D:=bF Ai 3
def pd:ao->Δ Out:=(aH (pL (qo (eO<|fB<|aj 3 dv<|aa (ae 0)<|aa (fC<|.int 1)<|aa (fC<|.int 4) ag)<|eO<|fB<|aj 3 dv<|aa (ae 1)<|aa (fC<|.int 1)<|aa (fC<|.int 4) ag) (bC<|fC<|.bool false) l8)<|aH (pL (eO<|fB<|cQ Bz<|aa (fP<|ax 1 [1] (bw<|ae 0) (fG 0) (λ_=>↑true)<|aj 2 gu<|aa (ae 0)<|aa (cQ cS<|aa (ae 1) ag) ag) ag) (bC<|fC<|.bool false) l8)<|aH (pL (eO<|fB<|cQ Bz<|aa (fP<|ax 1 [0] (bw<|ae 1) (fG 0) (λ_=>↑true)<|aj 2 gu<|aa (ae 0)<|aa (cQ cS<|aa (ae 1) ag) ag) ag) (bC<|fC<|.bool false) l8)<|bC<|vp (OP "tuple"<|ae 2)<|cQ Bz<|aa (fP<|ax 1 [0,1] (bw<|ae 2) (fG 0) (λ_=>↑true)<|aj 3 k6<|aa (ae 0)<|aa (cQ cS<|aa (ae 1) ag)<|aa (cQ cS<|aa (ae 2) ag) ag) ag)
def gW:Γ D->Δ D:=bF pd 3
def lT:ao->Δ Out:=(aH (bb 1 []<|gO ag)<|aH (iz [0] (cW<|aa (ae 0) ag) (js 2 3)<|El 1 [2,3]<|ax 1 [2] (bw<|f2 aN (ae 3)<|fC<|.int 1) (fG 0) (λ_=>↑true)<|bg<|aa (ae 1)<|aa (ae 0) ag)<|bC<|ae 1)
def bI:Γ D->Δ D:=bF lT 4
def jb:ao->Δ Out:=(aH (pL (qo (eO<|fB<|aj 3 dv<|aa (ae 0)<|aa (fC<|.int 3)<|aa (fC<|.int 3) ag)<|eO<|fB<|aj 3 gW<|aa (f2 aN (ae 0)<|fC<|.int 0)<|aa (f2 aN (ae 0)<|fC<|.int 1)<|aa (f2 aN (ae 0)<|fC<|.int 2) ag) (bC<|fC<|.bool false) l8)<|aH (bb 1 [0]<|ax 1 [] (bw<|f2 aN (ae 0)<|fC<|.int 2) (fG 0) (λ_=>↑true)<|bg<|aa (f2 aN (ae 0)<|fC<|.int 0)<|aa (f2 aN (ae 0)<|fC<|.int 1) ag)<|aH (bb 2 [0]<|r8 dq<|aa (aj 1 bI<|aa (f2 aN (ae 0)<|fC<|.int 0) ag) ag)<|aH (bb 3 [0]<|r8 dq<|aa (fP<|ax 2 [] (bw<|aj 1 bI<|aa (f2 aN (ae 0)<|fC<|.int 1) ag) (jx 0 1) (λ_=>↑true)<|bg<|aa (ae 1)<|aa (ae 0) ag) ag)<|bC<|vp (f2 bV (ae 1)<|ae 2)<|f2 bV (ae 1)<|ae 3)
def cZ:Γ D->Δ D:=bF jb 4
abbrev zq0:=(aa (ae 0) ag)
abbrev zq1:=(aj 1 cZ zq0)
abbrev zq2:=(fB zq1)
abbrev zq3:=(eO zq2)
def eZ:ao->Δ Out:=(pL zq3 SN l8)
def cK:Γ D->Δ D:=bF eZ 1
def cG:ao->Δ Out:=(pL (eO<|fB<|aj 3 cB<|aa (ae 0)<|aa (ae 1)<|aa (ae 2) ag) SN l8)
def bJ:Γ D->Δ D:=bF cG 3
def cm:ao->Δ Out:=(gL<|aj 3 bJ<|aa (ae 0)<|aa (fC<|.int 0)<|aa (f2 Dl.gG (ae 1)<|fC<|.int 1) ag)
def aV:Γ D->Δ D:=bF cm 2
abbrev zq4:=(aa (fC<|.int 2) ag)
def fS:ao->Δ Out:=(gL<|aj 2 aV<|aa (ae 0) zq4)
def fW:Γ D->Δ D:=bF fS 1
abbrev zq5:=(aa (ae 2) ag)
def l7:ao->Δ Out:=(bC<|f2 aS (f2 aS (kf fq (ae 0) kc<|zt<|ae 1)<|bg zq5)<|kf fq (ae 0) (zt<|f2 aS (ae 1)<|fC<|.int 1) kc)
def dg:Γ D->Δ D:=bF l7 3
abbrev Ed:Γ Str:=["world","side","place","ways","likes","own"]
def nP:ao->Δ Out:=(aH (aL 3 [0]<|f2 aN (ae 0)<|fC<|.int 2)<|aH (aL 4 [0,1,2]<|f2 aN (f2 aN (f2 aN (ae 0)<|ae 1)<|ae 2)<|fC<|.int 1)<|aH (bb 5 [1,2,3]<|ax 2 [1,2] (cW<|aa (ae 3) ag) (jx 0 1) (fB<|f2 bV (f2 aN (ae 1)<|ae 2)<|ae 3)<|ae 0)<|bC<|fP<|oG [1,3,4] (ae 5)<|f2 Al (ae 3)<|f2 aN (f2 aN (ae 2)<|ae 0)<|f2 Dl.gG (fC<|.int 1)<|ae 1)
def oM:Γ D->Δ D:=bF nP 6
def k9:ao->Δ Out:=(aH (bb 4 [0]<|ax 1 [] (bw<|f2 aN (ae 0)<|fC<|.int 2) (fG 0) (λ_=>↑true)<|fC<|.int 0)<|aH (aL 5 [0,1,2]<|f2 aN (f2 aN (f2 aN (ae 0)<|ae 1)<|ae 2)<|fC<|.int 0)<|aH (iz [0,1,2] (bw<|aj 3 oM<|aa (ae 0)<|aa (ae 1)<|aa (ae 2) ag) (AA 6)<|aH (BN 4 [0,3,5,6] (ae 6)<|cQ As<|aa (f2 aN (ae 3)<|ae 6)<|aa (f2 aN (f2 aN (f2 aN (ae 0)<|fC<|.int 2)<|ae 6)<|fC<|.int 2)<|aa (ae 5) ag)<|aL 5 [4,5,6]<|f2 Dl.gG (ae 5)<|f2 aN (ae 4)<|ae 6)<|bC<|cQ cg<|aa (ae 4) ag)
def fE:Γ D->Δ D:=bF k9 7
def fN:ao->Δ Out:=(aH (bb 3 [0]<|ax 1 [] (bw<|f2 aN (ae 0)<|fC<|.int 2) (fG 0) (λ_=>↑true)<|fC<|.int 0)<|aH (iz [0,1] (dO<|aa (cQ cS<|aa (f2 aN (ae 0)<|ae 1) ag) ag) (AA 4)<|aH (aL 5 [0,1,2,4]<|aj 4 fE<|aa (ae 0)<|aa (ae 1)<|aa (ae 4)<|aa (ae 2) ag)<|bb 3 [3,5]<|ax 2 [] (sv<|aa (ae 3)<|aa (ae 5) ag) (jx 0 1) (λ_=>↑true)<|f2 aS (ae 0)<|ae 1)<|bC<|cQ cg<|aa (ae 3) ag)
def bE:Γ D->Δ D:=bF fN 6
abbrev zq6:=(f2 aN (ae 0)<|fC<|.int 2)
def z7:ao->Δ Out:=(bC<|cQ cg<|aa (fP<|ax 1 [] (bw zq6) (fG 0) (λ_=>↑true) zq6) ag)
def rM:Γ D->Δ D:=bF z7 1
abbrev zq7:=(aa (ae 0)<|aa (ae 1) zq5)
def um:ao->Δ Out:=(bC<|aj 3 dg zq7)
def eX:Γ D->Δ D:=bF um 3
def n5:ao->Δ Out:=(aH (aL 2 [0,1]<|aj 3 bE<|aa (ae 0)<|aa (fC<|.int 0)<|aa (ae 1) ag)<|aH (aL 3 [0,2]<|aj 3 bE<|aa (ae 0)<|aa (fC<|.int 1)<|aa (ae 2) ag)<|aH (iz [3] (cW<|aa (ae 3) ag) (js 4 5)<|pL (fB<|f2 MN (ae 5)<|f2 aN (ae 2)<|ae 4) (bC<|bg<|aa (ae 4)<|aa (ae 5) ag) l8)<|bC<|fC .none)
def iA:Γ D->Δ D:=bF n5 6
abbrev zq8:=(aj 1 rM zq0)
abbrev zq9:=(aa (ae 0) zq5)
abbrev aeg:=(aj 2 iA zq9)
abbrev aeh:=(aL 3 [0,2] aeg)
abbrev aei:=(fB<|f2 yk (ae 3)<|fC .none)
def wk:ao->Δ Out:=(aH (bb 1 []<|gO ag)<|aH (aL 2 [0] zq8)<|aH aeh<|aH (OI aei (aH (jq 1 [3]<|ae 3)<|aH (aL 2 [2,3]<|aj 3 eX<|aa (ae 2)<|aa (f2 aN (ae 3)<|fC<|.int 0)<|aa (f2 aN (ae 3)<|fC<|.int 1) ag) aeh) Rf.turns)<|bC<|ae 1)
def u5:Γ D->Δ D:=bF wk 4
abbrev aar:=(bw<|ae 1)
abbrev aej:=(aa (ae 3)<|aa (ae 4) ag)
abbrev acJ:=(aj 3 eX<|aa (ae 2) aej)
def sr:ao->Δ Out:=(aH (aL 2 [0] zq8)<|aH (iz [1] aar (js 3 4)<|aL 2 [2,3,4] acJ)<|bC<|ae 2)
def qq:Γ D->Δ D:=bF sr 5
abbrev YZ:=(gL<|aj 1 cK zq0)
def gY:ao->Δ Out:=(aH YZ<|bC<|aj 3 bE<|aa (ae 0)<|aa (fC<|.int 0)<|aa (aj 2 qq<|aa (ae 0)<|aa (aj 1 u5 zq0) ag) ag)
def aR:Γ D->Δ D:=bF gY 1
def o4:ao->Δ Out:=(aH (pL (fB<|f2 bV (ae 0)<|fP<|gO ag) (bC<|f2 hV (fC<|.int 7)<|ae 1) l8)<|bC<|f2 aS (f2 aN (ae 0)<|f2 lK (ae 1)<|cQ cS<|aa (ae 0) ag)<|f2 hV (fC<|.int 6553)<|f2 pH (ae 1)<|cQ cS<|aa (ae 0) ag)
def gQ:Γ D->Δ D:=bF o4 2
def mG:ao->Δ Out:=(aH (aL 3 [0,1]<|f2 lK (f2 aS (f2 hV (f2 lK (aj 2 gQ<|aa (ae 0)<|aa (ae 1) ag)<|fC<|.int 2147483563)<|fC<|.int 69069)<|f2 hV (fC<|.int 104723)<|f2 aS (ae 1)<|fC<|.int 1)<|fC<|.int 2147483563)<|aH (aL 3 [3]<|f2 lK (f2 aS (f2 hV (ae 3)<|ae 3)<|f2 pH (ae 3)<|fC<|.int 3)<|fC<|.int 2147483399)<|bC<|f2 lK (f2 pH (f2 lK (f2 aS (f2 hV (ae 3)<|ae 3)<|f2 pH (ae 3)<|fC<|.int 7)<|fC<|.int 2147483647)<|fC<|.int 11)<|ae 2)
def aq:Γ D->Δ D:=bF mG 4
def lR:ao->Δ Out:=(aH (bb 3 []<|gO ag)<|aH (iz [2] (cW<|aa (ae 2) ag) (js 4 5)<|aH (bb 6 []<|gO ag)<|aH (iz [5] (cW<|aa (ae 5) ag) (js 7 8)<|FM 6 [8] (aj 3 aq<|aa (ae 0)<|aa (f2 aS (f2 aS (ae 1)<|f2 hV (fC<|.int 4)<|ae 4)<|ae 7)<|aa (f2 aS (cQ cS<|aa (ae 6) ag)<|fC<|.int 1) ag)<|ae 8)<|jq 3 [6]<|cQ cg<|aa (ae 6) ag)<|bC<|ae 3)
def bW:Γ D->Δ D:=bF lR 9
def fU:ao->Δ Out:=(aH (pL (gU (fB<|f2 HM (ae 2)<|fC<|.int 3)<|fB<|f2 bV (aj 3 aq<|aa (ae 0)<|aa (f2 aS (ae 1)<|fC<|.int 64)<|aa (fC<|.int 4) ag)<|fC<|.int 0) (aH (aL 3 [0,1]<|f2 aS (fC<|.int 1)<|aj 3 aq<|aa (ae 0)<|aa (f2 aS (ae 1)<|fC<|.int 65)<|aa (fC<|.int 2) ag)<|aH (aL 4 [3]<|bg<|aa (bg<|aa (ae 3)<|aa (bg<|aa (fC<|.int 1)<|aa (fC<|.int 0) ag) ag)<|aa (bg<|aa (ae 3)<|aa (bg<|aa (fC<|.int 0)<|aa (fC<|.int 1) ag) ag) ag)<|bC<|bg<|aa (bg<|aa (bg<|aa (ae 3)<|aa (bg<|aa (fC<|.int 0)<|aa (fC<|.int 1) ag) ag)<|aa (bg<|aa (ae 3)<|aa (bg<|aa (fC<|.int 1)<|aa (fC<|.int 0) ag) ag) ag)<|aa (ae 4)<|aa (bg<|aa (bg<|aa (fC<|.int 0)<|aa (fC<|.int 0)<|aa (fC<|.int 2) ag)<|aa (bg<|aa (fC<|.int 0)<|aa (fC<|.int 1)<|aa (fC<|.int 2) ag)<|aa (bg<|aa (fC<|.int 1)<|aa (fC<|.int 0)<|aa (fC<|.int 2) ag)<|aa (bg<|aa (fC<|.int 1)<|aa (fC<|.int 1)<|aa (fC<|.int 2) ag) ag) ag) l8)<|aH (aL 5 [0,1]<|f2 aS (fC<|.int 1)<|aj 3 aq<|aa (ae 0)<|aa (ae 1)<|aa (fC<|.int 3) ag)<|aH (aL 6 [0,1]<|f2 aS (fC<|.int 1)<|aj 3 aq<|aa (ae 0)<|aa (f2 aS (ae 1)<|fC<|.int 1)<|aa (fC<|.int 3) ag)<|aH (bb 7 []<|gO ag)<|aH (iz [5,6] (dO<|aa (f2 hV (ae 5)<|ae 6) ag) (AA 8)<|pL (gU (fB<|f2 MN (cQ cS<|aa (ae 7) ag)<|ae 2)<|fB<|f2 HM (aj 3 aq<|aa (ae 0)<|aa (f2 aS (f2 aS (ae 1)<|fC<|.int 2)<|ae 8)<|aa (fC<|.int 4) ag)<|fC<|.int 0) (jq 7 [0,1,6,8]<|bg<|aa (f2 pH (ae 8)<|ae 6)<|aa (f2 lK (ae 8)<|ae 6)<|aa (f2 aS (fC<|.int 1)<|aj 3 aq<|aa (ae 0)<|aa (f2 aS (f2 aS (ae 1)<|fC<|.int 12)<|ae 8)<|aa (fC<|.int 2) ag) ag) l8)<|aH (aL 9 [0,1,5,7]<|aj 3 bW<|aa (ae 0)<|aa (f2 aS (ae 1)<|fC<|.int 24)<|aa (fP<|ax 1 [7] (dO<|aa (ae 5) ag) (fG 0) (λ_=>↑true)<|fP<|ax 1 [0] (bw<|ae 1) (fG 0) (fB<|f2 bV (f2 aN (ae 0)<|fC<|.int 0)<|ae 1)<|f2 aN (ae 0)<|fC<|.int 1) ag)<|aH (aL 10 [0,1,6,7]<|aj 3 bW<|aa (ae 0)<|aa (f2 aS (ae 1)<|fC<|.int 40)<|aa (fP<|ax 1 [7] (dO<|aa (ae 6) ag) (fG 0) (λ_=>↑true)<|fP<|ax 1 [0] (bw<|ae 1) (fG 0) (fB<|f2 bV (f2 aN (ae 0)<|fC<|.int 1)<|ae 1)<|f2 aN (ae 0)<|fC<|.int 0) ag)<|aH (aL 11 [0,1,8,9]<|cQ cg<|aa (fP<|ax 2 [0,1] (cW<|aa (ae 9) ag) (jx 0 1) (λ_=>↑true)<|bg<|aa (aj 3 aq<|aa (ae 2)<|aa (f2 aS (f2 aS (ae 3)<|fC<|.int 56)<|ae 0)<|aa (fC<|.int 4) ag)<|aa (ae 1) ag) ag)<|aH (aL 4 [0,1,8,10]<|cQ cg<|aa (fP<|ax 2 [0,1] (cW<|aa (ae 10) ag) (jx 0 1) (λ_=>↑true)<|bg<|aa (aj 3 aq<|aa (ae 2)<|aa (f2 aS (f2 aS (ae 3)<|fC<|.int 60)<|ae 0)<|aa (fC<|.int 4) ag)<|aa (ae 1) ag) ag)<|bC<|bg<|aa (ae 11)<|aa (ae 4)<|aa (cQ cg<|aa (ae 7) ag) ag)
def du:Γ D->Δ D:=bF fU 12
abbrev W3:=(aa (ae 1) ag)
abbrev aek:=(gL<|aj 1 fW W3)
abbrev abd:=(f2 aN (ae 0)<|ae 1)
abbrev agT:=(aa abd ag)
abbrev agU:=(cQ cS agT)
abbrev acK:=(aa agU ag)
abbrev ael:=(aa (ae 2) acK)
abbrev aem:=(aj 2 aV ael)
def eY:ao->Δ Out:=(aH aek<|gL aem)
def cL:Γ D->Δ D:=bF eY 3
def gE:ao->Δ Out:=(bC<|aj 3 dg<|aa (ae 0)<|aa (ae 1)<|aa (aj 3 dg<|aa abd<|aa (ae 2)<|aa (bg aej) ag) ag)
def gq:Γ D->Δ D:=bF gE 5
abbrev aen:=(gL<|aj 3 cL zq7)
abbrev aeo:=(aa (fC<|.int 9) ag)
abbrev agV:=(aa (fC<|.int 0) aeo)
abbrev aep:=(aa (ae 3) agV)
def ie:ao->Δ Out:=(aH YZ<|aH aen<|aH (gL<|aj 3 bJ aep)<|bC<|aj 5 gq<|aa (ae 0)<|aa (ae 1)<|aa (ae 2)<|aa (ae 3)<|aa (f2 aN (f2 aN abd<|ae 2)<|fC<|.int 1) ag)
def bz:Γ D->Δ D:=bF ie 4
def jc:ao->Δ Out:=(bC<|aj 5 gq<|aa (ae 0)<|aa (ae 1)<|aa (ae 2)<|aa (f2 aN (f2 aN abd<|ae 2)<|fC<|.int 0)<|aa (ae 3) ag)
def iN:Γ D->Δ D:=bF jc 4
def kr:ao->Δ Out:=(bC<|aj 3 dg<|aa (ae 0)<|aa (fC<|.int 2)<|aa (cQ cg W3) ag)
def fg:Γ D->Δ D:=bF kr 2
abbrev agW:=(aa zq6 ag)
abbrev agX:=(cQ cS agW)
abbrev agY:=(aa agX ag)
abbrev aeq:=(aa (ae 1) agY)
abbrev agZ:=(aj 2 aV aeq)
abbrev acL:=(gL agZ)
abbrev abe:=(aa (fC<|.int 1) aeo)
def ja:ao->Δ Out:=(aH YZ<|aH acL<|aH (gL<|aj 3 bJ<|aa (ae 2) abe)<|aH (aL 3 [0,1]<|f2 aN zq6<|ae 1)<|bC<|aj 2 fg<|aa (ae 0)<|aa (aj 3 dg<|aa zq6<|aa (ae 1)<|aa (bg<|aa (f2 aN (ae 3)<|fC<|.int 0)<|aa (f2 aN (ae 3)<|fC<|.int 1) zq5) ag) ag)
def bj:Γ D->Δ D:=bF ja 4
abbrev aer:=(f2 dC (ae 0)<|ae 1)
abbrev ag0:=(ax 1 [2] (bw zq6) (fG 0) (fB aer)<|ae 0)
abbrev ag1:=(fP ag0)
abbrev ag2:=(aa ag1 ag)
abbrev aes:=(aa (ae 0) ag2)
abbrev ag3:=(f2 aN (ae 0)<|ae 4)
abbrev aet:=(f2 aN (ae 2)<|ae 4)
abbrev aeu:=(f2 aN ag3 aet)
abbrev ag4:=(f2 aN aeu<|fC<|.int 1)
abbrev ag5:=(aL 5 [0,2,4] ag4)
abbrev ag6:=(bw<|ae 5)
abbrev ag7:=(f2 Dl.gG (fC<|.int 1)<|ae 2)
abbrev ag8:=(f2 aN (ae 1) ag7)
abbrev ag9:=(f2 dC (ae 0) ag8)
abbrev aev:=(fB ag9)
abbrev aha:=(ax 1 [2,4] ag6 (fG 0) aev<|ae 0)
abbrev ahb:=(fP aha)
abbrev aew:=(aa ahb ag)
abbrev ahc:=(cQ cg aew)
abbrev ahd:=(aa ahc ag)
abbrev ahe:=(aa aet ahd)
abbrev ahf:=(aa (ae 4) ahe)
abbrev ahg:=(aa (ae 3) ahf)
abbrev aex:=(aj 4 iN ahg)
abbrev ahh:=(aL 3 [2,3,4,5] aex)
abbrev aey:=(aH ag5 ahh)
def g9:ao->Δ Out:=(aH YZ<|aH acL<|aH (aL 2 [0,1]<|f2 aN zq6<|ae 1)<|aH (aL 3 [0,2]<|aj 2 fg aes)<|aH (iz [] (bw<|bg<|aa (fC<|.int 0)<|aa (fC<|.int 1) ag) (AA 4) aey)<|bC<|ae 3)
def bu:Γ D->Δ D:=bF g9 6
end Pg
namespace Zp
open PySem PyProof.Rows
abbrev ahi(h:ι)(z TI TO:Ψ)(f:Θ)(c:θ):Prop:=
 h.get? z=some {cls:=.type "zip",dict:=none,data:=.fields #[f,.bool c,.bool false,.ref TI,.ref TO],slots:=#[]}
structure ZG(VS V4:Bool)(h₀ h:Heap)(z TI TO i j l m:Addr)(xs ys:Array Value)(f:Value)(c:Bool)(p q:Nat)(a b:Value):Prop where
 zo:ahi h z TI TO f c
 ti:IsPair h TI (.ref i) (.ref j)
 to:IsPair h TO a b
 wi:Wo VS h i l p
 wj:Wo V4 h j m q
 sl:Wv VS h l xs
 sm:Wv V4 h m ys
 kp:∀c o,c≠z->c≠TO->c≠i->c≠j->h₀.get? c=↑o->h.get? c=↑o
 sz:h.objs.size=h₀.objs.size
section
variable {z TI TO i j l m:Ψ}
end
section
variable {z TI TO i j l m:Ψ}
end
end Zp
namespace Dl
open PySem L2 PySem.Spec PyProof.Rows Zp
end Dl
namespace Pg
open PySem L2 Dl PySem.Spec PyProof.Rows
open PySem L2 Dl PySem.Spec PyProof.Rows Ex
def sS:XS:=(O9 zq3 (Sr "NoWorld") pM)
def ij:Γ D->Δ Str:=sM sS 1
abbrev ahj:=(aj 3 cB zq7)
abbrev ahk:=(fB ahj)
abbrev abf:=(eO ahk)
def sR:XS:=(O9 abf (Sr "NoPlace") pM)
def bY:Γ D->Δ Str:=sM sR 3
abbrev ahl:=(f2 Dl.gG (ae 1)<|fC<|.int 1)
abbrev aez:=(aa ahl ag)
def pJ:XS:=(md<|wU 3 bY<|aa (ae 0)<|aa (fC<|.int 0) aez)
def bp:Γ D->Δ Str:=sM pJ 2
def tM:XS:=(md<|wU 2 bp<|aa (ae 0) zq4)
def iL:Γ D->Δ Str:=sM tM 1
abbrev acM:=(wU 2 bp ael)
def qm:XS:=(jm (md<|wU 1 iL W3) aek<|md acM)
def dB:Γ D->Δ Str:=sM qm 3
abbrev ahm:=(wU 1 ij zq0)
abbrev acN:=(md ahm)
def sP:XS:=(jm acN YZ<|jm (md<|wU 3 dB zq7) aen<|md<|wU 3 bY aep)
def dH:Γ D->Δ Str:=sM sP 4
abbrev ahn:=(wU 2 bp aeq)
abbrev aeA:=(md ahn)
def tK:XS:=(jm acN YZ<|jm aeA acL<|md<|wU 3 bY<|aa (ae 2) abe)
def cD:Γ D->Δ Str:=sM tK 4
def qx:XS:=(jm acN YZ aeA)
def dF:Γ D->Δ Str:=sM qx 6
open PySem L2 Dl PySem.Spec PyProof.Rows Ob Og Ex
abbrev aho:=(aa (aj 1 aR zq0) ag)
abbrev ahp:=(aa zq6 aho)
abbrev aeB:=(sv ahp)
abbrev aas:=(f2 aN (ae 0)<|fC<|.int 0)
abbrev aat:=(f2 aN (ae 0)<|fC<|.int 1)
def jo:ao->Δ Out:=(bC<|f1 CG<|fP<|ax 2 [] aeB (jx 0 1) (λ_=>↑true)<|bg<|aa (bg<|aa aas<|aa aat ag) W3)
def dJ:Γ D->Δ D:=bF jo 1
abbrev ahq:=(aa (f2 aN (ae 5)<|fC<|.int 1)<|aa (ae 6) ag)
abbrev ahr:=(aa (f2 aN (ae 5)<|fC<|.int 0) ahq)
abbrev ahs:=(bg ahr)
abbrev aeC:=(jq 4 [5,6] ahs)
def eQ:ao->Δ Out:=(aH (aL 2 [0]<|aj 1 dJ zq0)<|aH (aL 3 [1]<|aj 1 dJ W3)<|aH (bb 4 []<|gO ag)<|aH (iz [2,3] (bw<|fP<|Bb 2 3) (AA 5)<|aH (aL 6 [3,5]<|Jw (ae 3) (ae 5)<|fC<|.int 0)<|pL (fB<|f2 dC (ae 6)<|Jw (ae 2) (ae 5)<|fC<|.int 0) aeC l8)<|bC<|ae 4)
def aQ:Γ D->Δ D:=bF eQ 7
def o5:ao->Δ Out:=(bC<|fP<|ax 2 [] aeB (jx 0 1) (fB<|f2 HM (ae 1)<|fC<|.int 0)<|f2 aS (kf fq (ae 0) kc<|zt<|fC<|.int 2)<|bg W3)
def dZ:Γ D->Δ D:=bF o5 1
def ib:ao->Δ Out:=(aH (bb 2 [0,1]<|ax 1 [0] (bw<|ae 1) (fG 0) (fB<|f2 Au (ae 0)<|ae 1)<|ae 0)<|aH (bb 3 [1]<|ax 1 [] (bw<|ae 1) (fG 0) (λ_=>↑true)<|kf fq (ae 0) kc<|zt<|fC<|.int 2)<|bC<|fP<|r8 dq<|aa (fP<|Q8 pD (ae 2)<|fP<|ax 1 [3] (bw<|ae 0) (fG 0) (fB<|f2 Au (kf fq (ae 0) kc<|zt<|fC<|.int 2)<|ae 1)<|f2 aS (kf fq (ae 0) kc<|zt<|fC<|.int 2)<|bg<|aa (fC<|.int 0) ag) ag)
def cI:Γ D->Δ D:=bF ib 4
def xv(C:Ψ):Og.MF:=gF (cA (b9<|gL<|aj 1 cK W3)<|CY 0 C "stages"<|gO W3) C 2
abbrev WS:=(f1 Nr<|fC<|.int 1)
def aO(C:Ψ):Fs->Δ D:=Iu (Ia 0 C "stages" WS) C 1
def eu(C:Ψ):Og.MF:=gF (cw (List.range 1)<|fF<|eh 1 aR<|bf (oR<|bZ 0 C "world"<|aO C) dU) C 1
def bB(C:Ψ):Og.MF:=gF (cA (og 2<|oR<|bZ 0 C "world"<|aO C)<|cA (zh 0 C "stages"<|rD<|ae 1)<|cw (List.range 3)<|fF<|oD<|aj 2 aQ<|aa (ae 2) W3) C 3
def bP(C:Ψ):Og.MF:=gF (cw (List.range 4)<|fF<|cT 0 C "change_to" 2 (bB C)<|bf (eh 4 bz<|bf (oR<|bZ 0 C "world"<|aO C)<|bf (oD<|ae 1)<|bf (oD<|ae 2)<|bf (oD<|ae 3) dU) dU) C 4
def dR(C:Ψ):Γ Slot->Fs->Δ Str:=pC (Jg 0 C "change_to"<|Oh 4 dH<|eN (bZ 0 C "world"<|aO C)<|eN (rD<|ae 1)<|eN (rD<|ae 2)<|eN (rD<|ae 3) rH) C 4
def bS(C:Ψ):Og.MF:=gF (cw (List.range 3)<|fF<|cT 0 C "change_to" 2 (bB C)<|bf (eh 3 bj<|bf (oR<|bZ 0 C "world"<|aO C)<|bf (oD<|ae 1)<|bf (oD<|ae 2) dU) dU) C 3
def eI(C:Ψ):Γ Slot->Fs->Δ Str:=pC (Jg 0 C "change_to"<|Oh 3 cD<|eN (bZ 0 C "world"<|aO C)<|eN (rD<|ae 1)<|eN (rD<|ae 2) rH) C 3
def dD(C:Ψ):Og.MF:=gF (cw (List.range 2)<|fF<|cT 0 C "change_to" 2 (bB C)<|bf (eh 2 bu<|bf (oR<|bZ 0 C "world"<|aO C)<|bf (oD<|ae 1) dU) dU) C 2
def hZ(C:Ψ):Γ Slot->Fs->Δ Str:=pC (Jg 0 C "change_to"<|Oh 2 dF<|eN (bZ 0 C "world"<|aO C)<|eN (rD<|ae 1) rH) C 2
def br(C:Ψ):Fs->Δ D:=Iu (IJ Dl.gG (uy 0 C "stages")<|rD<|fC<|.int 1) C 1
def eB(C:Ψ):Og.MF:=gF (cA (qc (oB<|yq bV (oR<|bZ 0 C "many"<|br C)<|oD<|fC<|.int 0) Ut Du)<|cA (og 1<|yl 0 C "stages")<|cw (List.range 2)<|fF<|eh 2 aQ<|bf (oD<|ae 1)<|bf (oR<|bZ 0 C "world"<|aO C) dU) C 2
def iZ(C:Ψ):Γ Slot->Fs->Δ Str:=pC (Am (IJ bV (bZ 0 C "many"<|br C)<|rD<|fC<|.int 0) (L9 "Nothing") RN) C 2
def k8:Str->Δ D:=pK ["NoWorld","NoPlan","NoPlace","TooMany","Nothing"]
abbrev aeD:=(fB<|f2 bV (ae 1)<|fC<|.int 0)
abbrev ZD:=(f2 aN (ae 2)<|fC<|.int 1)
abbrev abg:=(f2 aN (ae 2)<|fC<|.int 2)
abbrev aeE:=(fB<|f2 bV (ae 1)<|fC<|.int 1)
abbrev aeF:=(fB<|f2 bV (ae 1)<|fC<|.int 2)
def aC(C:Ψ):Og.MF:=gF (jt (cA (qc (oT aeD) (cw (List.range 4)<|fF<|cT 0 C "set_amount" 4 (bP C)<|bf (oD<|f2 aN (ae 2)<|fC<|.int 0)<|bf (oD ZD)<|bf (oD abg) dU) Du)<|cA (qc (oT aeE) (cw (List.range 4)<|fF<|cT 0 C "set_limit" 3 (bS C)<|bf (oD ZD)<|bf (oD abg) dU) Du)<|cw (List.range 4)<|fF<|Eb aeF (cT 0 C "close" 2 (dD C)<|bf (oD ZD) dU)<|cT 0 C "undo" 1 (eB C) dU) (tj aeD (HH 0 C "set_amount" 4 (dR C)<|eN (rD<|f2 aN (ae 2)<|fC<|.int 0)<|eN (rD ZD)<|eN (rD abg) rH)<|tj aeE (HH 0 C "set_limit" 3 (eI C)<|eN (rD ZD)<|eN (rD abg) rH)<|tj aeF (HH 0 C "close" 2 (hZ C)<|eN (rD ZD) rH)<|HH 0 C "undo" 1 (iZ C) rH) k8) C 4
abbrev aht:=(aa (f2 aN (ae 5)<|ae 7) ag)
abbrev ahu:=(cQ cS aht)
abbrev ahv:=(f2 aN (ae 5)<|fC<|.int 2)
abbrev ahw:=(aa ahv ag)
abbrev aeG:=(cQ cS ahw)
abbrev ahx:=(aa aeG<|aa (fC<|.int 0) ag)
abbrev ahy:=(aa aeG ahx)
abbrev ahz:=(aa ahu ahy)
abbrev aeH:=(gO ahz)
abbrev aeI:=(f2 Sz (ae 8)<|f2 aS (ae 9)<|fC<|.int 1)
abbrev ahA:=(f2 bV (ae 6)<|fC<|.int 3)
abbrev abh:=(fB ahA)
abbrev aeJ:=(cQ cS W3)
abbrev abE:=(f2 bV aeJ<|fC<|.int 1)
abbrev abF:=(fB abE)
abbrev abG:=(f2 MN (ae 8)<|ae 9)
abbrev abH:=(f2 dC (ae 6)<|fC<|.int 1)
abbrev aeK:=(fB abH)
abbrev abI:=(f2 HM (ae 10)<|fC<|.int 0)
abbrev aeL:=(fB abI)
abbrev aeM:=(qo aeK aeL)
abbrev abJ:=(gU (fB abG) aeM)
abbrev aau:=(aL 11 []<|fC .none)
abbrev aeN:=(aa (ae 10) ag)
abbrev abK:=(aa (ae 8) aeN)
abbrev abL:=(aa (ae 7) abK)
abbrev aav:=(bg abL)
abbrev abM:=(fB<|f2 Lg (ae 11)<|fC .none)
abbrev abN:=(fB<|f2 bV (ae 6)<|fC<|.int 0)
abbrev aeO:=(aa (ae 5) abL)
abbrev aeP:=(aj 4 bz aeO)
abbrev abO:=(jq 1 [5,7,8,10] aeP)
abbrev aaw:=(f2 bV (ae 6)<|fC<|.int 1)
abbrev aeQ:=(aa (ae 5) abK)
abbrev aeR:=(aj 3 bj aeQ)
abbrev aeS:=(aa (ae 5)<|aa (ae 8) ag)
abbrev aeT:=(aj 2 bu aeS)
abbrev aeU:=(ME (fB aaw) aeR aeT)
abbrev abP:=(jq 1 [5,6,8,10] aeU)
abbrev aax:=(aj 1 dZ<|aa (ae 5) ag)
abbrev aeV:=(f2 dC (ae 12)<|ae 11)
abbrev aay:=(fB aeV)
abbrev aaz:=(f2 Dl.gG aeJ<|fC<|.int 1)
def fA(C:Ψ):OG:=(cA (b9<|aL 4 [3]<|f2 aS (fC<|.int 70)<|f2 hV (fC<|.int 8)<|ae 3)<|cA (og 5<|jw 1 WS)<|cA (b9<|aL 6 [0,4]<|aj 3 aq<|aa (ae 0)<|aa (ae 4)<|aa (fC<|.int 4) ag)<|cA (b9<|aL 7 [0,4]<|aj 3 aq<|aa (ae 0)<|aa (f2 aS (ae 4)<|fC<|.int 1) zq4)<|cA (b9<|aL 8 [0,4]<|aj 3 aq<|aa (ae 0)<|aa (f2 aS (ae 4)<|fC<|.int 2)<|aa (fC<|.int 8) ag)<|cA (b9<|aL 9 [5,6,7]<|f2 aN (fP aeH)<|ae 6)<|cA (qc (oT<|gU (fB aeI)<|fB<|f2 HM (ae 9)<|fC<|.int 0) (b9<|aL 8 [8,9]<|f2 lK (ae 8)<|ae 9) Du)<|cA (b9<|aL 10 [0,4]<|aj 3 aq<|aa (ae 0)<|aa (f2 aS (ae 4)<|fC<|.int 3)<|aa (fC<|.int 10) ag)<|cA (b9<|aL 11 []<|bg<|aa (fC<|.str "refused") zq4)<|cA (qc (oT abh) (b9<|aL 11 [1]<|ME abF (bg<|aa (fC<|.str "refused")<|aa (fC<|.int 4) ag)<|fC .none)<|qc (oT abJ) (b9 aau) Du)<|cA (og 12<|nU 2 C 3 (aC C)<|AW<|uW (oD<|ae 6)<|uW (oD aav) Iv)<|cA (qc (oT abM) (cA (qc (oT abh) (b9<|JS 1)<|qc (oT abN) (b9 abO)<|b9 abP)<|og 11<|eh 2 cI<|bf (oD aax)<|bf (eh 1 dZ<|bf (jw 1 WS) dU) dU) Du)<|cA (qc (vz (oT aay)<|vz (oB<|yq dC (oR<|bZ 2 C "world"<|aO C)<|jw 1 WS)<|oB<|yq dC (cT 2 C "plan" 1 (eu C) dU)<|eh 1 aR<|bf (jw 1 WS) dU) (cw (List.range 13)<|fF<|oD<|fC<|.bool false) Du)<|qc (oB<|yq dC (oR<|bZ 2 C "many"<|br C)<|oD aaz) (cw (List.range 13)<|fF<|oD<|fC<|.bool false) Du)
def lj(C:Ψ):OG:=(cA (b9<|bb 1 [0]<|gO<|aa (aj 3 du<|aa (ae 0)<|aa (fC<|.int 0)<|aa (fC<|.int 6) ag) ag)<|cA (Af 2 C 2 (xv C)<|bf (jw 1<|fC<|.int 0) dU)<|cA (KN [0] (dO<|aa (cQ Pa<|aa (fC<|.int 1)<|aa (cQ As<|aa (fC<|.int 7)<|aa (cQ cS zq0) ag) ag) ag) (AA 3)<|fA C)<|cw (List.range 13)<|fF<|oD<|fC<|.bool true)
def tR(C:Ψ):Γ D->Δ D:=F7 (lj C) 13
end Pg
namespace Dl
open PySem L2 PySem.Spec PyProof.Rows
def yp:D->Prop|.none=>True|.bool _=>True|.int _=>True|.str x=>PyData.canLay0 (.str x)=true|_=>False
def iP(b:Nat):Nat->D->Prop
 |0,d=>yp d
 |k+1,d=>yp d\/(∃s,(d=.list s\/d=.tuple s)/\s.length<=b/\∀x∈s,iP b k x)
def iP.leaf(h:yp d):iP b k d:=by
 cases k with
 |zero=>exact h
 |succ k=>exact .inl h
def iP.tup(H:xs.length<=b)(h:∀x∈xs,iP b k x):iP b (k+1) (.tuple xs):=.inr {xs,.inr rfl,H,h}
def iP.lst(H:xs.length<=b)(h:∀x∈xs,iP b k x):iP b (k+1) (.list xs):=.inr {xs,.inl rfl,H,h}
def iP.Wr(h:iP b k (.tuple xs)):∃j,k=j+1/\xs.length<=b/\∀x∈xs,iP b j x:=by
 cases k with
 |zero=>cases h
 |succ k =>
  rcases h with h|⟨y,h|h,H,a⟩
  .cases h
  .cases h
  .cases h;exact{k,rfl,H,a}
def iP.mono(H:b<=U):∀{k K:Nat}{d:D},k<=K->iP b k d->iP U K d
 |0,K,d,_,h=>.leaf h
 |k+1,0,d,hk,h=>by lia
 |k+1,K+1,d,hk,h=>by
  rcases h with h|⟨s,h,a,c⟩
  .exact .inl h
  .exact .inr {s,h,yD a H,λx X=>(c x X).mono H<|by lia}
def DH{b:Nat}:∀{xs:Γ D},(∀x∈xs,PyData.canLay0 x=true/\x.depth<=k)->PyData.canLayAll0 xs=true/\PyData.depthAll xs<=k
 |[],_=>{by rfl,by simp[PyData.depthAll]}
 |x::xs,h=>by
  let(a,c):=DH (b:=b) λy H=>h y<|zC _ H;let(A,C):=h x zE;exact{by simp[PyData.canLayAll0,a,A],by simp[PyData.depthAll];lia}
def iP.lay:∀{k:Nat}{d:D},iP b k d->PyData.canLay0 d=true/\d.depth<=k:=by
 have l:∀{k:Nat}{d:D},yp d->PyData.canLay0 d=true/\d.depth<=k:=λ{k d}h=>by
  cases d<;>simp[yp]at h<;>first|exact{h,by simp[PyData.depth]}|exact{by rfl,by simp[PyData.depth]}
 intro k
 induction k with
 |zero=>exact l
 |succ k i =>
  intro d h;rcases h with h|⟨x,h,e,H⟩
  .exact l h
  .let(a,c):=DH (b:=b) λy Y=>i<|H y Y;rcases h with rfl|rfl
   .exact{by simp[PyData.canLay0,a],by simp[PyData.depth];lia}
   .exact{by simp[PyData.canLay0,a],by simp[PyData.depth];lia}
def iP.shaped(h:iP b k d)(hk:k<=64):SeqAt.shaped d=true:=by
 let(a,c):=h.lay;simp[SeqAt.shaped,a];lia
def iP.noDict(h:iP b k d):∀v,d≠.dict v:=by
 rintro v rfl;have:=h.lay.1;simp[PyData.canLay0]at this
def jn:D->θ|.dict _=>false|_=>true
def iP.nd(h:iP b k d):jn d=true:=by
 cases d<;>first|rfl|exact absurd rfl (h.noDict _)
def UC:D->θ|.int _=>true|.bool _=>true|_=>false
def Ur:D->θ|.bool _=>true|_=>false
def PP:D->θ|.tuple _=>true|_=>false
def kI(h:jn d=true):vq (iV d) "int"=↑(UC d):=by cases d<;>first|cases h;done|exact Mb _ (by simp[iV])
def kB(h:jn d=true):vq (iV d) "bool"=↑(Ur d):=by cases d<;>first|cases h;done|exact IX _ (by simp[iV])
def kT(h:jn d=true):vq (iV d) "tuple"=↑(PP d):=by cases d<;>first|cases h;done|exact kit_tuple _ (by simp[iV])
def whole(a b:Int):D->θ|.int i=>decide (a<=i)&&decide (i<=b)|_=>false
def uI:∀{ds:Γ D},(∀d∈ds,∃ρ',tgt ρ d=↑ρ'/\te ρ'=↑(h d))->d9 tgt (λ_=>↑true) te ρ ds=↑(ds.map h)
 |[],_=>rfl
 |d::ds,H=>by
  let(ρ',a,b):=H d zE;have i:=uI (ds:=ds) λy Y=>H y<|zC _ Y;unfold d9;rw[a];simp[b,i]
def mq:∀{ds:Γ D},(∀d∈ds,∃ρ',tgt ρ d=↑ρ'/\tt ρ'=↑(p d)/\(p d=true->te ρ'=↑(h d)))->d9 tgt tt te ρ ds=↑((ds.filter p).map h)
 |[],_=>rfl
 |d::ds,a=>by
  let(ρ',b,c,e):=a d zE;have i:=mq (ds:=ds) λy Y=>a y<|zC _ Y;unfold d9;rw[b];simp?[zA,c];cases H:p d with
  |true=>rw[yL rfl,e H];simp[i,jW,H]
  |false=>simp[i,jW,H]
def oW:∀ds:Γ D,boolsOf (ds.map λd=>.bool<|p d)=↑(ds.map p)
 |[]=>rfl
 |d::ds=>by simp[boolsOf,oW ds]
def mP(ds:Γ D):Bz [.list<|ds.map λd=>.bool<|p d]=↑(.bool<|ds.all p):=by
 simp?[Bz,oneOf,zA,oW,zB,List.all_map];rfl
def bO(h:ds.length<=4000):small ds=↑ds:=yL<|yD h<|by decide
def mJ{ds:Γ D}{i:Nat}(h:i<ds.length):tw ds i=↑(ds.getD i .none):=by
 have:=xj<|List.getElem?_eq_some_iff.mpr {h,rfl};rw[this];simp[List.getD,h]
def Dc{ds:Γ D}(h:0<ds.length):tw ds 0=↑(ds.getD 0 .none):=mJ h
def zq{ds:Γ D}(h:1<ds.length):tw ds 1=↑(ds.getD 1 .none):=mJ h
def MG{ds:Γ D}(h:2<ds.length):tw ds 2=↑(ds.getD 2 .none):=mJ h
end Dl
namespace Wm
open PySem L2 Dl PySem.Spec PyProof.Rows Pg
variable {cs:Γ Nat}{mo:Int}{i7 i5:Nat}{mr:Fs->Δ D}{E:Dl.Env}
def Ak(H:fa ρ=↑(.int a))(B:fb ρ=↑(.int i))(hc:fc ρ=↑(.int b)):me Me Me fa fb fc ρ=↑(.bool<|decide (a<=i)&&decide (i<=b)):=by
 simp[me,H,B,hc,zA,Me,ye,xH];by_cases h:a<=i<;>simp[h]
def mn(i j:Int):Dl.gG (.int i) (.int j)=↑(.int<|i-j):=rfl
def iH(i j:Int):Dl.aS (.int i) (.int j)=↑(.int<|i+j):=rfl
def vn(d:D):Slot.all (.val d)=↑d:=rfl
def yd(ds:Γ D):Slot.all (.own ds)=↑(.list ds):=rfl
def DB:Slot.all .VC=none:=rfl
def Cr(d:D):Slot.Wj (.val d)=↑d:=rfl
def CS(ds:Γ D):Slot.Wj (.own ds)=none:=rfl
def DL:Slot.Wj .VC=none:=rfl
local macro_rules|`(tactic| simp! [$ts,*])=>`(tactic| simp only[bF,aH,pL,bC,l8,qo,gU,eO,fB,gB,OP,ae,fC,vp,Vl,TM,Rk,f1,f2,mn,iH,aa,ag,aj,cQ,r8,cS,g8,oneOf,ix,aI,vn,yd,DB,Cr,CS,DL,bw,fP,cg,bg,gO,aN,  zI,yU,xF,xO,zL,xK,List.replicate,xQ,yY,qG,kL,zA,Option.bind_none,zB,Option.map_none,Nat.reduceAdd,Nat.reduceSub,jC,Nat.sub_self,xH,reduceIte,$ts,*])
def eW(h:jn d=true)(a b:Int):cB [d,.int a,.int b]=↑(.bool<|whole a b d):=by
 simp! [cB,rL,kI h,kB h];cases d<;>simp[UC,Ur,whole];rw[Ak rfl rfl rfl]
def j8(h:jn d=true)(n:Int):da [d,.int n]=↑(.bool<|whole 0 (n-1) d):=by
 simp! [da,pq,eW h]
def long(a b:Int):D->θ|.tuple d=>decide (a<=(d.length:Int))&&decide ((d.length:Int)<=b)|_=>false
def f9(h:jn d=true)(a b:Int):dv [d,.int a,.int b]=↑(.bool<|long a b d):=by
 simp! [dv,uk,kT h];cases d<;>simp[PP,long];rw[Ak rfl rfl rfl]
def lQ:D->Int|.int i=>i|_=>0
def gh(h:whole a b d=true):d=.int (lQ d)/\a<=lQ d/\lQ d<=b:=by
 cases d<;>simp[whole]at h;exact{rfl,h}
def l5:∀{l:Γ D},l.all (whole a b)=true->l=(l.map lQ).map PyData.int
 |[],_=>rfl
 |d::l,h=>by
  rw[xS,zF]at h;rw[zI,zI,<-(gh h.1).1,<-l5 h.2]
def lg(n:Int):D->θ|.tuple l=>l.all (whole 0<|n-1)&&decide ((l.map lQ).Nodup)|_=>false
def dh(i j:Int):bV (.int i) (.int j)=↑(.bool<|decide (i=j)):=by
 rfl
def nE(i j:Int):dC (.int i) (.int j)=↑(.bool<|!decide (i=j)):=by
 rfl
def Fv(h:ls.all (whole a b)=true)(l:ls.length<=1000):f2 bV (f1 m5 λ_=>↑(.tuple ls)) (cQ cS<|aa (λ_=>↑(.tuple ls)) ag) []=↑(.bool<|decide ((ls.map lQ).Nodup)):=by
 have e:m5 (.tuple ls)=↑(.int<|many<|ls.map lQ):=by
  simp[m5,cC]
  conv=>lhs;rw[(l5 h)]
  rw[dc,zA,yL];rw[zD];exact qY (Nat.add_le_add_right l 1)<|by decide
 simp! [e,dh];have:=Cj<|ls.map lQ;simp[<-this,Int.ofNat_inj,yK,PyData.bool.injEq]
def Qn(r:Dl.Env)(d:D):fG 0 (none::r) d=↑(↑d::r):=by rfl
def cH(Y:fi ρ=↑ds)(l:ds.length<=4000)(a:∀d∈ds,te (↑d::cs.map λj=>(ρ[j]?).getD none)=↑(h d)):ax 1 cs fi (fG 0) (λ_=>↑true) te ρ=↑(ds.map h):=by
 simp[ax,Y,zA,fQ,List.replicate,xF,xO];rw[uI λd H=>{_,Qn _ d,a d H},zA,bO (by rw[zD];lia)]
def ml(Y:fi ρ=↑ds)(l:ds.length<=4000)
  (P:∀d∈ds,tt (↑d::cs.map λj=>(ρ[j]?).getD none)=↑(p d))(a:∀d∈ds,p d=true->te (↑d::cs.map λj=>(ρ[j]?).getD none)=↑(h d)):ax 1 cs fi (fG 0) tt te ρ=↑((ds.filter p).map h):=by
 simp[ax,Y,zA,fQ,List.replicate,xF,xO];rw[mq λd H=>{_,Qn _ d,P d H,a d H},zA,bO (by rw[zD];exact yD (xP _ _) l)]
def AG(h:iP b k d)(H:b<=1000)(n:Int):gV [d,.int n]=↑(.bool<|lg n d):=by
 simp! [gV,oZ,kT h.nd];cases d<;>try rfl
 rename_i l;let(j,rfl,L,f):=h.Wr;simp! [PP,xY,yO,(cH (cs:=[1]) (fi:=bw<|ae 0) (te:=(aj 2 da<|aa (ae 0)<|aa (ae 1) ag)) (h:=λx=>.bool<|whole 0 (n-1) x) (ρ:=[↑(.tuple l),↑(.int n)]) rfl (by lia) λx X=>by simp! [j8 (f x X).nd]),mP];cases e:l.all _ with
 |false=>simp[lg,e]
 |true =>
  have:=Fv e<|yD L H;simp[f2,f1,cQ,aa,ag,zA,zB]at this;simp! [lg,e,xY,yO,jK];simp[cS,g8,oneOf,zA,ix,zB]at this
  grind
def placeOk(n:Int):D->θ|.tuple d=>decide (d.length=2)&&(whole 0 9 (d.getD 0 .none)&&lg n (d.getD 1 .none))|_=>false
def j1(g t:Int):D->θ|.tuple d=>decide (d.length=3)&&(whole 0 (g-1) (d.getD 0 .none)&&(whole 0 (t-1) (d.getD 1 .none)&&whole 1 9 (d.getD 2 .none)))|_=>false
def u4(n:Nat)(ds:Γ D):long (n) n (.tuple ds)=decide (ds.length=n):=by
 simp[long]
 grind
def getD_mem{ds:Γ D}{i:Nat}(h:i<ds.length):ds.getD i .none∈ds:=by simp[List.getD,h]
def zc{b:Nat}(h:iP b k d)(H:b<=1000)(n:Int):gu [d,.int n]=↑(.bool<|placeOk n d):=by
 simp! [gu,zy,f9 h.nd];cases d<;>try rfl
 rename_i s;let(j,rfl,l,f):=h.Wr;rw[show long 2 2 _=decide _ from u4 2 s];by_cases e:s.length=2
 .simp! [e,jP,Dc (show 0<s.length by lia),zq (show 1<s.length by lia),eW (f _<|getD_mem (i:=0)<|by lia).nd,AG (f _<|getD_mem (i:=1)<|by lia) H,placeOk];cases whole 0 9 _<;>simp
 .simp[e,placeOk]
def Gc{b:Nat}(h:iP b k d)(H:b<=1000)(g t:Int):k6 [d,.int g,.int t]=↑(.bool<|j1 g t d):=by
 simp! [k6,Ai,f9 h.nd];cases d<;>try rfl
 rename_i s;let(j,rfl,l,f):=h.Wr;rw[show long 3 3 _=decide _ from u4 3 s];by_cases e:s.length=3
 .simp! [e,jP,xY,yO,Dc (show 0<s.length by lia),zq (show 1<s.length by lia),MG (show 2<s.length by lia),eW (f _<|getD_mem (i:=2)<|by lia).nd,j8 (f _<|getD_mem (i:=0)<|by lia).nd,j8 (f _<|getD_mem (i:=1)<|by lia).nd,j1];cases whole 0 _ _<;>cases whole 0 _ _<;>simp
 .simp[e,j1]
def cR:D->Γ D|.tuple d=>d|_=>[]
def nZ(d:D):θ:=long 1 4 d
def jd(g t w:D):θ:=nZ g&&(nZ t&&((cR g).all (placeOk (cR t).length)&&((cR t).all (placeOk (cR g).length)&&(PP w&&(cR w).all (j1 (cR g).length (cR t).length)))))
def kn(h:long a b d=true):d=.tuple (cR d):=by cases d<;>first|rfl|cases h
def pb(G:iP b k g)(ht:iP b k t)(hw:iP b k w)(B:b<=1000):gW [g,t,w]=↑(.bool<|jd g t w):=by
 simp! [gW,pd,f9 G.nd,f9 ht.nd,kT hw.nd];unfold jd nZ;cases e:long 1 4 g with
 |false=>rfl
 |true =>
  cases E:long 1 4 t with
  |false=>rfl
  |true =>
   obtain⟨s,rfl⟩:∃s,g=.tuple s:={_,kn e}
   obtain⟨T,rfl⟩:∃T,t=.tuple T:={_,kn E}
   let(j,rfl,l,f):=G.Wr;let(o,J,L,F):=ht.Wr;simp! [xY,yO,(cH (cs:=[1]) (fi:=bw<|ae 0) (te:=(aj 2 gu<|aa (ae 0)<|aa (cQ cS<|aa (ae 1) ag) ag)) (h:=λx=>.bool<|placeOk T.length x) (ρ:=[↑(.tuple s),↑(.tuple T),↑w]) rfl (by lia) λx H=>by simp! [zc (f x H) B]),mP,cR,jK];cases m:s.all _ with
   |false=>rfl
   |true =>
    simp! [xY,yO,(cH (cs:=[0]) (fi:=bw<|ae 1) (te:=(aj 2 gu<|aa (ae 0)<|aa (cQ cS<|aa (ae 1) ag) ag)) (h:=λx=>.bool<|placeOk s.length x) (ρ:=[↑(.tuple s),↑(.tuple T),↑w]) rfl (by lia) λx H=>by simp! [zc (F x H) B]),mP,jK];cases n:T.all _ with
    |false=>rfl
    |true =>
     cases c:PP w with
     |false=>simp! [xY,yO,kT hw.nd,c,vV,kX]
     |true =>
     obtain⟨W,rfl⟩:∃W,w=.tuple W:=by cases w<;>first|exact{_,rfl}|cases c
     let(p,d,i,a):=hw.Wr;simp! [xY,yO,(cH (cs:=[0,1]) (fi:=bw<|ae 2) (te:=(aj 3 k6<|aa (ae 0)<|aa (cQ cS<|aa (ae 1) ag)<|aa (cQ cS<|aa (ae 2) ag) ag)) (h:=λx=>.bool<|j1 s.length T.length x) (ρ:=[↑(.tuple s),↑(.tuple T),↑(.tuple W)]) rfl (by lia) λx H=>by simp! [Gc (a x H) B]),mP,jK,kT hw.nd,PP]
def nH:∀(a b:Γ Int),PyData.eqvAll (a.map PyData.int) (b.map PyData.int)=decide (a=b)
 |[],[]=>by rfl
 |[],_::_=>by rfl
 |_::_,[]=>by rfl
 |i::a,j::b=>by
  rw[zI,zI,PyData.eqvAll,nH a b];by_cases h:i=j
  .subst h;simp[PyData.eqv]
  .simp[PyData.eqv,h]
def sV:∀(a b:Γ _),PyData.eqvAll (a.map af) (b.map af)=decide (a=b)
 |[],[]=>by rfl
 |[],_::_=>by rfl
 |_::_,[]=>by rfl
 |x::a,y::b=>by
  rw[zI,zI,PyData.eqvAll,sV a b,af,af,PyData.eqv,nH];simp
def mK(i:Int):iP b k (.int i):=.leaf trivial
def CH(h:r.length<=b):iP b (k+1) (af r):=.tup (by rw[zD];lia) λx H=>by
 let(i,_,rfl):=List.mem_map.mp H;exact mK i
def Ij{b k:Nat}{a:Γ _}(h:a.length<=b)(H:∀r∈a,r.length<=b):iP b (k+2) (.list<|a.map af):=.lst (by rw[zD];lia) λx X=>by
 let(r,Y,rfl):=List.mem_map.mp X;exact CH<|H r Y
def EC(a:Γ (Γ Int)):∃b,a.length<=b/\∀r∈a,r.length<=b:=by
 induction a with
 |nil=>simp
 |cons x a i =>
  let(b,H,c):=i;refine{b+1+x.length,by grind,λr R=>?_}
  grind
def j4(a:Γ _):SeqAt.shaped (.list<|a.map af)=true:=by
 let(b,H,c):=EC a;exact(Ij (k:=0) H c).shaped (by decide)
def EX(a b:Γ _):bV (.list<|a.map af) (.list<|b.map af)=↑(.bool<|decide (a=b)):=by
 simp[bV,Ra,j4,jO,xH,PyData.eqv,sV,zB]
def ko(d:D):Γ Int:=(cR<|(cR d).getD 1 .none).map lQ
def i8(h:placeOk n d=true):∃a ds,d=.tuple ds/\ds.length=2/\ds.getD 0 .none=.int a/\0<=a/\a<=9/\ds.getD 1 .none=.tuple ((ko d).map PyData.int)/\(ko d).Nodup/\∀j∈ko d,0<=j/\j<=n-1:=by
 cases d<;>simp?[placeOk]at h<;>try cases h
 rename_i ds;simp?[zF,zJ]at h;let(b,c,H):=h;have e:ko (.tuple ds)=(cR<|ds.getD 1 _).map lQ:=rfl;rw[e];generalize L:ds.getD 1 _=l at H;cases l<;>simp?[lg]at H<;>try cases H
 rename_i s;simp?[zF,zJ]at H;let(w,W,f):=gh c;refine{_,ds,rfl,b,w,W,f,?_,H.2,λj J=>?_}
 .rw[show cR _=s from rfl,<-l5 H.1];lia
 .let(x,X,rfl):=List.mem_map.mp J;exact(gh<|List.all_eq_true.mp H.1 x X).2
def nA(k:Nat):Γ D->Γ (Γ Int)|[]=>[]|p::s=>(ko p).map (λj=>[((k:Nat):Int),j])++nA (k+1) s
def rP:∀(n:Nat){l:Γ Int},l.Nodup->(∀j∈l,0<=j/\j<=(n:Int)-1)->l.length<=n:=by
 intro n l N h;have s:l.map Int.toNat ⊆ List.range n:=λx H=>by
  let(j,J,rfl):=List.mem_map.mp H;have:=h j J;exact List.mem_range.mpr<|by lia
 have pR:(l.map Int.toNat).Nodup:=by
  refine List.pairwise_map.mpr<|N.imp_of_mem λ{x y}H Y Z e=>Z ?_;have:=h x H;have:=h y Y;lia
 have:=List.Nodup.length_le_of_subset pR s;simpa using this
def v5{n:Nat}:∀{ps:Γ D}{k:Nat},(∀p∈ps,placeOk n p=true)->(nA k ps).length<=ps.length*n
 |[],k,_=>xV _
 |p::ps,k,h=>by
  let(_,_,_,_,_,_,_,_,H,r):=i8<|h p zE;have a:=rP n H r;have b:=v5 (k:=k+1) λq Q=>h q<|zC _ Q;rw[nA,zN,zD,zL,Nat.succ_mul];lia
def pB:ao->Δ Out:=El 1 [2,3]<|ax 1 [2] (bw<|f2 aN (ae 3)<|fC<|.int 1) (fG 0) (λ_=>↑true)<|bg<|aa (ae 1)<|aa (ae 0) ag
def OH{n:Nat}{p:D}{acc:Γ D}(P:placeOk n p=true)(N:n<=100)(A:acc.length<=1000):pB [.val x,.own acc,.val<|.int (k:Nat),.val p]=↑(.nx [.val x,.own<|acc++((ko p).map λj=>af [k,j]),.val<|.int k,.val p]):=by
 let(a,d,rfl,L,_,_,_,H,pR,r):=i8 P;have B:=rP n pR r;generalize ko _=l at *;have c:=cH (cs:=[2]) (fi:=bw<|f2 aN (ae 3)<|fC<|.int 1) (te:=bg<|aa (ae 1)<|aa (ae 0) ag) (h:=λy=>.tuple [.int k,y]) (ρ:=[↑x,none,↑_,↑(.tuple d)]) (ds:=l.map .int)
  (by simp! [zq (show 1<d.length by lia),H]) (by grind) λy Y=>by
   rfl
 have b:hand [2,3] 0 [.val x,.own acc,.val<|.int k,.val<|.tuple d]=[.val x,.own acc,.val _,.val _]:=rfl;simp?[pB,El,b,bD,zI,yU,Slot.Wj,c,zA,oN,yY,xQ];rw[yL]
 .simp?[zB,yW,yV,zM];rfl
 .simp ;exact yD (show acc.length+l.length<=1100 by lia) (by decide)
def uR{n:Nat}(H:n<=100):∀{ps:Γ D}{k:Nat}{acc:Γ D}{s2 s3:Slot},(∀p∈ps,placeOk n p=true)->acc.length+ps.length*n<=1000 ->
  ∃t T,fv (js 2 3) pB (b8 k ps) [.val x,.own acc,s2,s3]=↑(.nx [.val x,.own<|acc++(nA k ps).map af,t,T])
 |[],k,acc,s2,s3,_,_=>{s2,s3,by simp[b8,fv,nA]}
 |p::ps,k,acc,s2,s3,h,l=>by
  have P:=h p zE;let(_,_,_,_,_,_,_,_,pR,r):=i8 P;have b:=rP n pR r;rw[zL,Nat.succ_mul]at l;let(t,T,e):=uR H (x:=x) (ps:=ps) (k:=k+1) (acc:=acc++((ko p).map λj=>af [((k:Nat):Int),j])) (s2:=.val<|.int (k:Nat)) (s3:=.val p) (λq Q=>h q<|zC _ Q) (by rw[zN,zD];lia);refine{t,T,?_};have s:js 2 3 [.val x,.own acc,s2,s3] (.tuple [.int (k:Nat),p])=↑[.val x,.own acc,.val<|.int (k:Nat),.val p]:=rfl;simp?[b8,fv,s,zA,OH P H (show acc.length<=1000 by lia)];rw[e];simp[nA,zM,Function.comp_def]
def Ct{n:Nat}{ps:Γ D}(h:∀p∈ps,placeOk n p=true)(N:n<=100)(l:ps.length*n<=1000):bI [.tuple ps]=↑(.list<|(nA 0 ps).map af):=by
 let(t,T,e):=uR N (acc:=[]) h (by simpa using l);have s:bb 1 [] (gO ag) [.val<|.tuple ps,.VC,.VC,.VC]=↑(.nx [.val _,.own [],.VC,.VC]):=rfl;have H:hand [0] 0 [.val<|.tuple ps,.own [],.VC,.VC]=[.val _,.own [],.VC,.VC]:=rfl;have f:cW (aa (ae 0) ag) (bD [.val<|.tuple ps,.own [],.VC,.VC])=↑_:=rfl;simp! [bI,lT,s,iz,H,f];rw[show El 1 _ _=pB from rfl,e];rfl
def gx(d:D):Γ Int:=[lQ<|(cR d).getD 0 .none,lQ<|(cR d).getD 1 .none]
def BB(h:j1 g t d=true):∃ds c,d=.tuple ds/\ds.length=3/\ds.getD 0 .none=.int (lQ<|ds.getD 0 .none)/\ds.getD 1 .none=.int (lQ<|ds.getD 1 .none)/\ds.getD 2 .none=.int c/\1<=c/\c<=9 /\
  0<=lQ (ds.getD 0 .none)/\lQ (ds.getD 0 .none)<=g-1/\0<=lQ (ds.getD 1 .none)/\lQ (ds.getD 1 .none)<=t-1:=by
 cases d<;>simp?[j1]at h<;>try cases h
 rename_i ds;simp?[zF,zJ]at h;let(H,e,f,i):=h;have a:=gh e;have b:=gh f;have c:=gh i;exact{ds,_,rfl,H,a.1,b.1,c.1,c.2.1,c.2.2,a.2.1,a.2.2,b.2.1,b.2.2}
def A5(g t w:D):θ:=decide ((cR w).map gx=lN (nA 0<|cR g))&&decide ((cR w).map gx=lN ((nA 0<|cR t).map List.reverse))
def SD(d:D):θ:=long 3 3 d&&(jd ((cR d).getD 0 .none) ((cR d).getD 1 .none) ((cR d).getD 2 .none)&&A5 ((cR d).getD 0 .none) ((cR d).getD 1 .none) ((cR d).getD 2 .none))
def lD:∀{ps:Γ D}{k:Nat},∀r∈nA k ps,∃i j,r=[i,j]
 |[],k,r,h=>by cases h
 |p::ps,k,r,h=>by
  rcases List.mem_append.mp h with h|h
  .let(j,_,rfl):=List.mem_map.mp h;exact{_,_,rfl}
  .exact lD r h
def mR(h:∀r∈a,∃i j,r=[i,j])(l:a.length<64):dq [.list<|a.map af]=↑((lN a).map af):=by
 have:∀n∈a,n≠[]:=λn H=>by let(i,j,rfl):=h n H;exact List.cons_ne_nil _ _
 simp?[dq,oneOf,zA,lU this,yL l]
def ug:∀{a:Γ (Γ Int)},(∀r∈a,∃i j,r=[i,j])->d9 (jx 0 1) (λ_=>↑true) (bg<|aa (ae 1) zq0) [none,none] (a.map af)=↑((a.map List.reverse).map af)
 |[],_=>rfl
 |r::a,h=>by
  let(i,j,rfl):=h r zE;have e:jx 0 1 [none,none] (af [i,j])=↑_:=rfl;rw[zI,d9,e,zA,zA,yL rfl,(ug λq H=>h q<|zC _ H)];rfl
def Fj{a:Γ (Γ Int)}(Y:fi ρ=↑(a.map af))(l:a.length<=4000)(h:∀r∈a,∃i j,r=[i,j]):ax 2 [] fi (jx 0 1) (λ_=>↑true) (bg<|aa (ae 1) zq0) ρ=↑((a.map List.reverse).map af):=by
 simp?[ax,Y,zA,fQ,List.replicate,xF,xO,yU];rw[ug h,zA,bO (by rw[zD,zD];lia)]
def AH(h:jd g t w=true):∃s ts W,g=.tuple s/\t=.tuple ts/\w=.tuple W/\1<=s.length/\s.length<=4/\1<=ts.length/\ts.length<=4/\(∀p∈s,placeOk ts.length p=true)/\(∀p∈ts,placeOk s.length p=true)/\∀x∈W,j1 s.length ts.length x=true:=by
 simp?[jd,nZ,zF]at h;let(H,a,b,c,d,f):=h;cases w<;>try cases d
 rename_i W;have e:=kn H;have E:=kn a;generalize cR g=s at *;generalize cR t=ts at *;subst e E;simp[long,zF,zJ]at H a;exact{s,ts,W,rfl,rfl,rfl,by lia,by lia,by lia,by lia,List.all_eq_true.mp b,List.all_eq_true.mp c,List.all_eq_true.mp f}
def rR{b:Nat}(h:iP b k d)(B:b<=1000):cZ [d]=↑(.bool<|SD d):=by
 unfold SD;cases e:long 3 3 d with
 |false=>simp! [cZ,jb,f9 h.nd,e,Bool.not_false,vV]
 |true =>
  obtain⟨s,rfl⟩:∃s,d=.tuple s:={_,kn e}
  let(j,rfl,O,F):=h.Wr;rw[show long 3 3 (.tuple s)=decide (s.length=3)from u4 3 s,zJ]at e;have o:=F _<|getD_mem (i:=0) (by lia);have f1:=F _<|getD_mem (i:=1) (by lia);have f:=F _<|getD_mem (i:=2) (by lia);have I:=Dc (show 0<s.length by lia);have m:=zq (show 1<s.length by lia);have n:=MG (show 2<s.length by lia);have L:dv [.tuple s,.int 3,.int 3]=↑(.bool true):=by rw[f9 rfl,show long 3 3 (.tuple s)=decide (s.length=3)from u4 3 s,yA e]
  rw[show cR (.tuple s)=s from rfl,jK];generalize N:s.getD 0 .none=g at *;generalize ht:s.getD 1 .none=t at *;generalize hw:s.getD 2 .none=w at *;cases E:jd g t w with
  |false=>simp! [cZ,jb,L,I,m,n,pb o f1 f B,E,Bool.not_false,xY,vV]
  |true =>
   let(G,T,W,rfl,rfl,rfl,M,p,t1,C,u,A,D):=AH E;have l:=f.Wr;let(P,_,J,_):=l;have U:=v5 (k:=0) u;have q2:=v5 (k:=0) A;have m1:G.length*T.length<=16:=vT p C;have m2:T.length*G.length<=16:=vT C p;have K:=mR (a:=(nA 0 T).map List.reverse) (λr R=>by
    let(q,Q,rfl):=List.mem_map.mp R;let(i,j,rfl):=lD q Q;simp)<|by grind
   have c1:ax 1 [] (bw<|f2 aN (ae 0)<|fC<|.int 2) (fG 0) (λ_=>↑true) (bg<|aa (f2 aN (ae 0)<|fC<|.int 0)<|aa (f2 aN (ae 0)<|fC<|.int 1) ag) [↑(.tuple s),none,none,none]=↑((W.map gx).map af):=by
    rw[cH (ds:=W) (h:=λx=>af<|gx x) (by simp! [n]) (by lia) λx X=>?_,zM]
    .rfl
    .let(v,c,rfl,v3,v0,v1,_):=BB<|D x X;simp! [Dc (show 0<v.length by lia),zq (show 1<v.length by lia),bO (show[v.getD 0 PyData.none,v.getD 1 .none].length<=4000 by simp),af,gx,cR]
     grind
   have c2:∀x y z,ax 2 [] (bw<|aj 1 bI<|aa (f2 aN (ae 0)<|fC<|.int 1) ag) (jx 0 1) (λ_=>↑true) (bg<|aa (ae 1)<|aa (ae 0) ag) [↑(.tuple s),x,y,z]=↑(((nA 0 T).map List.reverse).map af):=λx y z =>
    Fj (by simp! [m,(Ct A (by lia)<|by lia)]) (by lia) lD
   have S:bb 1 [0] (ax 1 [] (bw<|f2 aN (ae 0)<|fC<|.int 2) (fG 0) (λ_=>↑true)<|bg<|aa (f2 aN (ae 0)<|fC<|.int 0)<|aa (f2 aN (ae 0)<|fC<|.int 1) ag) [Slot.val<|.tuple s,.VC,.VC,.VC]=↑(.nx [.val<|.tuple s,.own<|(W.map gx).map af,.VC,.VC]):=by
    have H:hand [0] 0 [Slot.val<|.tuple s,.VC,.VC,.VC]=[Slot.val<|.tuple s,.VC,.VC,.VC]:=rfl;simp?[bb,H,bD,zI,yU,Slot.Wj,c1,zB,yW,yV]
   have Y:bb 2 [0] (r8 dq<|aa (aj 1 bI<|aa (f2 aN (ae 0)<|fC<|.int 0) ag) ag) [Slot.val<|.tuple s,.own<|(W.map gx).map af,.VC,.VC]=↑(.nx [.val<|.tuple s,.own<|(W.map gx).map af,.own<|(lN<|nA 0 G).map af,.VC]):=by
    have H:hand [0] 0 [Slot.val<|.tuple s,.own<|(W.map gx).map af,.VC,.VC]=[Slot.val<|.tuple s,.own<|(W.map gx).map af,.VC,.VC]:=rfl;simp?[bb,H,bD,zI,yU,Slot.Wj];simp! [I,(Ct u (by lia)<|by lia),(mR (a:=nA 0 G) lD<|by lia),yW,yV]
   have Z:bb 3 [0] (r8 dq<|aa (fP<|ax 2 [] (bw<|aj 1 bI<|aa (f2 aN (ae 0)<|fC<|.int 1) ag) (jx 0 1) (λ_=>↑true)<|bg<|aa (ae 1)<|aa (ae 0) ag) ag) [.val<|.tuple s,.own<|(W.map gx).map af,.own<|(lN<|nA 0 G).map af,.VC]
      =↑(.nx [.val<|.tuple s,.own<|(W.map gx).map af,.own<|(lN<|nA 0 G).map af,.own<|(lN<|(nA 0 T).map List.reverse).map af]):=by
    have H:hand [0] 0 [.val<|.tuple s,.own<|(W.map gx).map af,.own<|(lN<|nA 0 G).map af,.VC]=[.val _,.own _,.own _,.VC]:=rfl;simp?[bb,H,bD,zI,yU,Slot.Wj];simp! [c2,K,yW,yV]
   simp! [cZ,jb,L,I,m,n,pb o f1 f B,E,xY,yO,S,Y,Z,EX,A5,cR,jK];by_cases Q:.map gx W=lN (nA 0 G)<;>simp[Q]
def Ci(xs:Γ D):PyData.eqvAll xs []=xs.isEmpty:=by cases xs<;>simp[PyData.eqvAll]
def B4:SeqAt.shaped (.list [])=true:=by rfl
def Hy(h:∀x∈xs,iP b k x)(hk:k<=60):bV (.list xs) (.list [])=↑(.bool xs.isEmpty):=by
 simp[bV,Ra,((iP.lst (Nat.le_max_right _ _) λx H=>(h x H).mono (Nat.le_max_left _ _)<|yM _).shaped<|by lia),B4,jO,xH,PyData.eqv,Ci,zB]
def E4:small []=↑[]:=rfl
def FE(xs:Γ α)(k:Nat):cut xs none (↑k)=xs.take k:=by
 simp?[cut,HT.zm,HT.C8,List.drop_zero,Nat.sub_zero];simp
def IA(xs:Γ α)(k:Nat):cut xs (↑k) none=xs.drop k:=by
 simp[cut,HT.zm,HT.C8];rw[kK<|by simp];simp
def lG(b:θ):gB (.bool b)=↑b:=rfl
def Jv(a b:Γ Int):PyData.eqv (af a) (af b)=decide (a=b):=by rw[af,af,PyData.eqv,nH]
def JM(P:Γ _)(a:Γ Int):((P.map af).any λz=>PyData.eqv z<|af a)=decide (a∈P):=by
 rw[List.any_map]
 induction P with
 |nil=>rfl
 |cons r P i =>
  rw[List.any_cons,i,Function.comp_apply,Jv]
  grind
def Iw(a b:D):small [a,b]=↑[a,b]:=rfl
def Hw:∀ρ k,hand [] k ρ=ρ
 |[],k=>rfl
 |s::r,k=>by simp[hand,Hw r]
def qh:∀{ps:Γ D}{k:Nat}{i j:Int},[i,j]∈nA k ps↔∃m p,ps[m]?=↑p/\i=((k+m:Nat):Int)/\j∈ko p
 |[],k,i,j=>by simp[nA]
 |p::ps,k,i,j=>by
  rw[nA,List.mem_append,qh (ps:=ps)];constructor
  .rintro (h|⟨m,q,H,a,b⟩)
   .let(y,Y,e):=List.mem_map.mp h;injection e with c E
    injection E with E _
    exact{0,p,rfl,by simpa using c.symm,E▸Y}
   .exact{m+1,q,by simpa using H,by rw[a];congr 1;lia,b}
  .rintro⟨m,q,H,a,b⟩;cases m with
   |zero =>
    simp at H;subst H;exact .inl (List.mem_map.mpr {j,b,by rw[a];rfl})
   |succ m=>exact .inr {m,q,by simpa using H,by rw[a];congr 1;lia,b}
def ud:∀{ps:Γ D}{k:Nat},(∀p∈ps,(ko p).Nodup)->(nA k ps).Nodup
 |[],k,_=>List.nodup_nil
 |p::ps,k,h=>by
  rw[nA,wN];refine{List.pairwise_map.mpr<|(h p zE).imp λZ e=>Z ?_,ud λq Q=>h q<|zC _ Q,?_};rotate_left
  .injection e with _ E
   injection E
  .rintro a H b B rfl;let(y,Y,rfl):=List.mem_map.mp H;let(m,q,c,d,f):=qh.mp B;lia
def Rc(h:Dl.lexLt a b=true):lexLe a b=true:=by
 unfold lexLe;cases e:Dl.lexLt b a with
 |false=>rfl
 |true=>have:=d0 h e;rw[dP]at this;grind
def fH(h:wW i j):Dl.hV (.int i) (.int j)=↑(.int<|i*j):=by
 simp[Dl.hV,ye,yL h,Option.some_or]
def gz(h:0<j):Dl.lK (.int i) (.int j)=↑(.int<|i%j):=yL h
def j9(h:0<j/\j<1073741824):Dl.pH (.int i) (.int j)=↑(.int<|i/j):=yL h
def gX(i j:Int):Dl.HM (.int i) (.int j)=↑(.bool<|decide (j<i)):=rfl
def m6(i j:Int):Dl.MN (.int i) (.int j)=↑(.bool<|decide (i<j)):=rfl
def nX(h:-(2^64)<i/\i<2^64):wW i j:=.inl h
def Ou(h:-(2^64)<j/\j<2^64):wW i j:=.inr h
def AD(i:Int):Dl.kg (.int i)=true:=rfl
def AJ(i:Γ D):Dl.kg (.tuple i)=false:=rfl
def gM(ns:Γ Int):D:=.list<|ns.map PyData.int
def Pk(k:Int)(l:ns.length<=63):∃c,gQ [gM ns,.int k]=↑(.int c):=by
 have q:bV (.list<|ns.map .int) (.list [])=↑(.bool ns.isEmpty):=by
  have:=Hy (b:=0) (k:=0) (xs:=ns.map .int) (λx H=>by let(i,_,rfl):=List.mem_map.mp H;exact mK i) (by decide);simp_all
 by_cases n:ns=[]
 .subst n;refine{7*k,?_};rfl
 .have Y:(0:Int)<ns.length:=by have:=List.length_pos_iff.mpr n;lia
  have e:ns.isEmpty=false:=by grind
  let(j,J):=vH<|vR k (show(ns.length:Int)≠0 by lia);have W:=kZ k Y;have H:tw (ns.map PyData.int) (k%ns.length)=↑(.int<|ns.getD j 0):=by
   rw[J];have:j<(ns.map PyData.int).length:=by grind
   rw[mJ this,zG,zO,zG,zK<|by lia];rfl
  refine{ns.getD j 0+6553*(k/ns.length),?_};simp! [gQ,o4,gM,E4,q,e,yO,zD,gz Y,H,j9 {Y,by lia},fH<|nX (i:=6553)<|by decide]
def JU(k many:Int)(l:ns.length<=63)(m:0<many):∃r,aq [gM ns,.int k,.int many]=↑(.int r)/\0<=r/\r<many:=by
 let(c,hc):=Pk k l;have m1:∀i ,Dl.lK (.int i) (.int 2147483563)=↑_:=λi=>gz (by lia);have b:∀x ,Dl.hV (.int<|x%2147483563) (.int<|x%2147483563)=↑_:=λx=>fH (nX (by
  lia))
 have B:∀x ,Dl.hV (.int<|x%2147483399) (.int<|x%2147483399)=↑_:=λx=>fH (nX (by
  lia))
 suffices h:∃x,aq _=↑_ by
  let(x,H):=h;exact{_,H,vR x<|by lia,kZ x m}
 .refine{(((((c%2147483563*69069+104723*(k+1))%2147483563)*((c%2147483563*69069+104723*(k+1))%2147483563)+((c%2147483563*69069+104723*(k+1))%2147483563)/3)%2147483399)*((((c%2147483563*69069+104723*(k+1))%2147483563)*((c%2147483563*69069+104723*(k+1))%2147483563)+((c%2147483563*69069+104723*(k+1))%2147483563)/3)%2147483399)+((((c%2147483563*69069+104723*(k+1))%2147483563)*((c%2147483563*69069+104723*(k+1))%2147483563)+((c%2147483563*69069+104723*(k+1))%2147483563)/3)%2147483399)/7)%2147483647/11,?_};simp! [aq,mG,hc,m1,(λi=>fH (Ou<|by lia):∀i ,Dl.hV (.int i) (.int 69069)=↑_),(λi=>fH (nX<|by decide):∀i ,Dl.hV (.int 104723) (.int i)=↑_),Dl.aL,AD,yW,yV,b,(λi=>j9 (by lia):∀i ,Dl.pH (.int i) (.int 3)=↑_),(λi=>gz (by lia):∀i ,Dl.lK (.int i) (.int 2147483399)=↑_),B,(λi=>j9 (by lia):∀i ,Dl.pH (.int i) (.int 7)=↑_),(λi=>gz (by lia):∀i ,Dl.lK (.int i) (.int 2147483647)=↑_),(λi=>j9 (by lia):∀i ,Dl.pH (.int i) (.int 11)=↑_),gz m]
def dr(ns:Γ Int)(k many:Int):Int:=lQ<|(aq [gM ns,.int k,.int many]).getD .none
def dQ(k many:Int)(l:ns.length<=63)(m:0<many):aq [gM ns,.int k,.int many]=↑(.int<|dr ns k many)/\0<=dr ns k many/\dr ns k many<many:=by
 let(r,H,a):=JU k many l m;have:dr ns k many=r:=by simp[dr,H,qG,lQ]
 rw[this];exact⟨H,a⟩
def sx(k many:Int)(l:ns.length<=63)(m:0<many):aq [gM ns,.int k,.int many]=↑(.int<|dr ns k many):=(dQ k many l m).1
def RP(k many:Int)(l:ns.length<=63)(m:0<many):0<=dr ns k many:=(dQ k many l m).2.1
def RW(k many:Int)(l:ns.length<=63)(m:0<many):dr ns k many<many:=(dQ k many l m).2.2
def eD(r:Γ Int):D:=.list<|r.map PyData.int
def insI(ds:Γ Int)(k:Int)(d:Int):Γ Int:=let j:=if k<0 then(k+(ds.length:Int)).toNat else min k.toNat ds.length;ds.take j++d::ds.drop j
def Es(ds:Γ Int)(k d:Int):DP (ds.map PyData.int) k (.int d)=(insI ds k d).map PyData.int:=by
 simp[DP,insI,zD,qZ,zI,List.map_take,List.map_drop]
def insI_perm(ds:Γ Int)(k d:Int):(insI ds k d).Perm (d::ds):=by
 apply List.perm_middle.trans;simp
def oB:ao->Δ Out:=(FM 6 [8] (aj 3 aq<|aa (ae 0)<|aa (f2 aS (f2 aS (ae 1)<|f2 hV (fC<|.int 4)<|ae 4)<|ae 7)<|aa (f2 aS (cQ cS<|aa (ae 6) ag)<|fC<|.int 1) ag)<|ae 8)
def Oi{s3:Slot}(l:ns.length<=63)(o:order.length<=1000) :
  oB [.val<|gM ns,.val<|.int a,s2,s3,.val<|.int k,s5,.own<|order.map PyData.int,.val<|.int j,.val<|.int x] =
   some (.nx [.val<|gM ns,.val<|.int a,s2,s3,.val<|.int k,s5,.own<|(insI order (dr ns (a+4*k+j)<|order.length+1) x).map PyData.int,.val<|.int j,.val<|.int x]):=by
 have d:=dQ (a+4*k+j) (order.length+1) l (by lia);have r:FA (dr ns (a+4*k+j)<|order.length+1)=true:=by
  simp[FA,zF,zJ];lia
 have z:(order.map PyData.int).length<sizeLine:=by rw[zD];exact qY o<|by decide
 simp! [oB,FM,lM,AD,oN,zD,(fH (nX<|by decide):Dl.hV (.int 4) _=↑_),d.1];rw[zD]at z;simp[r,z,jO,xH,zB,Es,yW,yV]
def F6{s3:Slot}(l:ns.length<=63):∀{row order:Γ Int}{j:Nat}{s7 s8:Slot},order.length+row.length<=1000 ->
  ∃ (o:Γ Int) (t T:Slot),fv (js 7 8) oB (b8 j<|row.map PyData.int) [.val<|gM ns,.val<|.int a,s2,s3,.val<|.int k,s5,.own<|order.map PyData.int,s7,s8] =
   some (.nx [.val<|gM ns,.val<|.int a,s2,s3,.val<|.int k,s5,.own<|o.map PyData.int,t,T])/\o.Perm (row++order)
 |[],order,j,s7,s8,_=>{order,s7,s8,by rfl,by rfl}
 |x::row,order,j,s7,s8,h=>by
  rw[zL]at h;have H:=insI_perm order (dr ns (a+4*k+j)<|order.length+1) x;have n:=H.length_eq;rw[zL]at n;let(o,t,T,e,p):=F6 (s2:=s2) (s3:=s3) (s5:=s5) (a:=a) (k:=k) l (row:=row) (order:=insI order (dr ns (a+4*k+j)<|order.length+1) x) (j:=j+1) (s7:=.val<|.int j) (s8:=.val<|.int x) (by lia);refine{o,t,T,?_,p.trans ?_}
  .have s:js 7 8 [.val<|gM ns,.val<|.int a,s2,s3,.val<|.int k,s5,.own<|order.map .int,s7,s8] (.tuple [.int j,.int x])=↑_:=rfl;simp[zI,b8,fv,s,zA,Oi l (show order.length<=1000 by lia),e]
  .refine (H.append_left row).trans ?_;rw[xF];exact List.perm_middle
def sT:Γ (Γ Int)->Γ (Γ Int)->Prop|[],[]=>True|a::l,b::m=>a.Perm b/\sT l m|_,_=>False
def rB:ao->Δ Out:=(aH (bb 6 []<|gO ag)<|aH (iz [5] (cW<|aa (ae 5) ag) (js 7 8) oB)<|jq 3 [6]<|cQ cg<|aa (ae 6) ag)
def Pf(l:ns.length<=63)(r:row.length<=1000)(f:found.length<=1000) :
  ∃ (o:Γ Int) (t T:Slot),rB [.val<|gM ns,.val<|.int a,.val rows,.own found,.val<|.int k,.val<|eD row,s6,s7,s8]=↑(.nx [.val<|gM ns,.val<|.int a,.val rows,.own<|found++[af o],.val<|.int k,.val<|eD row,.val<|eD o,t,T])/\o.Perm row:=by
 let(o,t,T,e,p):=F6 l (row:=row) (order:=[]) (by grind);rw[qF]at p;refine{o,t,T,?_,p};have H:bb 6 [] (gO ag) [.val<|gM ns,.val<|.int a,.val rows,.own found,.val<|.int k,.val<|eD row,s6,s7,s8]=↑(.nx [.val<|gM ns,.val<|.int a,.val rows,.own found,.val<|.int k,.val<|eD row,.own [],s7,s8]):=by
  rfl
 have b:iz [5] (cW<|aa (ae 5) ag) _ oB [.val _,.val<|.int a,.val rows,.own found,.val<|.int k,.val<|eD row,.own [],s7,s8]=↑(.nx [.val _,.val _,.val rows,.own found,.val _,.val _,.own _,t,T]):=e;have c:jq 3 [6] (cQ cg<|aa (ae 6) ag) [.val<|gM ns,.val<|.int a,.val rows,.own found,.val<|.int k,.val<|eD row,.own<|o.map .int,t,T]=↑(.nx [.val<|gM ns,.val<|.int a,.val rows,.own<|found++[af o],.val<|.int k,.val<|eD row,.val<|eD o,t,T]):=by
  have d:hand [6] 0 [.val<|gM ns,.val<|.int a,.val rows,.own found,.val<|.int k,.val<|eD row,.own<|o.map .int,t,T]=[.val _,.val _,.val rows,.own found,.val _,.val _,.val _,t,T]:=rfl;simp[jq,lM,d,bD,zI,yU];simp! [AJ,yO,oN,(qY f (by decide):found.length<sizeLine),yW,yV,eD,af]
 simp[rB,aH,H,b,c,zA]
def Ge{rws:D}(l:ns.length<=63):∀{rows:Γ (Γ Int)}{found:Γ D}{k:Nat}{s4 s5 s6 s7 s8:Slot},(∀r∈rows,r.length<=1000)->found.length+rows.length<=1000 ->
  ∃ (os:Γ (Γ Int)) (t T b c d:Slot),fv (js 4 5) rB (b8 k<|rows.map eD) [.val<|gM ns,.val<|.int a,.val rws,.own found,s4,s5,s6,s7,s8]=↑(.nx [.val<|gM ns,.val<|.int a,.val rws,.own<|found++os.map af,t,T,b,c,d])/\sT os rows
 |[],found,k,s4,s5,s6,s7,s8,_,_=>{[],s4,s5,s6,s7,s8,by simp[b8,fv],trivial}
 |r::rows,found,k,s4,s5,s6,s7,s8,h,f=>by
  rw[zL]at f;let(o,u,U,E,P):=Pf (rows:=rws) (a:=a) (k:=k) (s6:=s6) (s7:=s7) (s8:=s8) l (h r zE) (show found.length<=1000 by lia);let(os,t,T,b,c,d,e,p):=Ge l (rws:=rws) (a:=a) (found:=found++[af o]) (k:=k+1) (s4:=.val<|.int k) (s5:=.val<|eD r) (s6:=.val<|eD o) (s7:=u) (s8:=U) (λR Y=>h R<|zC _ Y) (by rw[zN,xC];lia);refine{o::os,t,T,b,c,d,?_,P,p};have s:js 4 5 [.val<|gM ns,.val<|.int a,.val rws,.own found,s4,s5,s6,s7,s8] (.tuple [.int k,eD r])=↑_:=rfl;simp[zI,b8,fv,s,zA,E];rw[e,List.append_assoc];rfl
def AC(l:ns.length<=63)(R:∀r∈rows,r.length<=1000)(n:rows.length<=1000):∃os ,bW [gM ns,.int a,.list<|rows.map eD]=↑(.list<|os.map af)/\sT os rows:=by
 let(os,t,T,d,f,g,e,p):=Ge l (found:=[]) R (by grind);refine{os,?_,p};rw[xO]at e;have b:bb 3 [] (gO ag) [.val<|gM ns,.val<|.int a,.val<|.list<|rows.map eD,.VC,.VC,.VC,.VC,.VC,.VC]=↑(.nx [.val<|gM ns,.val<|.int a,.val<|.list<|rows.map eD,.own [],.VC,.VC,.VC,.VC,.VC]):=by
  rfl
 have H:iz [2] (cW<|aa (ae 2) ag) (js 4 5) rB [.val<|gM ns,.val<|.int a,.val<|.list<|rows.map eD,.own [],.VC,.VC,.VC,.VC,.VC]=↑(.nx [.val<|gM ns,.val<|.int a,.val<|.list<|rows.map eD,.own<|os.map af,t,T,d,f,g]):=by
  have c:hand [2] 0 [.val<|gM ns,.val<|.int a,.val<|.list<|rows.map eD,.own [],.VC,.VC,.VC,.VC,.VC]=[.val _,.val _,.val _,.own [],.VC,.VC,.VC,.VC,.VC]:=rfl;have q:cW (aa (ae 2) ag) (bD [.val<|gM ns,.val<|.int a,.val<|.list<|rows.map eD,.own [],.VC,.VC,.VC,.VC,.VC])=↑(b8 0<|rows.map eD):=by
   rfl
  simp[iz,c,q,zA];omega
 unfold rB oB at H;simp! [bW,lR,b,H]
abbrev Pl:=Int×Γ Int
abbrev Wy:=Int×Int×Int
def bA(p:Pl):D:=.tuple [.int p.1,af p.2]
def aE(w:Wy):D:=.tuple [.int w.1,.int w.2.1,.int w.2.2]
def aw(G T:Γ Pl)(W:Γ Wy):D:=.tuple [.tuple<|G.map bA,.tuple<|T.map bA,.tuple<|W.map aE]
def C5(W:Γ Wy)(i:Int):Γ Int:=(W.filter λw=>decide (w.1=i)).map λw=>w.2.1
def ofT(W:Γ Wy)(j:Int):Γ Int:=(W.filter λw=>decide (w.2.1=j)).map λw=>w.1
abbrev Cw(W:Γ Wy):Prop:=W.Pairwise λa b=>a.1<b.1\/(a.1=b.1/\a.2.1<b.2.1)
structure Wd(G T:List Pl)(W:List Wy):Prop where
 g1:1<=G.length
 g4:G.length<=4
 t1:1<=T.length
 t4:T.length<=4
 ga:∀p∈G,0<=p.1/\p.1<=9
 ta:∀p∈T,0<=p.1/\p.1<=9
 gl:∀(i:Nat)(p:Pl),G[i]?=↑p->p.2.Perm (C5 W i)
 tl:∀(j:Nat)(p:Pl),T[j]?=↑p->p.2.Perm (ofT W j)
 wr:∀w∈W,(0<=w.1/\w.1<G.length)/\(0<=w.2.1/\w.2.1<T.length)/\1<=w.2.2/\w.2.2<=9
 wp:Cw W
 wl:W.length<=16
def v7:j∈C5 W i↔[i,j]∈W.map λw=>[w.1,w.2.1]:=by
 simp?[C5,zQ,List.mem_filter,zJ,kU,and_true];simp
def wu:i∈ofT W j↔[i,j]∈W.map λw=>[w.1,w.2.1]:=by
 simp?[ofT,zQ,List.mem_filter,zJ,kU,and_true];simp
def nN(h:Cw W)(i:Int):(C5 W i).Nodup:=by
 rw[C5,List.Nodup,jD,List.pairwise_filter];refine h.imp λw a b=>?_
 grind
def oO(h:Cw W)(i:Int):(ofT W i).Nodup:=by
 rw[ofT,List.Nodup,jD,List.pairwise_filter];refine h.imp λw a b=>?_
 grind
def gg(p:Pl):ko (bA p)=p.2:=by
 show((p.2.map .int).map lQ)=p.2;rw[zM];apply List.map_id
def oX(a:0<=p.1/\p.1<=9)(N:p.2.Nodup)(r:∀j∈p.2,0<=j/\j<n):placeOk n (bA p)=true:=by
 have e:(p.2.map _).map lQ=p.2:=gg p;have E:(p.2.map .int).all (whole 0<|n-1)=true:=by
  rw[xG];intro x X;let(j,H,rfl):=List.mem_map.mp X;have:=r j H;simp[whole,zF,zJ];lia
 simp?[placeOk,bA,af,zL,xK,vY,vZ,lg,whole,e,E,a.1,a.2,N,jP,Bool.and_self]
def Eo(h:(0<=w.1/\w.1<g)/\(0<=w.2.1/\w.2.1<t)/\1<=w.2.2/\w.2.2<=9):j1 g t (aE w)=true:=by
 let((a,b),(c,d),e,f):=h;simp?[j1,aE,zL,xK,vY,vZ,whole,a,(show w.1<=g-1 by lia),c,(show w.2.1<=t-1 by lia),e,f,jP,Bool.and_self]
def Ue(h:a<c\/(a=c/\b<d)):Dl.lexLt [a,b] [c,d]=true:=by
 show HT.lexLt _ _=true;rw[HT.cy];by_cases e:a=c
 .rw[yL e,HT.cy,yN<|by lia]
  grind
 grind
def Wd.abQ(h:Wd G T W)(P:p∈G):∃i ,i<G.length/\p.2.Perm (C5 W i):=by
 let(i,H,e):=qP P;exact{i,H,h.gl i p<|by rw[zK H,e]}
def Wd.abR(h:Wd G T W)(P:p∈T):∃i ,i<T.length/\p.2.Perm (ofT W i):=by
 let(i,H,e):=qP P;exact{i,H,h.tl i p<|by rw[zK H,e]}
def Wd.gok(h:Wd G T W):(G.map bA).all (placeOk T.length)=true:=by
 rw[xG];intro x X;let(p,H,rfl):=List.mem_map.mp X;let(i,I,q):=h.abQ H;refine oX (h.ga p H) (q.nodup_iff.mpr<|nN h.wp _) λj J=>?_;let(w,hw,e):=List.mem_map.mp<|v7.mp<|q.mem_iff.mp J;injection e with a E
 injection E with E _
 have:=(h.wr w hw).2.1;rw[E]at this;lia
def Wd.tok(h:Wd G T W):(T.map bA).all (placeOk G.length)=true:=by
 rw[xG];intro x X;let(p,H,rfl):=List.mem_map.mp X;let(i,I,q):=h.abR H;refine oX (h.ta p H) (q.nodup_iff.mpr<|oO h.wp _) λj J=>?_;let(w,hw,e):=List.mem_map.mp<|wu.mp<|q.mem_iff.mp J;injection e with E a
 have:=(h.wr w hw).1;rw[E]at this;lia
def rj{W:Γ Wy}{p:Wy->θ}(h:W.length<=16):(W.filter p).length<=16:=yD (xP _ _) h
def CD(h:p.2.length<=16):iP 16 2 (bA p):=.tup (by simp) λx H=>by
 rcases List.mem_cons.mp H with rfl|H
 .apply mK
 .rw[yJ]at H;subst H;exact CH h
def KU(w:Wy):iP 16 1 (aE w):=.tup (by simp) λx H=>by
 simp  at H;rcases H with rfl|rfl|rfl<;>apply mK
def Wd.fit(h:Wd G T W):iP 16 4 (aw G T W):=by
 refine .tup (by simp?[zL,xK];lia) λx H=>?_;simp?[zR,yF,xU]at H;have a:=h.g4;have b:=h.t4;have c:=h.wl;rcases H with rfl|rfl|rfl
 .refine .tup (by rw[zD];lia) λx H=>?_;let(p,P,rfl):=List.mem_map.mp H;let(i,I,q):=h.abQ P;exact CD (by rw[q.length_eq,C5,zD];exact rj h.wl)
 .refine .tup (by rw[zD];lia) λx H=>?_;let(p,P,rfl):=List.mem_map.mp H;let(i,I,q):=h.abR P;exact CD (by rw[q.length_eq,ofT,zD];exact rj h.wl)
 .refine .tup (by rw[zD];lia) λx H=>?_;let(p,P,rfl):=List.mem_map.mp H;exact(KU p).mono (yM _) (by decide)
def Ej(a:0<=c)(b:c<=9):Wd [(c,[0,1]),(c,[1,0])] [(c,[1,0]),(c,[0,1])] [(0,0,2),(0,1,2),(1,0,2),(1,1,2)] where
 g1:=by simp
 g4:=by simp
 t1:=by simp
 t4:=by simp
 ga:=by intro p H;simp  at H;rcases H with rfl|rfl<;>exact⟨a,b⟩
 ta:=by intro p H;simp  at H;rcases H with rfl|rfl<;>exact⟨a,b⟩
 gl:=by
  intro i p H
  match i,H with
  |0,H=>injection H with H;subst H;rfl
  |1,H=>injection H with H;subst H;exact(show List.Perm [1,0] _ by decide)
 tl:=by
  intro i p H
  match i,H with
  |0,H=>injection H with H;subst H;exact(show List.Perm [1,0] _ by decide)
  |1,H=>injection H with H;subst H;rfl
 wr:=by simp
 wp:=by decide
 wl:=by simp
def kq(f:Nat->Int):Nat->Γ (Γ Int)->Γ Pl|_,[]=>[]|k,r::rs=>(f k,r)::kq f (k+1) rs
def iF(f:Nat->Int):∀rs k,(kq f k rs).length=rs.length
 |[],k=>rfl
 |r::rs,k=>by rw[kq,zL,zL,iF f rs]
def ip(f:Nat->Int):∀{rs:Γ (Γ Int)}{k i:Nat}{p:Pl},(kq f k rs)[i]?=↑p->∃r,rs[i]?=↑r/\p=(f<|k+i,r)
 |[],k,i,p,h=>by simp[kq]at h
 |r::rs,k,0,p,h=>by simp[kq]at h;exact{r,rfl,h.symm}
 |r::rs,k,i+1,p,h=>by
  simp?[kq,yY]at h;let(y,H,a):=ip f h;exact{y,by simpa using H,by rw[a];congr 2;lia}
def eR:∀{a b:Γ _},sT a b->a.length=b.length
 |[],[],_=>rfl
 |x::a,y::b,h=>by rw[zL,zL,eR h.2]
 |[],_::_,h=>h.elim
 |_::_,[],h=>h.elim
def nS:∀{a b:Γ (Γ Int)}{i:Nat}{r:Γ Int},sT a b->a[i]?=↑r->∃s,b[i]?=↑s/\r.Perm s
 |[],[],i,r,_,h=>by simp at h
 |x::a,y::b,0,r,h,e=>by
  simp?[xQ,yK]at e;subst e;exact{y,rfl,h.1}
 |x::a,y::b,i+1,r,h,e=>by
  simp?[yY]at e;let(s,H,c):=nS h.2 e;exact{s,by simpa using H,c}
 |[],_::_,i,r,h,_=>h.elim
 |_::_,[],i,r,h,_=>h.elim
def lL(W:Γ Wy)(m:Nat):Γ (Γ Int):=(List.range m).map λi=>C5 W ((i:Nat):Int)
def jj(W:Γ Wy)(m:Nat):Γ (Γ Int):=(List.range m).map λi=>ofT W ((i:Nat):Int)
def Ki(m1:1<=m)(m4:m<=4)(S:1<=s)(s4:s<=4)(F:∀k,0<=f k/\f k<=9)(G:∀k,0<=g k/\g k<=9)
  (M:sT U (lL W m))(y:sT WZ (jj W s))(wr:∀w∈W,(0<=w.1/\w.1<m)/\(0<=w.2.1/\w.2.1<s)/\1<=w.2.2/\w.2.2<=9)(d:Cw W)(wl:W.length<=16):Wd (kq f 0 U) (kq g 0 WZ) W:=by
 have l:(kq f 0 U).length=m:=by rw[iF,eR M,lL,zD,zS]
 have L:(kq g 0 WZ).length=s:=by rw[iF,eR y,jj,zD,zS]
 have A:∀{h:Nat->Int}{rs:Γ (Γ Int)},(∀k,0<=h k/\h k<=9)->∀p∈kq h 0 rs,0<=p.1/\p.1<=9:=λ{h rs}c p P=>by
  let(i,I):=List.mem_iff_getElem?.mp P;let(r,_,rfl):=ip h I;exact c _
 refine{by lia,by lia,by lia,by lia,A F,A G,λi p P=>?_,λi p P=>?_,by rw[l,L];exact wr,d,wl}
 .let(r,a,rfl):=ip f P;let(t,H,b):=nS M a;rw[lL,zO]at H;let(k,hk,rfl):=Option.map_eq_some_iff.mp H;have:k=i:=by
   rw[zT]at hk;let(h,e):=hk;rw[List.getElem_range]at e;exact e.symm
  subst this;exact b
 .let(r,a,rfl):=ip g P;let(t,H,b):=nS y a;rw[jj,zO]at H;let(k,hk,rfl):=Option.map_eq_some_iff.mp H;have:k=i:=by
   rw[zT]at hk;let(h,e):=hk;rw[List.getElem_range]at e;exact e.symm
  subst this;exact b
def dw{i:Nat}{fz:Γ Nat}{f:Dl.Env->Δ D}{ρ ρ':ao}{d:D}(H:f (aI ρ)=↑d)(hs:Dl.kg d=false)(a:hand fz 0 ρ=ρ')(v:bD ρ'=aI ρ)(r:j3 d=false\/ρ'=ρ:=by first|exact .inr rfl|exact .inl rfl):Dl.aL i fz f ρ=↑(.nx<|ρ'.set i<|.val d):=by
 rcases r with r|r
 .simp[Dl.aL,H,zA,hs,yO,qN,a,v,zB,r]
 .subst r;simp[Dl.aL,H,zA,hs,yO,qN,a,v,zB,ite_self]
def dy{i:Nat}{fz:Γ Nat}{f:Dl.Env->Δ D}{ρ:ao}{d:D}(H:f (aI ρ)=↑d)(hs:Dl.kg d=true):Dl.aL i fz f ρ=↑(.nx<|ρ.set i<|.val d):=by
 simp[Dl.aL,H,zA,hs,xH]
def Uz(w:Wy):aN (aE w) (.int 0)=↑(.int w.1):=rfl
def Us(w:Wy):aN (aE w) (.int 1)=↑(.int w.2.1):=rfl
def HI(a b c:D):small [a,b,c]=↑[a,b,c]:=rfl
def RO{a b s:Int}(hs:s=1\/s=2\/s=3)(h:a<b):a/s<b/s\/(a/s=b/s/\a%s<b%s):=by grind
def P0{k m s:Int}(hs:s=1\/s=2\/s=3)(M:m=1\/m=2\/m=3)(H:0<=k)(h:k<m*s):(0<=k/s/\k/s<m)/\0<=k%s/\k%s<s:=by
 grind
def lB:ao->Δ Out:=(pL (gU (fB<|f2 MN (cQ cS<|aa (ae 7) ag)<|ae 2)<|fB<|f2 HM (aj 3 aq<|aa (ae 0)<|aa (f2 aS (f2 aS (ae 1)<|fC<|.int 2)<|ae 8)<|aa (fC<|.int 4) ag)<|fC<|.int 0) (jq 7 [0,1,6,8]<|bg<|aa (f2 pH (ae 8)<|ae 6)<|aa (f2 lK (ae 8)<|ae 6)<|aa (f2 aS (fC<|.int 1)<|aj 3 aq<|aa (ae 0)<|aa (f2 aS (f2 aS (ae 1)<|fC<|.int 12)<|ae 8)<|aa (fC<|.int 2) ag) ag) l8)
abbrev st(ns:Γ Int)(a mo m s:Int)(x4 x7 x8 x9 x10 x11:Slot):ao:=[.val<|gM ns,.val<|.int a,.val<|.int mo,.VC,x4,.val<|.int m,.val<|.int s,x7,x8,x9,x10,x11]
def Nf(ns:Γ Int)(a mo s k:Int)(W:Γ Wy):Γ Wy:=if(W.length:Int)<mo/\0<dr ns (a+2+k) 4 then W++[(k/s,k%s,1+dr ns (a+12+k) 2)]else W
def NL{ns:Γ Int}{a mo m s k:Int}{W:Γ Wy}(l:ns.length<=63)(hs:s=1\/s=2\/s=3)(hw:W.length<=9) :
  lB (st ns a mo m s .VC (.own<|W.map aE) (.val<|.int k) .VC .VC .VC)=↑(.nx<|st ns a mo m s .VC (.own<|(Nf ns a mo s k W).map aE) (.val<|.int k) .VC .VC .VC):=by
 have H:0<s:=by lia
 have e:=sx (a+2+k) 4 l (by decide);have b:hand [0,1,6,8] 0 (st ns a mo m s .VC (.own<|W.map aE) (.val<|.int k) .VC .VC .VC)=st ns a mo m s .VC (.own<|W.map aE) (.val _) .VC .VC .VC:=rfl;have A:jq 7 [0,1,6,8] (bg<|aa (f2 pH (ae 8)<|ae 6)<|aa (f2 lK (ae 8)<|ae 6)<|aa (f2 aS (fC<|.int 1)<|aj 3 aq<|aa (ae 0)<|aa (f2 aS (f2 aS (ae 1)<|fC<|.int 12)<|ae 8)<|aa (fC<|.int 2) ag) ag) (st ns a mo m s .VC (.own<|W.map aE) (.val<|.int k) .VC .VC .VC)=↑(.nx<|st ns a mo m s .VC (.own<|(W++[(k/s,k%s,1+dr ns (a+12+k) 2)]).map aE) (.val<|.int k) .VC .VC .VC):=by
  simp[jq,lM,b,bD,zI,yU];simp! [AJ,yO,oN,(j9 {H,by lia}),(gz H),(sx _ 2 l<|by decide),HI,zD,(qY hw (by decide):W.length<sizeLine),yW,yV,qZ];rfl
 by_cases c1:W.length<mo
 .by_cases c2:0<dr ns (a+2+k) 4
  .rw[show Nf ns a mo s k W=W++[(k/s,k%s,1+dr ns _ 2)]from yL {c1,c2},<-A];simp! [lB,m6,gX,zD,c1,c2,jP,lG,e]
  .rw[show Nf ns a mo s k W=W from yN λh=>c2 h.2];simp! [lB,m6,gX,zD,c1,c2,jP,wJ,lG,e,yO]
 .rw[show Nf ns a mo s k W=W from yN λh=>c1 h.1];simp! [lB,m6,gX,zD,c1,wJ,lG,yO]
structure E5(mo s k:Int)(W:List Wy):Prop where
 mem:∀w∈W,∃j:Int,0<=j/\j<k/\w.1=j/s/\w.2.1=j%s/\1<=w.2.2/\w.2.2<=2
 ris:Cw W
 len:(W.length:Int)<=k
 lem:(W.length:Int)<=mo
def E5.next{ns:Γ Int}{a mo s k:Int}{W:Γ Wy}(l:ns.length<=63)(hs:s=1\/s=2\/s=3)(hk:0<=k)(h:E5 mo s k W):E5 mo s (k+1) (Nf ns a mo s k W):=by
 have o:∀w∈W,∃j ,0<=j/\j<k+1/\w.1=j/s/\w.2.1=j%s/\1<=w.2.2/\w.2.2<=2:=λw hw=>by
  let(j,a,b,c):=h.mem w hw;exact{j,a,by lia,c}
 by_cases c:W.length<mo/\0<dr ns (a+2+k) 4
 .rw[show Nf ns a mo s k W=W++[(k/s,k%s,1+dr ns _ 2)]from yL c];have g:=RP (a+12+k) 2 l (by lia);have G:=RW (a+12+k) 2 l (by lia);refine{λw hw=>?_,?_,?_,?_}
  .rcases List.mem_append.mp hw with hw|hw
   .simp_all
   .rw[yJ]at hw;subst hw;exact{k,hk,by lia,rfl,rfl,by grind,by grind}
  .refine List.pairwise_append.mpr {h.ris,List.pairwise_singleton _ _,λa A b H=>?_};rw[yJ]at H;subst H;let(j,_,b,c1,c2,_):=h.mem a A;rw[c1,c2];exact RO hs b
  .have:=h.len;rw[zN,xC];lia
  .rw[zN,xC];lia
 .rw[show Nf ns a mo s k W=W from yN c];exact{o,h.ris,by have:=h.len;lia,h.lem}
def Gj{ns:Γ Int}{a mo m s:Int}(l:ns.length<=63)(hs:s=1\/s=2\/s=3):∀(n k:Nat){W:Γ Wy}{x8:Slot},k+n<=9->E5 mo s k W ->
  ∃W' t,fv (AA 8) lB ((List.range' k n).map λi=>PyData.int (i:Nat)) (st ns a mo m s .VC (.own<|W.map aE) x8 .VC .VC .VC)=↑(.nx<|st ns a mo m s .VC (.own<|W'.map aE) t .VC .VC .VC)/\(n=0/\t=x8\/∃d,t=.val d)/\E5 mo s (k+n:Nat) W'
 |0,k,W,x8,hk,h=>{W,x8,rfl,.inl {rfl,rfl},h}
 |n+1,k,W,x8,hk,h=>by
  have H:E5 mo s (k+1:Nat) (Nf ns a mo s k W):=by
   have:=h.next (a:=a) l hs<|by lia
   grind
  let(W',t,e,q,b):=Gj l hs n _ (x8:=.val _) (by lia) H;refine{W',t,?_,.inr<|q.elim (λz=>{_,z.2}) id,by grind};have g:∀d,AA 8 (st ns a mo m s .VC (.own<|W.map aE) x8 .VC .VC .VC) d=↑(st ns a mo m s _ _ _ _ _ _):=λd=>rfl;rw[vF,zI,fv,g,zA,NL l hs (by have:=h.len;lia)];exact e
def UY(W:Γ Wy)(i:Int)(hw:W.length<=20):ax 1 [0] aar (fG 0) (fB<|f2 bV aas<|ae 1) aat [↑(.int i),↑(.list<|W.map aE)]=↑((C5 W i).map PyData.int):=by
 rw[ml (p:=λd=>decide (lQ ((cR d).getD 0 .none)=i)) (h:=λd=>(cR d).getD 1 .none) rfl (by grind) (λd H=>?_) λd H _=>?_]
 .rw[kF,zM,C5,zM];rfl
 .let(w,_,rfl):=List.mem_map.mp H;rfl
 .let(w,_,rfl):=List.mem_map.mp H;rfl
def Vn(W:Γ Wy)(i:Int)(hw:W.length<=20):ax 1 [0] aar (fG 0) (fB<|f2 bV aat<|ae 1) aas [↑(.int i),↑(.list<|W.map aE)]=↑((ofT W i).map PyData.int):=by
 rw[ml (p:=λd=>decide (lQ ((cR d).getD 1 .none)=i)) (h:=λd=>(cR d).getD 0 .none) rfl (by grind) (λd H=>?_) λd H _=>?_]
 .rw[kF,zM,ofT,zM];rfl
 .let(w,_,rfl):=List.mem_map.mp H;rfl
 .let(w,_,rfl):=List.mem_map.mp H;rfl
def Dx{m:Nat}(H:m<=1000):FA m=true:=by
 unfold FA
 grind
def yt{j:Int}(h:FA j=true):lV [.int j]=↑((List.range j.toNat).map λi=>PyData.int (i:Nat)):=by
 rw[lV,yL h]
def xl{fi:Dl.Env->Δ D}{ρ:Dl.Env}(m:Nat)(H:m<=1000)(h:fi ρ=↑(.int m)):dO (aa fi ag) ρ=↑((List.range m).map λi=>PyData.int (i:Nat)):=by
 have e:dO _ ρ=(aa fi ag ρ).bind lV:=rfl;rw[e,(show aa fi ag ρ=↑[.int m]by simp[aa,ag,h,zA,zB]),zA,yt<|Dx H,yG]
def Lf{W:Γ Wy}{m:Nat}{ρ:Dl.Env}(hw:W.length<=20)(M:m<=1000)(H:ae i5 ρ=↑(.int (m:Nat)))(a:(ρ[i7]?).getD none=↑(.list<|W.map aE)) :
  ax 1 [i7] (dO<|aa (ae i5) ag) (fG 0) (λ_=>↑true) (fP<|ax 1 [0] aar (fG 0) (fB<|f2 bV aas<|ae 1) aat) ρ=↑((lL W m).map eD):=by
 rw[cH (h:=λd=>eD<|C5 W<|lQ d) (xl m M H) (by rw[zD,zS];lia) λd D=>?_]
 .rw[lL,zM,zM];rfl
 .let(i,_,rfl):=List.mem_map.mp D;simp?[zI,yU,a,fP,UY W _ hw,zB,eD,lQ]
def Ly{W:Γ Wy}{m:Nat}{ρ:Dl.Env}(hw:W.length<=20)(M:m<=1000)(H:ae i5 ρ=↑(.int (m:Nat)))(a:(ρ[i7]?).getD none=↑(.list<|W.map aE)) :
  ax 1 [i7] (dO<|aa (ae i5) ag) (fG 0) (λ_=>↑true) (fP<|ax 1 [0] aar (fG 0) (fB<|f2 bV aat<|ae 1) aas) ρ=↑((jj W m).map eD):=by
 rw[cH (h:=λd=>eD<|ofT W<|lQ d) (xl m M H) (by rw[zD,zS];lia) λd D=>?_]
 .rw[jj,zM,zM];rfl
 .let(i,_,rfl):=List.mem_map.mp D;simp?[zI,yU,a,fP,Vn W _ hw,zB,eD,lQ]
def M9(c:Int):Dl.Env->Δ D:=(bg<|aa (aj 3 aq<|aa (ae 2)<|aa (f2 aS (f2 aS (ae 3)<|fC<|.int c)<|ae 0)<|aa (fC<|.int 4) ag)<|aa (ae 1) ag)
def Qo{ns:Γ Int}{a:Int}(c:Int)(l:ns.length<=63):∀(v:Γ (Γ Int))k,d9 (jx 0 1) (λ_=>↑true) (M9 c) [none,none,↑(gM ns),↑(.int a)] (b8 k<|v.map af)=↑((kq (λk=>dr ns (a+c+k) 4) k v).map bA)
 |[],k=>rfl
 |r::v,k=>by
  have g:jx 0 1 [none,none,↑(gM ns),↑(.int a)] (.tuple [.int k,af r])=↑_:=rfl;have e:M9 c [↑(.int k),↑(af r),↑(gM ns),↑(.int a)]=↑(bA (dr ns (a+c+k) 4,r)):=by
   simp! [M9,sx _ 4 l<|by lia,Iw,bA]
  rw[zI,b8,d9,g];simp[zA,xH,e,(Qo (a:=a) c l v<|k+1),zB,kq,zI]
def zi{ns:Γ Int}{a c:Int}{i:Nat}{ρ:Dl.Env}{v:Γ (Γ Int)}(l:ns.length<=63)(m:v.length<=1000)(d:ae i ρ=↑(.list<|v.map af))(H:(ρ[0]?).getD none=↑(gM ns))(b:(ρ[1]?).getD none=↑(.int a)) :
  cQ cg (aa (fP<|ax 2 [0,1] (cW<|aa (ae i) ag) (jx 0 1) (λ_=>↑true)<|M9 c) ag) ρ=↑(.tuple<|(kq (λk=>dr ns (a+c+k) 4) 0 v).map bA):=by
 have I:cW (aa (ae i) ag) ρ=↑(b8 0<|v.map af):=by
  simp[cW,aa,ag,d,zA,zB,g8,oneOf,ix]
 have hc:ax 2 [0,1] (cW<|aa (ae i) ag) (jx 0 1) (λ_=>↑true) (M9 c) ρ=↑((kq (λk=>dr ns (a+c+k) 4) 0 v).map bA):=by
  simp[ax,I,zA,fQ,zI,yU,H,b,List.replicate,xF,xO,Qo c l];exact bO (by rw[zD,iF];lia)
 simp[cQ,aa,ag,fP,hc,zB,zA,cg,g8,oneOf,ix]
def au{g1 g2:ao->Δ Out}{ρ ρ':ao}(h:g1 ρ=↑(.nx ρ')):aH g1 g2 ρ=g2 ρ':=by
 simp[aH,h,zA]
def bq{g:ao->Δ Out}{n:Nat}{args:Γ D}{d:D}(h:g (args.map Slot.val++List.replicate (n-args.length) .VC)=↑(.rt d)):bF g n args=↑d:=by
 simp[bF,h,zB]
def ki{g:D->D->Δ D}{fa fb:Dl.Env->Δ D}{ρ:Dl.Env}{a b:D}(H:fa ρ=↑a)(B:fb ρ=↑b):f2 g fa fb ρ=g a b:=by
 simp[f2,H,B,zA]
def Ny{ns:Γ Int}{a mo:Int}{m s:Nat}(m1:m<=3)(S:s<=3):f2 hV (ae 5) (ae 6) (bD<|st ns a mo m s .VC (.own []) .VC .VC .VC .VC)=↑(.int (m*s:Nat)):=by
 rw[ki rfl rfl,(fH (nX<|by lia):Dl.hV (.int m) (.int s)=↑_),Int.natCast_mul]
def PJ{ns:Γ Int}{a mo:Int}{m s:Nat}(m1:m<=3)(b:s<=3)(S:m*s<=9){W:Γ Wy}{t:Slot}(e: fv (AA 8) lB ((List.range' 0<|m*s).map λi=>PyData.int (i:Nat)) (st ns a mo m s .VC (.own<|[].map aE) .VC .VC .VC .VC)=↑(.nx<|st ns a mo m s .VC (.own<|W.map aE) t .VC .VC .VC)):iz [5,6] (dO<|aa (f2 hV (ae 5)<|ae 6) ag) (AA 8) lB (st ns a mo m s .VC (.own []) .VC .VC .VC .VC)=↑(.nx<|st ns a mo m s .VC (.own<|W.map aE) t .VC .VC .VC):=by
 have H:hand [5,6] 0 (st ns a mo m s _ _ _ _ _ _)=st ns a mo m s .VC (.own []) .VC .VC .VC .VC:=rfl;have r:=xl (ρ:=bD<|st ns a mo m s _ _ _ _ _ _) _ (by lia)<|Ny m1 b;rw[List.range_eq_range']at r;rw[yU]at e;simp[iz,H,r,zA];lia
structure Ti(mo:Int)(G T:List Pl)(W:List Wy):Prop where
 g3:G.length<=3
 t3:T.length<=3
 w2:∀w∈W,w.2.2<=2
 ga:∀p∈G,p.1<=3
 ta:∀p∈T,p.1<=3
 wm:(W.length:Int)<=mo
def xq{ns:Γ Int}{a mo:Int}(l:ns.length<=63)(o:3<mo)(c:dr ns (a+64) 4=0):∃G T W,du [gM ns,.int a,.int mo]=↑(aw G T W)/\Wd G T W/\Ti mo G T W:=by
 have e:=dQ (a+65) 2 l (by lia);refine{_,_,_,?_,Ej (c:=1+dr ns (a+65) 2) (by lia)<|by lia,by simp,by simp,by decide,λp H=>?_,λp H=>?_,by grind};rotate_left
 .simp  at H;rcases H with rfl|rfl<;>(simp only;lia)
 .simp  at H;rcases H with rfl|rfl<;>(simp only;lia)
 have s:Dl.aL 3 [0,1] (f2 aS (fC<|.int 1)<|aj 3 aq<|aa (ae 0)<|aa (f2 aS (ae 1)<|fC<|.int 65)<|aa (fC<|.int 2) ag) [.val<|gM ns,.val<|.int a,.val<|.int mo,.VC,.VC,.VC,.VC,.VC,.VC,.VC,.VC,.VC]=↑(.nx [.val _,.val _,.val _,.val<|.int<|1+dr ns (a+65) 2,.VC,.VC,.VC,.VC,.VC,.VC,.VC,.VC]):=
  dy (by simp! [e.1]) rfl
 generalize 1+dr ns _ 2=x at *;simp! [du,fU,gX,(sx (a+64) 4 l<|by lia),c,dh,jP,lG,yA o,s,(dw (by rfl) rfl rfl rfl),Iw,HI,λ_ _ _ _=>rfl];rfl
def xt{ns:Γ Int}{a mo:Int}(l:ns.length<=63)(o:0<=mo)(c:¬(3<mo/\dr ns (a+64) 4=0)):∃G T W,du [gM ns,.int a,.int mo]=↑(aw G T W)/\Wd G T W/\Ti mo G T W:=by
 have E:=sx (ns:=ns) (a+64) 4 l (by lia);have O:=dQ (ns:=ns) a 3 l (by lia);have Q:=dQ (ns:=ns) (a+1) 3 l (by lia);let(m,Y):=vH (show 0<=1+dr ns a 3 by lia);let(s,hs):=vH (show 0<=1+dr ns (a+1) 3 by lia);have m1:1<=m/\m<=3:=by lia
 have S:1<=s/\s<=3:=by lia
 have X:(s:Int)=1\/(s:Int)=2\/(s:Int)=3:=by lia
 have J:(m:Int)=1\/(m:Int)=2\/(m:Int)=3:=by lia
 have t5:Dl.aL 5 [0,1] (f2 aS (fC<|.int 1)<|aj 3 aq<|aa (ae 0)<|aa (ae 1)<|aa (fC<|.int 3) ag) [.val<|gM ns,.val<|.int a,.val<|.int mo,.VC,.VC,.VC,.VC,.VC,.VC,.VC,.VC,.VC]=↑(.nx [.val<|gM ns,.val<|.int a,.val<|.int mo,.VC,.VC,.val<|.int (m:Nat),.VC,.VC,.VC,.VC,.VC,.VC]):=
  dy (d:=.int (m:Nat)) (by simp! [O.1,Y]) rfl
 have t6:Dl.aL 6 [0,1] (f2 aS (fC<|.int 1)<|aj 3 aq<|aa (ae 0)<|aa (f2 aS (ae 1)<|fC<|.int 1)<|aa (fC<|.int 3) ag) [.val<|gM ns,.val<|.int a,.val<|.int mo,.VC,.VC,.val<|.int (m:Nat),.VC,.VC,.VC,.VC,.VC,.VC]=↑(.nx<|st ns a mo m s .VC .VC .VC .VC .VC .VC):=
  dy (d:=.int (s:Nat)) (by simp! [Q.1,hs]) rfl
 have t7:bb 7 [] (gO ag) (st ns a mo m s .VC .VC .VC .VC .VC .VC)=↑(.nx<|st ns a mo m s .VC (.own []) .VC .VC .VC .VC):=by
  rfl
 have u:m*s<=9:=vT m1.2 S.2;have L:1<=m*s:=vT m1.1 S.1;let(W,t8,e,U,I):=Gj (ns:=ns) (a:=a) (m:=m) (s:=s) l X (m*s) 0 (W:=[]) (x8:=.VC) (by lia) (mo:=mo) {λw hw=>(by grind),List.Pairwise.nil,by simp,o};rw[jC]at I;obtain⟨D,rfl⟩:∃d,t8=.val d:=U.elim (λz=>by lia) id;have K:W.length<=9:=by have:=I.len;lia
 have F:=PJ m1.2 S.2 u e;unfold lB at F;have H:W.length<=20:=by lia
 have wr:∀w∈W,(0<=w.1/\w.1<m)/\(0<=w.2.1/\w.2.1<s)/\1<=w.2.2/\w.2.2<=9:=λw hw=>by
  let(j,j0,jk,N,b,c1,c2):=I.mem w hw;have:=P0 X J j0 (by rw[<-Int.natCast_mul];exact jk);rw[N,b];exact{this.1,this.2,c1,by lia}
 have C:∀r∈lL W m,r.length<=1000:=λr R=>by
  let(i,_,rfl):=List.mem_map.mp R;rw[C5,zD]
  grind
 have A:∀r∈jj W s,r.length<=1000:=λr R=>by
  let(i,_,rfl):=List.mem_map.mp R;rw[ofT,zD]
  grind
 let(v,om,M):=AC (ns:=ns) (a:=a+24) (rows:=lL W m) l C (by rw[lL,zD,zS];lia);let(Z,oy,y):=AC (ns:=ns) (a:=a+40) (rows:=jj W s) l A (by rw[jj,zD,zS];lia);have lm:v.length<=1000:=by rw[eR M,lL,zD,zS];lia
 have ly:Z.length<=1000:=by rw[eR y,jj,zD,zS];lia
 have t9:Dl.aL 9 [0,1,5,7] (aj 3 bW<|aa (ae 0)<|aa (f2 aS (ae 1)<|fC<|.int 24)<|aa (fP<|ax 1 [7] (dO<|aa (ae 5) ag) (fG 0) (λ_=>↑true)<|fP<|ax 1 [0] (bw<|ae 1) (fG 0) (fB<|f2 bV (f2 aN (ae 0)<|fC<|.int 0)<|ae 1)<|f2 aN (ae 0)<|fC<|.int 1) ag) (st ns a mo m s .VC (.own<|W.map aE) (.val D) .VC .VC .VC)=↑(.nx<|st ns a mo m s .VC (.val<|.list<|W.map aE) (.val D) (.val<|.list<|v.map af) .VC .VC):=by
  refine(dw ?_ rfl rfl ?_).trans rfl
  .simp?[aj,aa,ag,fP,(Lf (ρ:=aI<|st ns a mo m s _ (.own _) _ _ _ _) (i5:=5) (i7:=7) H (by lia) rfl rfl),zB,zA];simp! [om]
  rfl
 have x:Dl.aL 10 [0,1,6,7] (aj 3 bW<|aa (ae 0)<|aa (f2 aS (ae 1)<|fC<|.int 40)<|aa (fP<|ax 1 [7] (dO<|aa (ae 6) ag) (fG 0) (λ_=>↑true)<|fP<|ax 1 [0] (bw<|ae 1) (fG 0) (fB<|f2 bV (f2 aN (ae 0)<|fC<|.int 1)<|ae 1)<|f2 aN (ae 0)<|fC<|.int 0) ag) (st ns a mo m s .VC (.val<|.list<|W.map aE) (.val D) (.val<|.list<|v.map af) .VC .VC)=↑(.nx<|st ns a mo m s .VC (.val<|.list<|W.map aE) (.val D) (.val<|.list<|v.map af) (.val<|.list<|Z.map af) .VC):=by
  refine(dw (ρ':=st ns a mo m s .VC (.val<|.list<|W.map aE) (.val D) (.val<|.list<|v.map af) .VC .VC) (d:=.list<|Z.map af) ?_ rfl ?_ ?_).trans rfl
  .simp?[aj,aa,ag,fP,(Ly (ρ:=aI<|st ns a mo m s _ (.val _) _ _ _ _) (i5:=6) (i7:=7) H (by lia) rfl rfl),zB,zA];simp! [oy]
  .rfl
  .simp?[st,bD,aI,zI,yU];rfl
 have t:Dl.aL 11 [0,1,8,9] (cQ cg<|aa (fP<|ax 2 [0,1] (cW<|aa (ae 9) ag) (jx 0 1) (λ_=>↑true)<|M9 56) ag) (st ns a mo m s .VC (.val<|.list<|W.map aE) (.val D) (.val<|.list<|v.map af) (.val<|.list<|Z.map af) .VC)=↑(.nx<|st ns a mo m s .VC (.val<|.list<|W.map aE) (.val D) (.val<|.list<|v.map af) (.val<|.list<|Z.map af)<|.val<|.tuple<|(kq (λk=>dr ns (a+56+k) 4) 0 v).map bA):=by
  refine(dw (zi l lm rfl rfl rfl) rfl rfl ?_).trans rfl;rfl
 have B:∀G ,Dl.aL 4 [0,1,8,10] (cQ cg<|aa (fP<|ax 2 _ (cW<|aa (ae 10) ag) _ _<|M9 60) ag) (st ns a mo m s .VC (.val<|.list<|W.map aE) (.val D) (.val<|.list<|v.map af) (.val _)<|.val G)=↑_:=λG=>by
  refine(dw (zi l ly rfl rfl rfl) rfl rfl ?_).trans rfl;rfl
 refine{_,_,W,?_,Ki (f:=λk=>dr ns (a+56+k) 4) (g:=λk=>dr ns (a+60+k) 4) m1.1 (by lia) S.1 (by lia) (λk=>?_) (λk=>?_) M y wr I.ris<|by lia,by rw[iF,eR M,lL,zD,zS];lia,by rw[iF,eR y,jj,zD,zS];lia,λw hw=>(by let(j,_,_,_,_,_,z):=I.mem w hw;lia),λp P=>?_,λp P=>?_,I.lem}
 .unfold M9 at t B;have tA:∀g,pL (gU (fB<|f2 HM (ae 2)<|fC<|.int 3)<|fB<|f2 bV (aj 3 aq<|aa (ae 0)<|aa (f2 aS (ae 1)<|fC<|.int 64)<|aa (fC<|.int 4) ag)<|fC<|.int 0) g l8 [.val<|gM ns,.val<|.int a,.val<|.int mo,.VC,.VC,.VC,.VC,.VC,.VC,.VC,.VC,.VC]=↑(.nx [.val<|gM ns,.val<|.int a,.val<|.int mo,.VC,.VC,.VC,.VC,.VC,.VC,.VC,.VC,.VC]):=λg=>by
   by_cases c1:3<mo
   .have c2:¬dr ns _ 4=0:=λz=>c {c1,z};simp! [gX,E,c1,c2,dh,wJ,jP,lG,yO]
   .simp! [gX,c1,wJ,lG,yO]
  apply bq;show fU [.val _,.val _,.val _,.VC,.VC,.VC,.VC,.VC,.VC,.VC,.VC,.VC]=_;rw[fU,au<|tA _,au t5,au t6,au t7,au F,au t9,au x,au t,au<|B _];rfl
 .have q:=dQ (a+56+k) 4 l (by decide);exact{q.2.1,by lia}
 .have q:=dQ (a+60+k) 4 l (by decide);exact{q.2.1,by lia}
 .let(i,n):=List.getElem?_of_mem P;let(r,_,rfl):=ip _ n;have q:=dQ (a+56+(0+i:Nat)) 4 l (by decide);lia
 .let(i,n):=List.getElem?_of_mem P;let(r,_,rfl):=ip _ n;have q:=dQ (a+60+(0+i:Nat)) 4 l (by decide);lia
def Aa{ns:Γ Int}{a mo:Int}(l:ns.length<=63)(H:0<=mo):∃G T W,du [gM ns,.int a,.int mo]=↑(aw G T W)/\Wd G T W/\Ti mo G T W:=by
 by_cases c:3<mo/\dr ns (a+64) 4=0
 .exact xq l c.1 c.2
 .exact xt l H c
def M8(h:Cw W):(W.map λw=>[w.1,w.2.1]).Pairwise λa b=>Dl.lexLt a b=true:=List.pairwise_map.mpr<|h.imp Ue
def HW(h:Cw W):(W.map λw=>[w.1,w.2.1]).Nodup:=(M8 h).imp λ{a b}c e=>by
 rw[e,dP]at c
 grind
def HX(h:Cw W)(n:m.Nodup)(H:∀r,r∈W.map (λw=>[w.1,w.2.1])↔r∈m):W.map (λw=>[w.1,w.2.1])=lN m:=
 wg ((List.perm_ext_iff_of_nodup (HW h) n).mpr H) ((M8 h).imp Rc)
def Wd.wok(h:Wd G T W):SD (aw G T W)=true:=by
 have k:(W.map aE).map gx=W.map λw=>[w.1,w.2.1]:=by rw[zM];rfl
 have g:∀i j:Int,[i,j]∈W.map (λw=>[w.1,w.2.1])↔[i,j]∈nA 0 (G.map bA):=λi j=>by
  rw[qh];constructor
  .intro M;let(w,hw,e):=List.mem_map.mp M;simp?[kU,and_true]at e;have R:=(h.wr w hw).1;obtain⟨p,H⟩:∃p,G[i.toNat]?=↑p:={G[i.toNat]'(by lia),zK<|by lia}
   refine{i.toNat,bA p,by rw[zO,H];rfl,by lia,?_};rw[gg,(h.gl _ p H).mem_iff,v7,show((i.toNat:Nat):Int)=i by lia];exact M
  .rintro⟨m,p,H,rfl,J⟩;rw[zO]at H;let(c,P,rfl):=Option.map_eq_some_iff.mp H;rw[gg,(h.gl m c P).mem_iff,v7]at J
   rwa [jC]
 have t:∀i j:Int,[i,j]∈W.map (λw=>[w.1,w.2.1])↔[j,i]∈nA 0 (T.map bA):=λi j=>by
  rw[qh];constructor
  .intro M;let(w,hw,e):=List.mem_map.mp M;simp?[kU,and_true]at e;have R:=(h.wr w hw).2.1;obtain⟨p,H⟩:∃p,T[j.toNat]?=↑p:={T[j.toNat]'(by lia),zK<|by lia}
   refine{j.toNat,bA p,by rw[zO,H];rfl,by lia,?_};rw[gg,(h.tl _ p H).mem_iff,wu,show((j.toNat:Nat):Int)=j by lia];exact M
  .rintro⟨m,p,H,rfl,J⟩;rw[zO]at H;let(c,P,rfl):=Option.map_eq_some_iff.mp H;rw[gg,(h.tl m c P).mem_iff,wu]at J
   rwa [jC]
 have two:∀{r:Γ Int},r∈W.map (λw=>[w.1,w.2.1])->∃i j,r=[i,j]:=λR=>by
  let(w,_,rfl):=List.mem_map.mp R;exact{_,_,rfl}
 have n:∀(L:Γ Pl),(∀p∈L,p.2.Nodup)->(nA 0<|L.map bA).Nodup:=λL l=>ud λp H=>by
  let(c,P,rfl):=List.mem_map.mp H;rw[gg];exact l c P
 have E:W.map (λw=>[w.1,w.2.1])=lN (nA 0<|G.map bA):=HX h.wp (n G λp H=>by
   let(i,I,e):=qP H;exact(h.gl i p<|by rw[zK I,e]).nodup_iff.mpr<|nN h.wp i) λr=>⟨λR=>by
   let(i,j,rfl):=two R;exact(g i j).mp R,λR=>by
   let(i,j,rfl):=lD r R;exact(g i j).mpr R⟩
 have d:W.map (λw=>[w.1,w.2.1])=lN ((nA 0<|T.map bA).map List.reverse):=HX h.wp (by
   exact List.pairwise_map.mpr (List.Pairwise.imp (λ{a b}Z e=>Z<|List.reverse_inj.mp e) (n T λp H=>by
    let(i,I,e):=qP H;exact(h.tl i p<|by rw[zK I,e]).nodup_iff.mpr<|oO h.wp i))) λr=>⟨λR=>by
   let(i,j,rfl):=two R;exact List.mem_map.mpr {[j,i],(t i j).mp R,rfl},λR=>by
   let(q,Y,rfl):=List.mem_map.mp R;let(i,j,rfl):=lD q Y;exact(t j i).mpr Y⟩
 have hw:(W.map aE).all (j1 G.length T.length)=true:=by
  rw[xG];intro x X;let(w,hw,rfl):=List.mem_map.mp X;exact Eo<|h.wr w hw
 have s:∀{L:Γ Pl},1<=L.length->L.length<=4->nZ (.tuple<|L.map bA)=true:=λ{L}a b=>by
  simp?[nZ,long,zD,zF,zJ];lia
 have f:long 3 3 (aw G T W)=true:=rfl;have o:=h.gok;have ht:=h.tok;unfold SD A5;rw[f,jK];simp?[aw,cR,vY,vZ,k,<-E,<-d,jP,Bool.and_true,jd,s h.g1 h.g4,s h.t1 h.t4,zD,o,ht,hw,PP]
def sI(b:θ):Int:=if b then 1 else 0
def bK(b:θ)(w:Wy):Int:=if b then w.2.1 else w.1
def dA(b:θ)(w:Wy):Int:=bK (!b) w
def aX(b:θ)(G T:Γ Pl):Γ Pl:=if b then T else G
def eC(b:θ)(G T:Γ Pl)(W:Γ Wy):aN (aw G T W) (.int<|sI b)=↑(.tuple<|(aX b G T).map bA):=by cases b<;>rfl
def dI(G T:Γ Pl)(W:Γ Wy):aN (aw G T W) (.int 2)=↑(.tuple<|W.map aE):=rfl
def we(b:θ)(w:Wy):aN (aE w) (.int<|sI b)=↑(.int<|bK b w):=by cases b<;>rfl
def Mz(b:θ)(w:Wy):aN (aE w) (.int<|1-sI b)=↑(.int<|dA b w):=by cases b<;>rfl
def Mf(w:Wy):aN (aE w) (.int 2)=↑(.int w.2.2):=rfl
def JV(p:Pl):aN (bA p) (.int 0)=↑(.int p.1):=rfl
def K5(p:Pl):aN (bA p) (.int 1)=↑(af p.2):=rfl
def se(h:ds[i]?=↑d):aN (.tuple ds) (.int (i:Nat))=↑d:=by
 exact xj h
def N3(h:ds[i]?=↑d):aN (.list ds) (.int (i:Nat))=↑d:=by
 exact xj h
def ke{l:Γ α}(h:l[i]?=↑x):aN (.tuple<|l.map f) (.int (i:Nat))=↑(f x):=se (by rw[zO,h];rfl)
def Js{l:Γ α}(h:l[i]?=↑x):aN (.list<|l.map f) (.int (i:Nat))=↑(f x):=N3 (by rw[zO,h];rfl)
def R6(b:θ)(W:Γ Wy)(p:Int):Γ Int:=(W.filter λw=>decide (bK b w=p)).map<|dA b
def Wd.lik{G T:Γ Pl}{W:Γ Wy}(h:Wd G T W){b:θ}{i:Nat}{p:Pl}(e:(aX b G T)[i]?=↑p):p.2.Perm (R6 b W i):=by
 cases b
 .exact h.gl i p e
 .exact h.tl i p e
def Wd.nod(h:Wd G T W)(b:θ)(i:Int):(R6 b W i).Nodup:=by
 cases b
 .exact nN h.wp i
 .exact oO h.wp i
def su{tt:Dl.Env->Δ θ}{te:Dl.Env->Δ D}{r:Γ (Δ D)}{p:Nat->D->θ}{h:Nat->D->D}:∀{ds:Γ D}{k:Nat},
  (∀i d,ds[i]?=↑d->tt (↑(.int ((k+i:Nat):Int))::↑d::r)=↑(p (k+i) d)/\(p (k+i) d=true->te (↑(.int ((k+i:Nat):Int))::↑d::r)=↑(h (k+i) d))) ->
  d9 (jx 0 1) tt te (none::none::r) (b8 k ds)=↑(((ds.zipIdx k).filter λq=>p q.2 q.1).map λq=>h q.2 q.1)
 |[],k,_=>rfl
 |d::ds,k,c=>by
  let(a,b):=c 0 d rfl;have I:=su (ds:=ds) (k:=k+1) λi x X=>by
   have:=c (i+1) x (by simpa using X);rw[show k+1+i=k+(i+1)by lia];exact this
  have g:jx 0 1 (none::none::r) (.tuple [.int ((k:Nat):Int),d])=↑(↑(.int ((k:Nat):Int))::↑d::r):=by
   simp?[jx,isFree,xQ,yY,qG,wF,jO,xH,yV,yW]
  rw[b8,d9,g,List.zipIdx_cons];simp?[Nat.add_zero]at a b;simp?[zA,a];cases H:p k d with
  |true=>simp[b H,I,H]
  |false=>simp[I,H]
def Ff{fi:Dl.Env->Δ _}{tt:Dl.Env->Δ θ}{te:Dl.Env->Δ D}{ρ:Dl.Env}{ds:Γ D}{p:Nat->D->θ}{h:Nat->D->D}(Y:fi ρ=↑(b8 0 ds))(l:ds.length<=1000)
  (H:∀i d,ds[i]?=↑d->tt (↑(.int (i:Nat))::↑d::cs.map λj=>(ρ[j]?).getD none)=↑(p i d)/\(p i d=true->te (↑(.int i)::↑d::cs.map λj=>(ρ[j]?).getD none)=↑(h i d))) :
  ax 2 cs fi (jx 0 1) tt te ρ=↑((ds.zipIdx.filter λq=>p q.2 q.1).map λq=>h q.2 q.1):=by
 have:=su (k:=0) (by simpa using H);simp[ax,Y,zA,fQ,List.replicate,xF,xO,this];apply bO;rw[zD];apply yD<|xP _ _;rw[List.length_zipIdx];lia
def lP(f:α->Int):∀{l m:Γ α},l.Perm m->(l.Pairwise λa b=>f a<=f b)->(m.Pairwise λa b=>f a<f b)->l=m
 |l,[],p,_,_=>p.eq_nil
 |[],x::m,p,_,_=>absurd p.symm.eq_nil (by simp)
 |y::l,x::m,p,H,c=>by
  rw[List.pairwise_cons]at H c;have e:y=x:=by
   have X:x∈y::l:=p.mem_iff.mpr zE;rcases List.mem_cons.mp X with z|X
   .exact z.symm
   .have Y:y∈x::m:=p.mem_iff.mp zE;rcases List.mem_cons.mp Y with z|Y
    .exact z
    .have:=H.1 x X;have:=c.1 y Y;lia
  subst e;rw[lP f ((List.perm_cons y).mp p) H.2 c.2]
def BP(z:Nat->Int)(l:Γ α)(d:α)(f:α->Int)(h:∀i,i<l.length->z i=f (l.getD i d)):(AL z l d).Pairwise λa b=>f a<=f b:=by
 unfold AL;split
 .rename_i L
  match l,L with
  |[],_=>simp
  |[a],_=>simp
 .let(p,s):=SP.iY (n:=l.length) (by lia);rw[jD]at s ⊢;refine s.imp_of_mem λ{i j}H J N=>?_;rw[<-h i (by have:=p.mem_iff.mp H;simpa using this),<-h j (by have:=p.mem_iff.mp J;simpa using this)];exact N
def aZ(W:Γ Wy)(i:Nat):Wy:=W.getD i (0,0,0)
def iT(hk:k<W.length):W[k]=aZ W k:=by simp[aZ,hk]
def iU(hk:k<W.length):W[k]?=↑(aZ W k):=by rw[zK hk,iT hk]
def own(b:θ)(W:Γ Wy)(p:Int):Γ Nat:=(List.range W.length).filter λi=>decide (bK b (aZ W i)=p)
def LA(b:θ)(W:Γ Wy)(p o:Int):Nat:=W.findIdx λw=>decide (bK b w=p)&&decide (dA b w=o)
def mD(b:θ)(W:Γ Wy)(p:Int)(L:Γ Int):Γ Nat:=L.map<|LA b W p
def fY:i∈own b W p↔i<W.length/\bK b (aZ W i)=p:=by simp[own]
def map_range(d:α)(f:α->β)(l:Γ α):(List.range l.length).map (λi=>f<|l.getD i d)=l.map f:=by
 apply jG
 .simp
 .intro i a H;have:=by simpa using H
  simp[this]
def xk(d:α)(q:α->θ):∀(l:Γ α),((List.range l.length).filter λi=>q<|l.getD i d).map (λi=>l.getD i d)=l.filter q:=by
 intro l;have e:l=(List.range l.length).map λi=>l.getD i d:=by
  have:=map_range d (λx=>x) l;simp_all
 conv=>rhs;rw[e]
 rw[kF];rfl
def vd(b:θ)(W:Γ Wy)(p:Int):(own b W p).map (λi=>dA b<|aZ W i)=R6 b W p:=by
 unfold own R6 aZ;rw[<-xk _ _ W,zM];rfl
def Cv(h:Cw W)(hi:i<W.length)(H:j<W.length)(a:(aZ W i).1=(aZ W j).1)(b:(aZ W i).2.1=(aZ W j).2.1):i=j:=by
 have e:∀k,k<W.length->W[k]?=↑(aZ W k):=λk hk=>by simp[aZ,hk]
 rcases Nat.lt_trichotomy i j with z|z|z
 .have:=List.pairwise_iff_getElem.mp h i j hi H z
  grind
 .lia
 .have:=List.pairwise_iff_getElem.mp h j i H hi z
  grind
def AI(h:Cw W)(hi:i<W.length)(J:j<W.length)(H:bK b (aZ W i)=bK b (aZ W j))(a:dA b (aZ W i)=dA b (aZ W j)):i=j:=by
 cases b
 .exact Cv h hi J H a
 .exact Cv h hi J a H
def FF(h:Cw W)(hi:i∈own b W p):LA b W p (dA b<|aZ W i)=i:=by
 let(l,H):=fY.mp hi;have hw:W[i]=aZ W i:=by simp[aZ,l]
 unfold LA;have e:W.findIdx (λw=>decide (bK b w=p)&&decide (dA b w=dA b (aZ W i)))<W.length:=by
  apply List.findIdx_lt_length_of_exists;exact{W[i],qA _,by rw[hw];simp[H]}
 have q:=List.findIdx_getElem (w:=e);rw[zF,zJ,zJ,iT e]at q;exact AI h e l (by rw[q.1,H]) q.2
def iE{G T:Γ Pl}{W:Γ Wy}(h:Wd G T W){b:θ}{i:Nat}(e:(aX b G T)[i]?=↑p):(mD b W i p.2).Perm (own b W i):=by
 have H:=(h.lik e).map<|LA b W i;rw[<-vd b W i,zM]at H;have E:(own b W i).map (LA b W i ∘ λj=>dA b<|aZ W j)=own b W i:=by
  conv=>rhs;rw[<-List.map_id<|own b W i]
  exact yH λj=>FF h.wp
 rwa[E]at H
def Kk{G T:Γ Pl}{W:Γ Wy}(h:Wd G T W){b:θ}{i:Nat}{p:Pl}(e:(aX b G T)[i]?=↑p){o:Int}(O:o∈p.2):LA b W i o<W.length/\bK b (aZ W<|LA b W i o)=i/\dA b (aZ W<|LA b W i o)=o:=by
 have m:=(h.lik e).mem_iff.mp O;rw[<-vd b W i]at m;let(j,H,rfl):=List.mem_map.mp m;rw[FF h.wp H];let(a,c):=fY.mp H;exact{a,c,rfl}
def kD(b:θ)(W:Γ Wy)(L:Γ Int)(d:D):Int:=(L.findIdx λo=>decide (o=dA b (aZ W (lQ d).toNat)):Nat)
def uK:∀{L:Γ Int}{x:Int},x∈L->zg x L=↑(L.findIdx λo=>decide (o=x))
 |[],x,h=>by grind
 |o::L,x,h=>by
  unfold zg;by_cases e:o=x
  .simp[e,List.findIdx_cons]
  .rw[uK<|(List.mem_cons.mp h).resolve_left λz=>e z.symm];simp[List.findIdx_cons,e]
def Jf{G T:Γ Pl}{W:Γ Wy}(h:Wd G T W){b:θ}{i:Nat}{p:Pl}(e:(aX b G T)[i]?=↑p)(z:Nat->Int)(Z:∀j,j<(own b W i).length->z j=kD b W p.2 (((own b W i).map λn=>PyData.int (n:Nat)).getD j .none)) :
  AL z ((own b W i).map λn=>PyData.int (n:Nat)) .none=(mD b W i p.2).map λn=>PyData.int (n:Nat):=by
 apply lP _ ((jy _ _ _).trans<|(iE h e).symm.map _)<|BP z _ _ _ λj H=>Z j (by simpa using H);rw[mD,zM,jD];have y:∀k(hk:k<p.2.length),kD b W _ (.int<|LA b W i p.2[k])=k:=λk hk=>by
  let(_,_,E):=Kk h e<|qA hk;simp[kD,lQ,yG,E]
  congr 1
  rw[List.findIdx_eq<|by omega];refine{by simp,λj H=>?_};have:=List.pairwise_iff_getElem.mp ((h.lik e).nodup_iff.mpr<|h.nod b i) j k (by lia) hk H;simpa using this
 refine List.pairwise_iff_getElem.mpr λj k H hk X=>?_;show kD b W _ (.int _)<kD b W _ (.int _);rw[y j H,y k hk];lia
abbrev nD(n:Nat):D:=.int ((n:Nat):Int)
def uh:∀{ds:Γ D},(∀d∈ds,te (ρ.set 0<|↑d)=↑(h d))->pF te ρ ds=↑(ds.map h)
 |[],_=>rfl
 |d::ds,H=>by
  rw[pF,H d zE,zA,uh λx X=>H x<|zC _ X];rfl
def J8(b:θ)(W:Γ Wy)(p:Int):(own b W p).length<=W.length:=by
 apply yD<|xP _ _;simp
def BQ(b:θ)(W:Γ Wy)(p:Int):(((W.map aE).zipIdx.filter λq=>decide (bK b (aZ W q.2)=p)).map λq=>nD q.2)=(own b W p).map nD:=by
 have e:(W.map aE).zipIdx=(List.range W.length).map λi=>(aE<|aZ W i,i):=by
  apply jG
  .simp
  .intro i a H;have:=by simpa using H
   simp[iT this]
 rw[e,kF,zM];rfl
def EI(h:Wd G T W)(e:(aX b G T)[i]?=↑p):oM [aw G T W,.int<|sI b,nD i]=↑(.list<|(mD b W i p.2).map nD):=by
 have hw:=h.wl;have E:aN (.tuple<|(aX b G T).map bA) (nD i)=↑(bA p):=ke e;have L:=J8 b W i;have t:Dl.aL 3 [0] (f2 aN (ae 0)<|fC<|.int 2) [.val<|aw G T W,.val<|.int<|sI b,.val<|nD i,.VC,.VC,.VC]=↑(.nx [.val<|aw G T W,.val<|.int<|sI b,.val<|nD i,.val<|.tuple<|W.map aE,.VC,.VC]):=
  dw (d:=.tuple<|W.map aE) rfl rfl rfl rfl
 have k:Dl.aL 4 [0,1,2] (f2 aN (f2 aN (f2 aN (ae 0)<|ae 1)<|ae 2)<|fC<|.int 1) [.val<|aw G T W,.val<|.int<|sI b,.val<|nD i,.val<|.tuple<|W.map aE,.VC,.VC]=↑(.nx [.val<|aw G T W,.val<|.int<|sI b,.val<|nD i,.val<|.tuple<|W.map aE,.val<|af p.2,.VC]):=by
  refine dw (d:=af p.2) ?_ rfl rfl rfl;rw[ki (a:=bA p) (b:=.int 1) ?_ rfl,K5];rw[ki (a:=.tuple<|(aX b G T).map bA) (b:=nD i) ?_ rfl,E];rw[ki (a:=aw G T W) (b:=.int<|sI b) rfl rfl,eC]
 have c5:ax 2 [1,2] (cW<|aa (ae 3) ag) (jx 0 1) (fB<|f2 bV (f2 aN (ae 1)<|ae 2)<|ae 3) (ae 0) [↑(aw G T W),↑(.int<|sI b),↑(nD i),↑(.tuple<|W.map aE),↑(af p.2),none]=↑((own b W i).map nD):=by
  rw[Ff (ds:=W.map aE) (p:=λj _=>decide (bK b (aZ W j)=i)) (h:=λj _=>nD j) rfl (by rw[zD];lia) λj d D=>?_,BQ];rw[zO]at D;let(w,H,rfl):=Dl.ai D;have J:j<W.length:=(List.getElem?_eq_some_iff.mp H).1;rw[iU J]at H;cases H;refine{?_,λ_=>rfl};show fB (f2 bV (f2 aN (ae 1)<|ae 2)<|ae 3) [↑(nD j),↑(aE<|aZ W j),↑(.int<|sI b),↑(nD i)]=_;simp?[fB];rw[ki (a:=.int<|bK b<|aZ W j) (b:=nD i) (by rw[ki (a:=aE<|aZ W j) (b:=.int<|sI b) rfl rfl,we]) rfl,dh];rfl
 have n:bb 5 [1,2,3] (ax 2 [1,2] (cW<|aa (ae 3) ag) (jx 0 1) (fB<|f2 bV (f2 aN (ae 1)<|ae 2)<|ae 3)<|ae 0) [.val<|aw G T W,.val<|.int<|sI b,.val<|nD i,.val<|.tuple<|W.map aE,.val<|af p.2,.VC]=↑(.nx [.val<|aw G T W,.val<|.int<|sI b,.val<|nD i,.val<|.tuple<|W.map aE,.val<|af p.2,.own<|(own b W i).map nD]):=by
  have f:hand [1,2,3] 0 [Slot.val<|aw G T W,.val<|.int<|sI b,.val<|nD i,.val<|.tuple<|W.map aE,.val<|af p.2,.VC]=[Slot.val<|aw G T W,.val<|.int<|sI b,.val<|nD i,.val<|.tuple<|W.map aE,.val<|af p.2,.VC]:=rfl;simp?[bb,f,bD,zI,yU,Slot.Wj,c5,zB,yW,yV]
 have hk:pF (f2 Al (ae 3)<|f2 aN (f2 aN (ae 2)<|ae 0)<|f2 Dl.gG (fC<|.int 1)<|ae 1) [none,↑(.int<|sI b),↑(.tuple<|W.map aE),↑(af p.2)] ((own b W i).map nD)=↑(((own b W i).map nD).map λd=>.int<|kD b W p.2 d):=by
  refine uh λd D=>?_;let(j,J,rfl):=List.mem_map.mp D;let(l,g):=fY.mp J;show f2 Al (ae 3) (f2 aN (f2 aN (ae 2)<|ae 0)<|f2 Dl.gG (fC<|.int 1)<|ae 1) [↑(nD j),↑(.int<|sI b),↑(.tuple<|W.map aE),↑(af p.2)]=_;have c:aN (.tuple<|W.map aE) (nD j)=↑(aE<|aZ W j):=ke<|iU l;rw[ki (a:=af p.2) (b:=.int<|dA b<|aZ W j) rfl ?_]
  .have m:dA b (aZ W j)∈p.2:=(h.lik e).mem_iff.mpr (by rw[<-vd];exact List.mem_map.mpr {j,J,rfl});simp?[Al,af,dc,zA,uK m,zB,kD,lQ,yG]
   all_goals first|rfl|(congr 3;funext o;congr)
  .rw[ki (a:=aE<|aZ W j) (b:=.int<|1-sI b) ?_ ?_,Mz]
   .rw[ki (a:=.tuple<|W.map aE) (b:=nD j) rfl rfl,c]
   .rw[ki (a:=.int 1) (b:=.int<|sI b) rfl rfl,mn]
 have I:intsOf (((own b W i).map nD).map λd=>PyData.int<|kD b W p.2 d)=↑(((own b W i).map nD).map<|kD b W p.2):=by
  rw[show(((own b W i).map nD).map λd=>PyData.int<|kD b W p.2 d)=(((own b W i).map nD).map<|kD b W p.2).map PyData.int by simp?[zM];rfl,dc]
 have q:bC (fP<|oG [1,3,4] (ae 5)<|f2 Al (ae 3)<|f2 aN (f2 aN (ae 2)<|ae 0)<|f2 Dl.gG (fC<|.int 1)<|ae 1) [.val<|aw G T W,.val<|.int<|sI b,.val<|nD i,.val<|.tuple<|W.map aE,.val<|af p.2,.own<|(own b W i).map nD]=↑(.rt<|.list<|(mD b W i p.2).map nD):=by
  have s:oG [1,3,4] (ae 5) (f2 Al (ae 3)<|f2 aN (f2 aN (ae 2)<|ae 0)<|f2 Dl.gG (fC<|.int 1)<|ae 1) [↑(aw G T W),↑(.int<|sI b),↑(nD i),↑(.tuple<|W.map aE),↑(af p.2),↑(.list<|(own b W i).map nD)]=↑((mD b W i p.2).map nD):=by
   unfold oG;show(pF _ [none,↑(.int<|sI b),↑(.tuple<|W.map aE),↑(af p.2)]<|(own b W i).map nD).bind _=_;rw[hk,zA,I,zA,yL (by rw[zD];lia),Jf h e _ λj J=>?_];simp[J]
  simp?[bC,aI,zI,yU,vn,yd,fP,s,zB]
 refine bq ?_;show nP [.val<|aw G T W,.val<|.int<|sI b,.val<|nD i,.VC,.VC,.VC]=_;unfold nP;rw[au t,au k,au n,q]
local macro_rules|`(tactic| dsimp! [$ts,*])=>`(tactic| simp only[ae,fC,f1,f2,aa,ag,aj,cQ,r8,bw,ix,fP,fB,gB,eO,gU,qo,cW,aI,bD,vn,yd,DB,Cr,CS,DL,zI,yU,xQ,yY,zA,zB,qG,zL,xK,Nat.reduceAdd,jC,reduceIte,yW,yV,$ts,*])
def mM(R:S->ao->Prop)(f:α->D)(st:S->α->S):∀{l:Γ α}{s:S}{ρ:ao},
  (∀s ρ x,x∈l->R s ρ->∃ρ1 W,tgt ρ (f x)=↑ρ1/\gb ρ1=↑(.nx W)/\R (st s x) W)->R s ρ->∃ρ',fv tgt gb (l.map f) ρ=↑(.nx ρ')/\R (l.foldl st s) ρ'
 |[],s,ρ,_,h=>{ρ,rfl,h}
 |d::g,s,ρ,H,h=>by
  let(ρ1,W,e,E,b):=H s ρ d zE h;let(ρ',a,c):=mM R f st (λs ρ x X=>H s ρ x<|zC _ X) b;refine{ρ',?_,c};rw[zI,fv,e,zA,E];exact a
def qw(R:ao->Prop)(f:α->D)(q:α->θ)(o:α->D):∀{l:Γ α}{ρ:ao},
  (∀ρ x,x∈l->R ρ->∃ρ1,tgt ρ (f x)=↑ρ1/\(q x=true->gb ρ1=↑(.rt<|o x))/\(q x=false->∃W,gb ρ1=↑(.nx W)/\R W))->R ρ ->
  (∀x,l.find? q=↑x->fv tgt gb (l.map f) ρ=↑(.rt<|o x))/\(l.find? q=none->∃ρ',fv tgt gb (l.map f) ρ=↑(.nx ρ')/\R ρ')
 |[],ρ,_,h=>{λx X=>(by cases X),λ_=>{ρ,rfl,h}}
 |x::l,ρ,a,h=>by
  let(ρ1,e,E,b):=a ρ x zE h;rw[zI,fv,e,zA];cases H:q x with
  |true =>
   rw[List.find?_cons_of_pos<|by simpa using H,E H];exact{λy Y=>(by cases Y;rfl),λn=>(by cases n)}
  |false =>
   let(W,c,d):=b H;rw[List.find?_cons_of_neg<|by simp[H],c];exact qw R f q o (λρ x X=>a ρ x<|zC _ X) d
def iR(h:fv tgt gb ds ρ1=o)(hi:fi (bD ρ1)=↑ds)(H:hand fz 0 ρ=ρ1):iz fz fi tgt gb ρ=o:=by
 simp[iz,H,hi,zA,h]
def wo(a:hand fz 0 ρ=ρ')(H:f (bD ρ')=↑ds):bb i fz f ρ=↑(.nx<|ρ'.set i<|.own ds):=by
 simp[bb,a,H,zB]
def gc(H:f (bD ρ)=↑ds)(a:hand fz 0 ρ=ρ):bb i fz f ρ=↑(.nx<|ρ.set i<|.own ds):=wo a H
def rW(H:hand fz 0 ρ=ρ')(A:f (aI ρ)=↑d)(F:f (bD ρ')=↑d)(hs:Dl.kg d=false)(r:j3 d=false\/ρ'=ρ:=by first|exact .inr rfl|exact .inl rfl):Dl.aL i fz f ρ=↑(.nx<|ρ'.set i<|.val d):=by
 rcases r with r|r
 .simp[Dl.aL,A,zA,hs,yO,qN,H,F,zB,r]
 .subst r;simp[Dl.aL,A,zA,hs,yO,qN,H,F,zB,ite_self]
def call_of(h:m ds=↑d)(f:fs ρ=↑ds)(H:ds.length=n):aj n m fs ρ=↑d:=by
 unfold aj;rw[f,zA,yL H,h]
def cons_of(h:f ρ=↑d)(hs:fs ρ=↑ds):aa f fs ρ=↑(d::ds):=by
 unfold aa;rw[h,hs];rfl
def bR(H:f (aI ρ)=↑d):bC f ρ=↑(.rt d):=by
 simp[bC,H,zB]
def dW(H:f (aI ρ)=↑d):gL f ρ=↑(.nx ρ):=by
 simp[gL,H,zB]
def sN(h:t (aI ρ)=↑false):pL t g l8 ρ=↑(.nx ρ):=by
 simp[pL,h,l8]
def xc(h:t (aI ρ)=↑true):pL t g g2 ρ=g ρ:=by
 simp[pL,h]
def O3(h:g1 ρ=↑(.rt d)):aH g1 g2 ρ=↑(.rt d):=by
 simp[aH,h,zA]
def EN(H:f (aI ρ)=↑d)(hs:Dl.kg d=true)(hk:fk (aI ρ)=↑(nD k))(o:ρ[i]?=↑(.own ds))(l:k<ds.length):BN i fz fk f ρ=↑(.nx<|ρ.set i<|.own<|ds.set k d):=by
 have x:Fy ds.length ((k:Nat):Int)=↑k:=by
  unfold Fy;rw[yL<|Int.natCast_nonneg k,yL<|by lia];simp
 simp?[BN,lM,H,zA,hs,xH,hk,oN,o,x,zB]
def lp(c:S->θ)(st:S->S):Nat->S->S
 |0,s=>s
 |n+1,s=>if c s=true then lp c st n (st s)else s
def zf(R:S->ao->Prop)(c:S->θ)(st:S->S)(a:S->Nat)
  (ht:∀s ρ,R s ρ->t (aI ρ)=↑(c s))(b:∀s ρ,R s ρ->c s=true->∃ρ',gb ρ=↑(.nx ρ')/\R (st s) ρ'/\a (st s)<a s) :
  ∀(n:Nat)(s:S)(ρ:ao),a s<n->R s ρ->∃ρ',OI t gb n ρ=↑(.nx ρ')/\R (lp c st n s) ρ'/\c (lp c st n s)=false
 |0,s,ρ,h,_=>absurd h (by lia)
 |n+1,s,ρ,h,r=>by
  rw[OI,ht s ρ r,zA,lp];cases hc:c s with
  |false=>exact{ρ,by simp,by simpa [hc]using r,by simpa [hc]using hc}
  |true =>
   let(ρ',e,d,m):=b s ρ r hc;let(W,E,f,c2):=zf R c st a ht b n (st s) ρ' (by lia) d;refine{W,?_,by simpa [hc]using f,by simpa [hc]using c2};simp?[xH,e,zA];exact E
def Gh{off:Γ Int}(h:i<off.length):aN (af off) (nD i)=↑(.int<|off.getD i 0):=ke (by simp[h])
def OC{off:Γ Int}(h:i<off.length):aN (.list<|off.map PyData.int) (nD i)=↑(.int<|off.getD i 0):=Js (f:=PyData.int) (l:=off) (by simp[h])
def rQ(h:i<W.length):aN (.tuple<|W.map aE) (nD i)=↑(aE<|aZ W i):=ke<|iU h
def SQ(a b c:Int):As [.int a,.int b,.int c]=↑(.int<|min (min a b) c):=rfl
def wq(l:Γ Int)(k:Nat)(v:Int):(l.map PyData.int).set k (.int v)=(l.set k v).map PyData.int:=by simp
def Mu(l:Γ Int):cg [.list<|l.map PyData.int]=↑(af l):=rfl
def D0(l:Γ D):cS [.tuple l]=↑(nD l.length):=rfl
def EL(h:n<=1000):lV [nD n]=↑((List.range n).map nD):=by
 rw[yt<|Dx h,yG]
def Hu(h:fs ρ=↑[nD n])(H:n<=1000):dO fs ρ=↑((List.range n).map nD):=by
 rw[dO,h,zA,EL H]
def sub_int(i j:Int):Dl.gG (.int i) (.int j)=↑(.int<|i-j):=mn i j
def zeros(Y:fi ρ=↑ds)(l:ds.length<=1000):ax 1 [] fi (fG 0) (λ_=>↑true) (fC<|.int 0) ρ=↑((List.replicate ds.length (0:Int)).map PyData.int):=by
 rw[cH (h:=λ_=>.int 0) Y (by lia) λd H=>rfl];simp[List.map_const']
def uF:∀(a b:Γ Int),d9 (jx 0 1) (λ_=>↑true) (f2 aS (ae 0)<|ae 1) (none::none::r) (l6 (a.map PyData.int)<|b.map PyData.int)=↑((List.zipWith (·+·) a b).map PyData.int)
 |[],b=>by cases b<;>rfl
 |x::a,[]=>rfl
 |x::a,y::b=>by
  have i:=uF (r:=r) a b;have g:jx 0 1 (none::none::r) (.tuple [.int x,.int y])=↑(↑(.int x)::↑(.int y)::r):=by
   simp?[jx,isFree,xQ,yY,qG,wF,jO,xH,yV,yW]
  rw[zI,zI,l6,d9,g,zA];dsimp! [iH,i,List.zipWith_cons_cons]
def Gf(Y:fi ρ=↑(l6 (a.map PyData.int)<|b.map PyData.int))(l:a.length<=1000) :
  ax 2 [] fi (jx 0 1) (λ_=>↑true) (f2 aS (ae 0)<|ae 1) ρ=↑((List.zipWith (·+·) a b).map PyData.int):=by
 have:=uF (r:=[]) a b;simp?[ax,Y,zA,fQ,List.replicate,yU,qF,this];refine bO ?_;rw[zD,List.length_zipWith];lia
def cV(W:Γ Wy)(off:Γ Int)(left:Int)(i:Nat):Int:=min (min (off.getD i 0) (aZ W i).2.2) left
def nM(W:Γ Wy)(off:Γ Int)(s:Int×Γ Int)(i:Nat):Int×Γ Int:=(s.1-cV W off s.1 i,s.2.set i<|cV W off s.1 i)
def uP(W:Γ Wy)(off:Γ Int)(amt:Int)(i:Γ Nat):Γ Int:=(i.foldl (nM W off) (amt,List.replicate W.length 0)).2
def Do(W:Γ Wy)(off:Γ Int):∀(I:Γ Nat)(s:Int×Γ Int),(I.foldl (nM W off) s).2.length=s.2.length
 |[],s=>rfl
 |i::I,s=>by rw[yI,Do W off I];simp[nM]
def wY(W:Γ Wy)(off:Γ Int)(amt:Int)(i:Γ Nat):(uP W off amt i).length=W.length:=by rw[uP,Do];simp
def Qx{W:Γ Wy}(e:(aX b G T)[i]?=↑p):aN (.tuple<|(aX b G T).map bA) (nD i)=↑(bA p):=ke e
def Pd{off:Γ Int}(hi:i<W.length)(o:off.length=W.length)(hs:s.2.length=W.length) :
  (aH (BN 4 [0,3,5,6] (ae 6)<|cQ As<|aa (f2 aN (ae 3)<|ae 6)<|aa (f2 aN (f2 aN (f2 aN (ae 0)<|fC<|.int 2)<|ae 6)<|fC<|.int 2)<|aa (ae 5) ag)<|Dl.aL 5 [4,5,6]<|f2 Dl.gG (ae 5)<|f2 aN (ae 4)<|ae 6) [.val<|aw G T W,.val d1,.val d2,.val<|af off,.own<|s.2.map PyData.int,.val<|.int s.1,.val<|nD i]=↑(.nx [.val<|aw G T W,.val d1,.val d2,.val<|af off,.own<|(nM W off s i).2.map PyData.int,.val<|.int (nM W off s i).1,.val<|nD i]):=by
 have v:(cQ As<|aa (f2 aN (ae 3)<|ae 6)<|aa (f2 aN (f2 aN (f2 aN (ae 0)<|fC<|.int 2)<|ae 6)<|fC<|.int 2)<|aa (ae 5) ag) (aI [.val<|aw G T W,.val d1,.val d2,.val<|af off,.own<|s.2.map PyData.int,.val<|.int s.1,.val<|nD i])=↑(.int<|cV W off s.1 i):=by
  dsimp! [Gh (show i<off.length by lia),dI,rQ hi,Mf,SQ,cV]
 have t:=EN (i:=4) (fz:=[0,3,5,6]) (fk:=ae 6) (k:=i) (ds:=s.2.map PyData.int) v rfl rfl rfl (by rw[zD];lia);rw[wq]at t;rw[au t];have l:i<(s.2.set i<|cV W off s.1 i).length:=by rw[yC];lia
 have g:(s.2.set i<|cV W off s.1 i).getD i 0=cV W off s.1 i:=by
  have:i<s.2.length:=by lia
  simp[this]
 have H:(f2 Dl.gG (ae 5)<|f2 aN (ae 4)<|ae 6) (aI<|[.val<|aw G T W,.val d1,.val d2,.val<|af off,.own<|s.2.map PyData.int,.val<|.int s.1,.val<|nD i].set 4<|.own<|(s.2.set i<|cV W off s.1 i).map PyData.int)=↑(.int (nM W off s i).1):=by
  dsimp! [OC l,sub_int,g,nM]
 rw[dy H rfl];rfl
def oV{off:Γ Int}(h:Wd G T W)(o:off.length=W.length)(e:(aX b G T)[i]?=↑p) :
  fE [aw G T W,.int<|sI b,nD i,af off]=↑(af<|uP W off p.1<|mD b W i p.2):=by
 have hw:W.length<=16:=h.wl;have t:bb 4 [0] (ax 1 [] (bw<|f2 aN (ae 0)<|fC<|.int 2) (fG 0) (λ_=>↑true)<|fC<|.int 0) [.val<|aw G T W,.val<|.int<|sI b,.val<|nD i,.val<|af off,.VC,.VC,.VC]=↑(.nx [.val<|aw G T W,.val<|.int<|sI b,.val<|nD i,.val<|af off,.own<|(List.replicate W.length (0:Int)).map PyData.int,.VC,.VC]):=by
  have z:=zeros (fi:=bw<|f2 aN (ae 0)<|fC<|.int 2) (ρ:=bD [.val<|aw G T W,.val<|.int<|sI b,.val<|nD i,.val<|af off,.VC,.VC,.VC]) (ds:=W.map aE) rfl (by rw[zD];lia);rw[zD]at z;exact wo rfl z
 have c:Dl.aL 5 [0,1,2] (f2 aN (f2 aN (f2 aN (ae 0)<|ae 1)<|ae 2)<|fC<|.int 0) [.val<|aw G T W,.val<|.int<|sI b,.val<|nD i,.val<|af off,.own<|(List.replicate W.length (0:Int)).map PyData.int,.VC,.VC]=↑(.nx [.val<|aw G T W,.val<|.int<|sI b,.val<|nD i,.val<|af off,.own<|(List.replicate W.length (0:Int)).map PyData.int,.val<|.int p.1,.VC]):=
  dy (d:=.int p.1) (by dsimp! [eC,Qx (W:=W) e,JV]) rfl
 let(f,E,X,x,rfl):=mM (tgt:=AA 6) (gb:=(aH (BN 4 [0,3,5,6] (ae 6)<|cQ As<|aa (f2 aN (ae 3)<|ae 6)<|aa (f2 aN (f2 aN (f2 aN (ae 0)<|fC<|.int 2)<|ae 6)<|fC<|.int 2)<|aa (ae 5) ag)<|Dl.aL 5 [4,5,6]<|f2 Dl.gG (ae 5)<|f2 aN (ae 4)<|ae 6)) (R:=λs a=>s.2.length=W.length/\∃x,a=[.val<|aw G T W,.val<|.int<|sI b,.val<|nD i,.val<|af off,.own<|s.2.map PyData.int,.val<|.int s.1,x]) nD (nM W off)
  (l:=mD b W i p.2) (s:=(p.1,List.replicate W.length (0:Int))) (ρ:=[.val<|aw G T W,.val<|.int<|sI b,.val<|nD i,.val<|af off,.own<|(List.replicate W.length (0:Int)).map PyData.int,.val<|.int p.1,.VC])
  (λs a j J z=>by
   let(S,x,Z):=z;subst Z;let(H,_):=fY.mp<|(iE h e).mem_iff.mp J;refine{_,_,rfl,Pd H o S,?_,.val<|nD j,rfl};simp[nM,S]) {by simp,_,rfl}
 refine bq ?_;show k9 [.val<|aw G T W,.val<|.int<|sI b,.val<|nD i,.val<|af off,.VC,.VC,.VC]=_;unfold k9;rw[au t,au c,au<|iR E (by dsimp! [EI h e]) rfl];exact bR rfl
def cq(b:θ)(G T:Γ Pl)(i:Nat):Pl:=(aX b G T).getD i (0,[])
def zz(b:θ)(G T:Γ Pl)(W:Γ Wy)(off s:Γ Int)(i:Nat):Γ Int:=List.zipWith (·+·) s<|uP W off (cq b G T i).1<|mD b W i (cq b G T i).2
def gN(b:θ)(G T:Γ Pl)(W:Γ Wy)(off:Γ Int):Γ Int:=(List.range (aX b G T).length).foldl (zz b G T W off)<|List.replicate W.length 0
def eP(h:i<(aX b G T).length):(aX b G T)[i]?=↑(cq b G T i):=by simp[cq,h]
def pP{off:Γ Int}(h:s.length=W.length):(zz b G T W off s i).length=W.length:=by
 unfold zz;rw[List.length_zipWith,wY,h,Nat.min_self]
def lH(R:S->Prop):∀{l:Γ α}{s:S},(∀s x,x∈l->R s->R (f s x))->R s->R (l.foldl f s)
 |[],s,_,h=>h
 |x::l,s,H,h=>by
  rw[yI];exact lH (l:=l) R (λs y Y=>H s y<|zC _ Y)<|H s x zE h
def nI(b:θ)(G T:Γ Pl)(W:Γ Wy)(off:Γ Int):(gN b G T W off).length=W.length:=
 lH (λs:Γ Int=>s.length=W.length) (λs i _ h=>pP h) (by simp)
def Wd.pl(h:Wd G T W)(b:θ):(aX b G T).length<=4:=by
 cases b
 .exact h.g4
 .exact h.t4
def U9:ao->Δ Out:=(aH (Dl.aL 5 [0,1,2,4]<|aj 4 fE<|aa (ae 0)<|aa (ae 1)<|aa (ae 4)<|aa (ae 2) ag)<|bb 3 [3,5]<|ax 2 [] (sv<|aa (ae 3)<|aa (ae 5) ag) (jx 0 1) (λ_=>↑true)<|f2 aS (ae 0)<|ae 1)
def fM{off:Γ Int}(h:Wd G T W)(o:off.length=W.length)(b:θ) :
  bE [aw G T W,.int<|sI b,af off]=↑(af<|gN b G T W off):=by
 have hw:W.length<=16:=h.wl;have p:=h.pl b;have j:bb 3 [0] (ax 1 [] (bw<|f2 aN (ae 0)<|fC<|.int 2) (fG 0) (λ_=>↑true)<|fC<|.int 0) [.val<|aw G T W,.val<|.int<|sI b,.val<|af off,.VC,.VC,.VC]=↑(.nx [.val<|aw G T W,.val<|.int<|sI b,.val<|af off,.own<|(List.replicate W.length (0:Int)).map PyData.int,.VC,.VC]):=by
  have z:=zeros (fi:=bw<|f2 aN (ae 0)<|fC<|.int 2) (ρ:=bD [.val<|aw G T W,.val<|.int<|sI b,.val<|af off,.VC,.VC,.VC]) (ds:=W.map aE) rfl (by rw[zD];lia);rw[zD]at z;exact gc z rfl
 let(c,f,X,x,y,rfl):=mM (tgt:=AA 4) (gb:=U9) (R:=λs e=>s.length=W.length/\∃x y,e=[.val<|aw G T W,.val<|.int<|sI b,.val<|af off,.own<|s.map PyData.int,x,y]) nD (zz b G T W off)
  (l:=List.range (aX b G T).length) (s:=List.replicate W.length (0:Int)) (ρ:=[.val<|aw G T W,.val<|.int<|sI b,.val<|af off,.own<|(List.replicate W.length (0:Int)).map PyData.int,.VC,.VC])
  (λs e i H z=>by
   let(S,x,y,Z):=z;subst Z;have E:=eP<|List.mem_range.mp H;have t:Dl.aL 5 [0,1,2,4] (aj 4 fE<|aa (ae 0)<|aa (ae 1)<|aa (ae 4)<|aa (ae 2) ag) [.val<|aw G T W,.val<|.int<|sI b,.val<|af off,.own<|s.map PyData.int,.val<|nD i,y]=↑(.nx [.val<|aw G T W,.val<|.int<|sI b,.val<|af off,.own<|s.map PyData.int,.val<|nD i,.val<|af<|uP W off (cq b G T i).1<|mD b W i (cq b G T i).2]):=by
    refine rW (ρ':=[.val<|aw G T W,.val<|.int<|sI b,.val<|af off,.own<|s.map PyData.int,.val<|nD i,y]) rfl (d:=af<|uP W off (cq b G T i).1<|mD b W i (cq b G T i).2) ?_ ?_ rfl
    .dsimp! [oV h o E]
    .dsimp! [oV h o E]
   have g:bb 3 [3,5] (ax 2 [] (sv<|aa (ae 3)<|aa (ae 5) ag) (jx 0 1) (λ_=>↑true)<|f2 aS (ae 0)<|ae 1) [.val<|aw G T W,.val<|.int<|sI b,.val<|af off,.own<|s.map PyData.int,.val<|nD i,.val<|af<|uP W off (cq b G T i).1<|mD b W i (cq b G T i).2]=↑(.nx [.val<|aw G T W,.val<|.int<|sI b,.val<|af off,.own<|(zz b G T W off s i).map PyData.int,.val<|nD i,.val<|af<|uP W off (cq b G T i).1<|mD b W i (cq b G T i).2]):=by
    refine wo (ρ':=[.val<|aw G T W,.val<|.int<|sI b,.val<|af off,.val<|.list<|s.map PyData.int,.val<|nD i,.val<|af<|uP W off (cq b G T i).1<|mD b W i (cq b G T i).2]) rfl (ds:=(zz b G T W off s i).map PyData.int) ?_;exact Gf (a:=s) (b:=uP W off (cq b G T i).1<|mD b W i (cq b G T i).2) rfl (by lia)
   exact{_,_,rfl,(au t).trans g,pP S,_,_,rfl}) {by simp,_,_,rfl}
 refine bq ?_;show fN [.val<|aw G T W,.val<|.int<|sI b,.val<|af off,.VC,.VC,.VC]=_;unfold fN;rw[au j];refine(au<|iR f (Hu (by dsimp! [eC,D0,zD])<|by lia) rfl).trans ?_;exact bR rfl
def mE(h:(xs++ys).length<=4000):Dl.aS (.tuple xs) (.tuple ys)=↑(.tuple<|xs++ys):=by
 simp?[Dl.aS,ye,L7,bO h,zB,Option.none_or,Option.some_or]
def PD(h:f ρ=↑d):bg (aa f ag) ρ=↑(.tuple [d]):=by
 simp[bg,aa,ag,h,zA,zB];rfl
def Tq(h:f ρ=↑d)(H:g ρ=↑e):bg (aa f<|aa g ag) ρ=↑(.tuple [d,e]):=by
 simp?[bg,aa,ag,h,H,zA,zB];rw[bO<|by simp,zB]
def aD(h:g a b=↑c)(H:fa ρ=↑a)(B:fb ρ=↑b):f2 g fa fb ρ=↑c:=by rw[ki H B,h]
def Bv(h:f ρ=↑(.tuple ds))(H:g ρ=↑(nD k)):kf fq f kc (zt g) ρ=↑(.tuple<|ds.take k):=by
 simp[kf,h,kc,zt,H,zA,gI,zB,fq,FE]
def Ih(h:f ρ=↑(.tuple ds))(H:g ρ=↑(nD k)):kf fq f (zt g) kc ρ=↑(.tuple<|ds.drop k):=by
 simp[kf,h,kc,zt,H,zA,gI,zB,fq,IA]
def Ul(d:D)(ds:Γ D):aN (.tuple (d::ds)) (.int 0)=↑d:=se (i:=0) rfl
def SH(c d:D)(ds:Γ D):aN (.tuple (c::d::ds)) (.int 1)=↑d:=se (i:=1) rfl
def Cp(c:Γ Int)(i:Nat)(v:Int)(h:i<c.length):((c.map PyData.int).take i++[PyData.int v])++(c.map PyData.int).drop (i+1)=(c.set i v).map PyData.int:=by
 rw[List.set_eq_take_append_cons_drop,yL h];simp
def UX(i:Nat):Dl.aS (nD i) (.int 1)=↑(nD<|i+1):=by
 rfl
def Bi(h:i<c.length)(l:c.length<=1000):dg [af c,nD i,.int v]=↑(af<|c.set i v):=by
 apply bq;apply bR;refine aD ?_ (aD (mE ?_) (Bv rfl rfl)<|PD rfl)<|Ih rfl (aD (UX i) rfl rfl)
 .rw[mE,Cp c i v h]
  .rfl
  .rw[Cp c i v h];simp;lia
 grind
def ub(h:i<c.length)(l:c.length<=1000):eX [af c,nD i,.int v]=↑(af<|c.set i v):=by
 refine bq ?_;show um [.val<|af c,.val<|nD i,.val<|.int v]=_;exact bR<|call_of (Bi h l) rfl rfl
def eM(W:Γ Wy):Γ Int:=W.map λw=>w.2.2
def IP(h:Wd G T W)(F:f ρ=↑(aw G T W)):(cQ cg<|aa (fP<|ax 1 [] (bw<|f2 aN f<|fC<|.int 2) (fG 0) (λ_=>↑true) zq6) ag) ρ=↑(af<|eM W):=by
 have hw:=h.wl;have s:(bw<|f2 aN f<|fC<|.int 2) ρ=↑(W.map aE):=by
  unfold bw;rw[aD (dI G T W) F rfl];rfl
 have e:ax 1 [] (bw<|f2 aN f<|fC<|.int 2) (fG 0) (λ_=>↑true) zq6 ρ=↑((eM W).map PyData.int):=by
  rw[cH (h:=λd=>.int<|lQ<|(cR d).getD 2 .none) s (by rw[zD];lia) λd H=>?_]
  .rw[eM,zM,zM];rfl
  .let(w,a,rfl):=List.mem_map.mp H;rfl
 simp?[cQ,aa,ag,fP,e,zB,zA,Mu]
def mI(h:Wd G T W):rM [aw G T W]=↑(af<|eM W):=by
 refine bq ?_;show z7 [.val<|aw G T W]=_;exact bR<|IP h rfl
def ny(W:Γ Wy):(eM W).length=W.length:=by simp[eM]
def Ag(G T:Γ Pl)(W:Γ Wy)(c:Γ Int):Γ Int:=gN true G T W<|gN false G T W c
def qR(G T:Γ Pl)(W:Γ Wy)(c:Γ Int)(k:Nat):θ:=decide ((Ag G T W c).getD k 0<(gN false G T W c).getD k 0)
def BE(G T:Γ Pl)(W:Γ Wy)(c:Γ Int):Δ (Nat×Int):=((List.range W.length).find?<|qR G T W c).map λk=>(k,(Ag G T W c).getD k 0)
def B6:Δ (Nat×Int)->D
 |none=>.none
 |some p=>.tuple [nD p.1,.int p.2]
def enum_zip:∀ds k,b8 k ds=(ds.zipIdx k).map λq=>.tuple [nD q.2,q.1]
 |[],k=>rfl
 |d::ds,k=>by rw[b8,enum_zip ds _,List.zipIdx_cons];rfl
def EE(l:Γ Int):b8 0 (l.map PyData.int)=(List.range l.length).map λk=>.tuple [nD k,.int<|l.getD k 0]:=by
 rw[enum_zip];apply jG
 .simp
 .intro i a H;have:i<l.length:=by simpa using H
  simp[this]
def NI(G T:Γ Pl)(W:Γ Wy)(c:Γ Int):(Ag G T W c).length=W.length:=nI _ _ _ _ _
def SI:ao->Δ Out:=(pL (fB<|f2 MN (ae 5)<|f2 aN (ae 2)<|ae 4) (bC<|bg<|aa (ae 4)<|aa (ae 5) ag) l8)
def lh(h:Wd G T W)(o:c.length=W.length):iA [aw G T W,af c]=↑(B6<|BE G T W c):=by
 have hw:W.length<=16:=h.wl;have t:Dl.aL 2 [0,1] (aj 3 bE<|aa (ae 0)<|aa (fC<|.int 0)<|aa (ae 1) ag) [.val<|aw G T W,.val<|af c,.VC,.VC,.VC,.VC]=↑(.nx [.val<|aw G T W,.val<|af c,.val<|af<|gN false G T W c,.VC,.VC,.VC]):=
  dw (call_of (fM h o false) rfl rfl) rfl rfl rfl
 have b:Dl.aL 3 [0,2] (aj 3 bE<|aa (ae 0)<|aa (fC<|.int 1)<|aa (ae 2) ag) [.val<|aw G T W,.val<|af c,.val<|af<|gN false G T W c,.VC,.VC,.VC]=↑(.nx [.val<|aw G T W,.val<|af c,.val<|af<|gN false G T W c,.val<|af<|Ag G T W c,.VC,.VC]):=
  dw (call_of (fM h (nI _ _ _ _ _) true) rfl rfl) rfl rfl rfl
 have H:=qw (tgt:=js 4 5) (gb:=SI) (R:=λa=>∃x y,a=[.val<|aw G T W,.val<|af c,.val<|af<|gN false G T W c,.val<|af<|Ag G T W c,x,y]) (λk=>.tuple [nD k,.int<|(Ag G T W c).getD k 0]) (qR G T W c) (λk=>.tuple [nD k,.int<|(Ag G T W c).getD k 0])
  (l:=List.range W.length) (ρ:=[.val<|aw G T W,.val<|af c,.val<|af<|gN false G T W c,.val<|af<|Ag G T W c,.VC,.VC])
  (λa k hk z=>by
   let(x,y,Z):=z;subst Z;have X:k<(gN false G T W c).length:=by rw[nI];exact List.mem_range.mp hk
   have hc:(fB<|f2 MN (ae 5)<|f2 aN (ae 2)<|ae 4) (aI [.val<|aw G T W,.val<|af c,.val<|af<|gN false G T W c,.val<|af<|Ag G T W c,.val<|nD k,.val<|.int<|(Ag G T W c).getD k 0])=↑(qR G T W c k):=by
    dsimp! [Gh X,m6,qR]
   refine{[.val<|aw G T W,.val<|af c,.val<|af<|gN false G T W c,.val<|af<|Ag G T W c,.val<|nD k,.val<|.int<|(Ag G T W c).getD k 0],rfl,λq=>?_,λq=>?_}
   .rw[q]at hc;unfold SI;rw[xc hc];exact bR<|Tq rfl rfl
   .rw[q]at hc;unfold SI;rw[sN hc];exact{_,rfl,_,_,rfl}) {_,_,rfl}
 have i:(cW<|aa (ae 3) ag) (bD [.val<|aw G T W,.val<|af c,.val<|af<|gN false G T W c,.val<|af<|Ag G T W c,.VC,.VC])=↑((List.range W.length).map λk=>.tuple [nD k,.int<|(Ag G T W c).getD k 0]):=by
  have:=EE<|Ag G T W c;rw[NI]at this;rw[<-this];rfl
 refine bq ?_;show n5 [.val<|aw G T W,.val<|af c,.VC,.VC,.VC,.VC]=_;unfold n5;rw[au t,au b];unfold BE;cases q:(List.range W.length).find? (qR G T W c)with
 |some k =>
  exact O3 (iR (H.1 k q) i rfl)
 |none =>
  let(d,e,x,y,rfl):=H.2 q;exact(au<|iR e i rfl).trans<|bR rfl
def iy(l:Γ Int)(k:Nat)(v:Int)(i:Nat):(l.set k v).getD i 0=if k=i/\i<l.length then v else l.getD i 0:=by
 by_cases h:k=i
 .subst h;by_cases H:k<l.length
  .simp[H]
  .simp[H]
 .simp[h]
def zw{a b:Γ Int}{i:Nat}(H:i<a.length)(B:i<b.length):(List.zipWith (·+·) a b).getD i 0=a.getD i 0+b.getD i 0:=by
 rw[zG,zG,zG,List.getElem?_zipWith,zK H,zK B];rfl
def Off(off:Γ Int):Prop:=∀i,0<=off.getD i 0
def S8(W:Γ Wy):Prop:=∀i,0<=(aZ W i).2.2
def Wd.lim{G T:Γ Pl}{W:Γ Wy}(h:Wd G T W):S8 W:=λi=>by
 by_cases H:i<W.length
 .have:=h.wr (aZ W i) (by rw[<-iT H];exact qA H);lia
 .simp?[aZ,zG];rw[jL<|by lia];simp
def Wd.amt{G T:Γ Pl}{W:Γ Wy}(h:Wd G T W)(b:θ)(i:Nat):0<=(cq b G T i).1:=by
 unfold cq;rw[zG];cases e:(aX b G T)[i]? with
 |none=>simp
 |some p =>
  have m:=qB e;cases b
  .exact (h.ga p m).1
  .exact (h.ta p m).1
def Pt{W:Γ Wy}{off:Γ Int}(o:Off off)(L:S8 W){amt:Int}(a:0<=amt)(I:Γ Nat)(i:Nat):0<=(uP W off amt I).getD i 0/\(uP W off amt I).getD i 0<=off.getD i 0:=by
 have:=lH (l:=I) (f:=nM W off) (s:=(amt,List.replicate W.length 0)) (λs=>0<=s.1/\∀i,0<=s.2.getD i 0/\s.2.getD i 0<=off.getD i 0) (λs k _ z=>by
  let(c,H):=z;have O:=o k;have K:=L k;have v:0<=cV W off s.1 k:=by unfold cV;lia
  have b:cV W off s.1 k<=off.getD k 0:=by unfold cV;lia
  have d:cV W off s.1 k<=s.1:=by unfold cV;lia
  refine{by simp?[nM];lia,λi=>?_};simp?[nM,iy];split
  .rename_i z;rw[<-z.1];exact⟨v,b⟩
  .exact H i) ⟨a,λi=>by
   have:=o i;have z:(List.replicate W.length (0:Int)).getD i 0=0:=by
    simp?[zG,yX];split<;>rfl
   simp?[z];lia⟩
 exact this.2 i
def Dq{W:Γ Wy}{off:Γ Int}{amt:Int}{I:Γ Nat}{i:Nat}(hi:i∉I):(uP W off amt I).getD i 0=0:=by
 refine lH (l:=I) (f:=nM W off) (s:=(amt,List.replicate W.length 0)) (λs=>s.2.getD i 0=0) (λs k hk h=>?_) ?_
 .simp?[nM,iy];have H:¬(k=i/\i<s.2.length):=λz=>hi<|z.1▸hk;rw[yN H,h]
 .simp?[zG,yX];split<;>rfl
def u9{G T:Γ Pl}{W:Γ Wy}(h:Wd G T W){off:Γ Int}(o:Off off)(b:θ):∀(n:Nat),n<=(aX b G T).length ->
  ((List.range n).foldl (zz b G T W off)<|List.replicate W.length 0).length=W.length/\∀i,i<W.length->(0<=((List.range n).foldl (zz b G T W off)<|List.replicate W.length 0).getD i 0/\((List.range n).foldl (zz b G T W off)<|List.replicate W.length 0).getD i 0<=off.getD i 0)/\((n:Nat)<=bK b (aZ W i)->((List.range n).foldl (zz b G T W off)<|List.replicate W.length 0).getD i 0=0)
 |0,_=>by
  refine{by simp,λi H=>?_};have:=o i;have z:((List.range 0).foldl (zz b G T W off)<|List.replicate W.length 0).getD i 0=0:=by simp[zG,H]
  rw[z];exact{by lia,λ_=>rfl}
 |n+1,N=>by
  let(a,c):=u9 h o b n (by lia);rw[vP,vB,yI,List.foldl_nil];generalize (List.range n).foldl (zz b G T W off) (List.replicate W.length 0)=s at a c;refine{pP a,λi H=>?_};let(f,d):=c i H;have e:=eP (b:=b) (G:=G) (T:=T) (i:=n) (by lia);have hc:=Pt o h.lim (h.amt b n) (mD b W n (cq b G T n).2) i;have Z:(zz b G T W off s n).getD i 0=s.getD i 0+(uP W off (cq b G T n).1<|mD b W n (cq b G T n).2).getD i 0:=zw (by lia) (by rw[wY];exact H);rw[Z];by_cases E:bK b (aZ W i)=n
  .rw[d<|by lia];exact{by lia,λz=>by lia}
  .have I:i∉mD b W n (cq b G T n).2:=λz=>E (fY.mp<|(iE h e).mem_iff.mp z).2;rw[Dq I];exact{by lia,λz=>by rw[d<|by lia];rfl}
def AE{l:Γ Int}{i:Nat}(h:l.length<=i):l.getD i 0=0:=by simp[zG,h]
def mv{G T:Γ Pl}{W:Γ Wy}(h:Wd G T W){off:Γ Int}(o:Off off)(b:θ):Off (gN b G T W off):=λi=>by
 by_cases H:i<W.length
 .exact ((u9 h o b _<|yM _).2 i H).1.1
 .rw[AE (by rw[nI];lia)];exact xZ 0
def A8{G T:Γ Pl}{W:Γ Wy}(h:Wd G T W){off:Γ Int}(o:Off off)(b:θ){i:Nat}(hi:i<W.length):(gN b G T W off).getD i 0<=off.getD i 0:=
 ((u9 h o b _<|yM _).2 i hi).1.2
def FH{G T:Γ Pl}{W:Γ Wy}(h:Wd G T W){c:Γ Int}(o:Off c){p:Nat×Int}(e:BE G T W c=↑p):p.1<W.length/\0<=p.2/\p.2<c.getD p.1 0:=by
 unfold BE at e;let(k,hk,rfl):=Dl.ai e;have m:=List.mem_of_find?_eq_some hk;have q:=List.find?_some hk;have i:=List.mem_range.mp m;rw[qR,zJ]at q;have a:=A8 h o false i;have b:=mv h (mv h o false) true k;exact{i,b,by simp only;lia}
def X7(c:Γ Int):Nat:=(c.map Int.toNat).sum
def C9:∀{c:Γ Int}{k:Nat}{v:Int},0<=v->v<c.getD k 0->X7 (c.set k v)<X7 c
 |[],k,v,a,H=>by simp at H;lia
 |x::c,0,v,a,H=>by
  simp at H;simp?[X7,yV,zI,kA];lia
 |x::c,k+1,v,a,H=>by
  have:=C9 (c:=c) (k:=k) a (by simpa using H);simp?[X7,yW,zI,kA]at this ⊢;lia
def Cm:∀{W:Γ Wy},(∀w∈W,w.2.2<=9)->X7 (eM W)<=9*W.length
 |[],_=>by simp[X7,eM]
 |w::W,h=>by
  have:=Cm (W:=W) λx H=>h x<|zC _ H;have:=h w zE;simp?[X7,eM,zI,kA,zL]at *;lia
def Ma{G T:Γ Pl}{W:Γ Wy}(h:Wd G T W):Off (eM W):=λi=>by
 have:=h.lim i;by_cases H:i<W.length
 .simpa [eM,aZ,zG,H]using this
 .rw[AE (by rw[ny];lia)];exact xZ 0
def Kc{c:Γ Int}(h:Off c){k:Nat}{v:Int}(H:0<=v):Off (c.set k v):=λi=>by
 rw[iy];split
 .exact H
 .exact h i
def rS(a:Γ Int):SeqAt.shaped (af a)=true:=
 (iP.tup (b:=a.length) (k:=0) (by simp) λx H=>by let(i,_,rfl):=List.mem_map.mp H;apply mK).shaped (by decide)
def Ao(a b:Γ Int):PyData.eqv (af a) (af b)=decide (a=b):=by
 rw[af,af,PyData.eqv,nH]
def cF(h:f ρ=↑(.bool b)):fB f ρ=↑b:=by
 simp[fB,h,zA,gB]
def my(h:t ρ=↑b):eO t ρ=↑(!b):=by
 simp[eO,h,zB]
def zj(a b:Γ Int):dC (af a) (af b)=↑(.bool<|!decide (a=b)):=by
 simp[dC,NH,rS,jO,xH,Ao,zB]
def uQ(a:Γ Int):dC (af a) (af a)=↑(.bool false):=by rw[zj];simp
def Fh(a b:Γ (Γ Int)):dC (.list<|a.map af) (.list<|b.map af)=↑(.bool<|!decide (a=b)):=by
 simp?[dC,NH,j4,jO,xH,PyData.eqv,sV,zB]
def L3(x:Δ (Nat×Int)):yk (B6 x) .none=↑(.bool x.isSome):=by cases x<;>rfl
def bN(A:f (aI ρ)=↑d)(F:f (bD ρ)=↑d)(H:hand fz 0 ρ=ρ):Dl.aL i fz f ρ=↑(.nx<|ρ.set i<|.val d):=by
 cases s:Dl.kg d with
 |true=>exact dy A s
 |false=>exact rW H A F s<|.inr rfl
def rN(A:f (aI ρ)=↑d)(F:f (bD ρ)=↑d)(H:hand fz 0 ρ=ρ)(o:ρ[i]?=↑(.own ds))(l:ds.length<4000):jq i fz f ρ=↑(.nx<|ρ.set i<|.own<|ds++[d]):=by
 have z:ds.length<sizeLine:=zP l (by decide);have I:lM fz f ρ=↑(d,ρ):=by
  unfold lM;rw[A,zA,H,F];cases Dl.kg d<;>rfl
 simp?[jq,I,zA,oN,o,z,xH,zB]
def cJ(h:Wd G T W):cK [aw G T W]=↑.none:=by
 have hw:cZ [aw G T W]=↑(.bool true):=by rw[rR h.fit<|by decide,h.wok]
 have hc:zq3 (aI [.val<|aw G T W])=↑false:=my<|cF<|call_of hw rfl rfl;have:eZ [.val<|aw G T W]=↑(.nx [.val<|aw G T W]):=by
  unfold eZ;rw[sN hc]
 show(eZ [.val<|aw G T W]).map _=_;rw[this];rfl
def gZ(H:a<=i)(c:i<=b):bJ [.int i,.int a,.int b]=↑.none:=by
 have hw:cB [.int i,.int a,.int b]=↑(.bool true):=by rw[eW rfl];simp[whole,H,c]
 have hc:abf (aI [.val<|.int i,.val<|.int a,.val<|.int b])=↑false:=my<|cF<|call_of hw rfl rfl;have:cG [.val<|.int i,.val<|.int a,.val<|.int b]=↑(.nx [.val<|.int i,.val<|.int a,.val<|.int b]):=by
  unfold cG;rw[sN hc]
 show(cG [.val<|.int i,.val<|.int a,.val<|.int b]).map _=_;rw[this];rfl
def gw(H:0<=i)(a:i<=n-1):aV [.int i,.int n]=↑.none:=by
 have:cm [.val<|.int i,.val<|.int n]=↑(.nx [.val<|.int i,.val<|.int n]):=by
  unfold cm;exact dW<|call_of (gZ H a) (cons_of rfl (cons_of rfl (cons_of (aD (sub_int n 1) rfl rfl) rfl))) rfl
 show(cm [.val<|.int i,.val<|.int n]).map _=_;rw[this];rfl
def mW(b:θ):fW [.int<|sI b]=↑.none:=by
 have:fS [.val<|.int<|sI b]=↑(.nx [.val<|.int<|sI b]):=by
  unfold fS;exact dW<|call_of (gw (n:=2) (i:=sI b) (by cases b<;>decide) (by cases b<;>decide)) rfl rfl
 show(fS [.val<|.int<|sI b]).map _=_;rw[this];rfl
abbrev Sp:=Γ (Nat×Int)×Γ Int
def Qb(G T:Γ Pl)(W:Γ Wy)(s:Sp):θ:=(BE G T W s.2).isSome
def spS(G T:Γ Pl)(W:Γ Wy)(s:Sp):Sp:=match BE G T W s.2 with|some p=>(s.1++[p],s.2.set p.1 p.2)|none=>s
def low(c:Γ Int)(p:Nat×Int):Γ Int:=c.set p.1 p.2
structure Fz(W:List Wy)(s:Sp):Prop where
 len:s.2.length=W.length
 off:Off s.2
 eq:s.2=s.1.foldl low (eM W)
 bd:s.1.length+X7 s.2<=X7 (eM W)
 mem:∀p∈s.1,p.1<W.length
def Fz.start(h:Wd G T W):Fz W ([],eM W):={ny W,Ma h,rfl,by simp,λp H=>by cases H}
def Cb(e:BE G T W s.2=↑p):spS G T W s=(s.1++[p],s.2.set p.1 p.2):=by
 unfold spS;rw[e]
def Fz.step(h:Wd G T W)(i:Fz W s)(e:BE G T W s.2=↑p):Fz W (spS G T W s)/\X7 (spS G T W s).2<X7 s.2:=by
 let(a,H,b):=FH h i.off e;have m:=C9 H b;rw[Cb e];refine{{by simp[i.len],Kc i.off H,?_,?_,λq Q=>?_},m}
 .rw[vB,<-i.eq];rfl
 .have:=i.bd;simp?[zN,xC];lia
 .rcases List.mem_append.mp Q with z|z
  .exact i.mem q z
  .rw[yJ]at z;rw[z];exact a
def Wd.X7(h:Wd G T W):X7 (eM W)<=144:=by
 have:=Cm (W:=W) λw hw=>(h.wr w hw).2.2.2;have:=h.wl;lia
def iK(r:Γ (Nat×Int)):Γ D:=(r.map λp=>[((p.1:Nat):Int),p.2]).map af
def Lx(r:Γ (Nat×Int))(p:Nat×Int):iK (r++[p])=iK r++[B6<|↑p]:=by simp[iK];rfl
def Lj(r:Γ (Nat×Int)):(iK r).length=r.length:=by simp[iK]
def fin(G T:Γ Pl)(W:Γ Wy):Sp:=lp (Qb G T W) (spS G T W) Rf.turns ([],eM W)
def SK:ao->Δ Out:=(aH (jq 1 [3]<|ae 3)<|aH (Dl.aL 2 [2,3]<|aj 3 eX<|aa (ae 2)<|aa (f2 aN (ae 3)<|fC<|.int 0)<|aa (f2 aN (ae 3)<|fC<|.int 1) ag)<|Dl.aL 3 [0,2]<|aj 2 iA<|aa (ae 0)<|aa (ae 2) ag)
def M5(G T:Γ Pl)(W:Γ Wy)(s:Sp):ao:=[.val<|aw G T W,.own<|iK s.1,.val<|af s.2,.val<|B6<|BE G T W s.2]
def Kv(h:Wd G T W)(i:Fz W s)(e:BE G T W s.2=↑p):SK (M5 G T W s)=↑(.nx<|M5 G T W<|spS G T W s):=by
 let(f,k,l):=FH h i.off e;let(I,m):=i.step h e;have B:=h.X7;have D:=i.bd;have hw:=h.wl;have t:jq 1 [3] (ae 3) (M5 G T W s)=↑(.nx [.val<|aw G T W,.own<|iK s.1++[B6<|↑p],.val<|af s.2,.val<|B6<|↑p]):=by
  unfold M5;rw[e];exact rN rfl rfl rfl rfl (by rw[Lj];lia)
 have Y:∀d:Dl.Env,ae 2 d=↑(af s.2)->ae 3 d=↑(B6<|↑p)->(aj 3 eX<|aa (ae 2)<|aa (f2 aN (ae 3)<|fC<|.int 0)<|aa (f2 aN (ae 3)<|fC<|.int 1) ag) d=↑(af<|s.2.set p.1 p.2):=λd a b =>
  call_of (ub (c:=s.2) (i:=p.1) (v:=p.2) (by rw[i.len];exact f) (by rw[i.len];lia)) (cons_of a<|cons_of (aD (Ul _ _) b rfl)<|cons_of (aD (SH _ _ _) b rfl) rfl) rfl
 have g:Dl.aL 2 [2,3] (aj 3 eX<|aa (ae 2)<|aa (f2 aN (ae 3)<|fC<|.int 0)<|aa (f2 aN (ae 3)<|fC<|.int 1) ag) [.val<|aw G T W,.own<|iK s.1++[B6<|↑p],.val<|af s.2,.val<|B6<|↑p]=↑(.nx [.val<|aw G T W,.own<|iK s.1++[B6<|↑p],.val<|af<|s.2.set p.1 p.2,.val<|B6<|↑p]):=
  bN (Y _ rfl rfl) (Y _ rfl rfl) rfl
 have H:(s.2.set p.1 p.2).length=W.length:=by rw[yC,i.len]
 have j:Dl.aL 3 [0,2] (aj 2 iA<|aa (ae 0)<|aa (ae 2) ag) [.val<|aw G T W,.own<|iK s.1++[B6<|↑p],.val<|af<|s.2.set p.1 p.2,.val<|B6<|↑p]=↑(.nx [.val<|aw G T W,.own<|iK s.1++[B6<|↑p],.val<|af<|s.2.set p.1 p.2,.val<|B6<|BE G T W<|s.2.set p.1 p.2]):=
  bN (call_of (lh h H) rfl rfl) (call_of (lh h H) rfl rfl) rfl
 unfold SK;rw[au t,au g,j,Cb e];unfold M5;rw[Lx]
def AF(h:Qb G T W s=true):∃p,BE G T W s.2=↑p:=Option.isSome_iff_exists.mp h
def J2(h:Wd G T W):u5 [aw G T W]=↑(.list<|iK (fin G T W).1)/\Fz W (fin G T W):=by
 have b:=h.X7;have c:bb 1 [] (gO ag) [.val<|aw G T W,.VC,.VC,.VC]=↑(.nx [.val<|aw G T W,.own [],.VC,.VC]):=gc (f:=gO ag) (ds:=[]) (show small []=↑[]from bO<|by simp) rfl;have d:Dl.aL 2 [0] zq8 [.val<|aw G T W,.own [],.VC,.VC]=↑(.nx [.val<|aw G T W,.own [],.val<|af<|eM W,.VC]):=
  bN (call_of (mI h) rfl rfl) (call_of (mI h) rfl rfl) rfl
 have g:Dl.aL 3 [0,2] aeg [.val<|aw G T W,.own [],.val<|af<|eM W,.VC]=↑(.nx<|M5 G T W ([],eM W)):=
  bN (call_of (lh h<|ny W) rfl rfl) (call_of (lh h<|ny W) rfl rfl) rfl
 let(j,w,(rfl,v),_):=zf (t:=aei) (gb:=SK) (R:=λs a=>a=M5 G T W s/\Fz W s) (Qb G T W) (spS G T W) (λs=>X7 s.2)
  (λs a z=>by
   let(Z,i):=z;subst Z;exact cF<|aD (L3 _) rfl rfl)
  (λs a z hc=>by
   let(Z,i):=z
   subst Z;let(p,e):=AF hc;exact{_,Kv h i e,{rfl,(i.step h e).1},(i.step h e).2})
  Rf.turns ([],eM W) (M5 G T W ([],eM W)) (qY b<|by decide) {rfl,Fz.start h}
 refine{?_,v};refine bq ?_;show wk [.val<|aw G T W,.VC,.VC,.VC]=_;unfold wk;rw[au c,au d,au g];refine(au w).trans ?_;exact bR rfl
def Lk(c:Γ Int)(p:Nat×Int):(low c p).length=c.length:=by simp[low]
def Gv(h:Wd G T W)(b:∀p∈r,p.1<W.length):qq [aw G T W,.list<|iK r]=↑(af<|r.foldl low<|eM W):=by
 have hw:=h.wl;have d:Dl.aL 2 [0] zq8 [.val<|aw G T W,.val<|.list<|iK r,.VC,.VC,.VC]=↑(.nx [.val<|aw G T W,.val<|.list<|iK r,.val<|af<|eM W,.VC,.VC]):=
  bN (call_of (mI h) rfl rfl) (call_of (mI h) rfl rfl) rfl
 let(f,E,X,x,y,rfl):=mM (tgt:=js 3 4) (gb:=Dl.aL 2 [2,3,4] acJ) (R:=λ(c:Γ Int)a=>c.length=W.length/\∃x y,a=[.val<|aw G T W,.val<|.list<|iK r,.val<|af c,x,y]) (λp:Nat×Int=>af [((p.1:Nat):Int),p.2]) low
  (l:=r) (s:=eM W) (ρ:=[.val<|aw G T W,.val<|.list<|iK r,.val<|af<|eM W,.VC,.VC])
  (λc a p H z=>by
   let(hc,x,y,Z):=z;subst Z;have e:=ub (c:=c) (i:=p.1) (v:=p.2) (by rw[hc];exact b p H) (by lia);have t:Dl.aL 2 [2,3,4] acJ [.val<|aw G T W,.val<|.list<|iK r,.val<|af c,.val<|nD p.1,.val<|.int p.2]=↑(.nx [.val<|aw G T W,.val<|.list<|iK r,.val<|af<|low c p,.val<|nD p.1,.val<|.int p.2]):=
    bN (call_of e rfl rfl) (call_of e rfl rfl) rfl
   exact{_,_,rfl,t,by rw[Lk,hc],_,_,rfl}) {ny W,_,_,rfl}
 refine bq ?_;show sr [.val<|aw G T W,.val<|.list<|iK r,.VC,.VC,.VC]=_;unfold sr;rw[au d];refine(au<|iR E ?_ rfl).trans<|bR rfl;show some (iK r)=_;rw[iK,zM];rfl
def tm(h:Wd G T W):aR [aw G T W]=↑(af<|gN false G T W (fin G T W).2):=by
 let(E,i):=J2 h;have e:=Gv h i.mem;rw[<-i.eq]at e;refine bq ?_;show gY [.val<|aw G T W]=_;unfold gY;refine(au<|dW<|call_of (cJ h) rfl rfl).trans ?_;exact bR<|call_of (fM h i.len false) (cons_of rfl (cons_of rfl (cons_of (call_of e (cons_of rfl (cons_of (call_of E rfl rfl) rfl)) rfl) rfl))) rfl
def Jk(w:Wy):Wy:=(w.2.1,w.1,w.2.2)
structure Ord(W:List Wy)(π:List Nat):Prop where
 perm:π.Perm (List.range W.length)
 up:π.Pairwise λi j=>(aZ W i).2.1<(aZ W j).2.1\/((aZ W i).2.1=(aZ W j).2.1/\(aZ W i).1<(aZ W j).1)
def P1(b:θ)(W:Γ Wy)(P:Γ Int)(p:Int):Int:=((own b W p).map λi=>P.getD i 0).sum
def Ir{l m:Γ Int}(p:l.Perm m):l.sum=m.sum:=by
 induction p with
 |nil=>rfl
 |cons x _ i=>simp[i]
 |swap x y l=>simp?[kA];lia
 |trans _ _ H a=>exact H.trans a
def Wd.WI(h:Wd G T W)(b:θ)(hk:k<W.length):0<=bK b (aZ W k)/\(bK b<|aZ W k).toNat<(aX b G T).length/\(bK b<|aZ W k).toNat=bK b (aZ W k):=by
 have:=h.wr (aZ W k) (by rw[<-iT hk];simp);cases b
 .simp[bK,aX,yO,qN];lia
 .simp[bK,aX,xH];lia
structure Pn(G T:List Pl)(W:List Wy)(P:List Int):Prop where
 len:P.length=W.length
 bd:∀k,k<W.length->0<=P.getD k 0/\P.getD k 0<=(aZ W k).2.2
 am:∀(b:θ)(i:Nat),i<(aX b G T).length->P1 b W P i<=(cq b G T i).1
section
variable {off:Γ Int}
def C4(h:Wd G T W)(b:θ):∀(n:Nat),n<=(aX b G T).length ->
  ((List.range n).foldl (zz b G T W off)<|List.replicate W.length 0).length=W.length/\∀k,k<W.length ->
   ((List.range n).foldl (zz b G T W off)<|List.replicate W.length 0).getD k 0=if bK b (aZ W k)<n then(uP W off (cq b G T (bK b<|aZ W k).toNat).1<|mD b W (bK b<|aZ W k).toNat (cq b G T (bK b<|aZ W k).toNat).2).getD k 0 else 0
 |0,_=>by
  refine{by simp,λk hk=>?_};let(H,_,_):=h.WI b hk;rw[yN<|by lia];simp[zG,hk]
 |n+1,c=>by
  let(H,a):=C4 h b n (by lia);rw[vP,vB,yI,List.foldl_nil];generalize (List.range n).foldl (zz b G T W off) (List.replicate W.length 0)=s at H a;refine{pP H,λk hk=>?_};have Z:(zz b G T W off s n).getD k 0=s.getD k 0+(uP W off (cq b G T n).1<|mD b W n (cq b G T n).2).getD k 0:=zw (by lia) (by rw[wY];exact hk);rw[Z,a k hk];let(g,_,_):=h.WI b hk;have e:=eP (b:=b) (G:=G) (T:=T) (i:=n) (by lia);by_cases E:bK b (aZ W k)=n
  .have N:(bK b<|aZ W k).toNat=n:=by lia
   rw[yN<|by lia,yL<|by lia,N];lia
  .have I:k∉mD b W n (cq b G T n).2:=λz=>E (fY.mp<|(iE h e).mem_iff.mp z).2;rw[Dq I];by_cases w:bK b (aZ W k)<n
   .rw[yL w,yL<|by lia];lia
   .rw[yN w,yN<|by lia];rfl
def NN(h:Wd G T W)(b:θ)(hk:k<W.length):(gN b G T W off).getD k 0=(uP W off (cq b G T (bK b<|aZ W k).toNat).1<|mD b W (bK b<|aZ W k).toNat (cq b G T (bK b<|aZ W k).toNat).2).getD k 0:=by
 have:=(C4 (off:=off) h b _<|yM _).2 k hk;let(_,H,a):=h.WI b hk;rw[yL<|by lia]at this;exact this
def CQ{amt:Int}:∀(I:Γ Nat)(s:Int×Γ Int),I.Nodup->(∀i∈I,i<s.2.length/\s.2.getD i 0=0) ->
  ((I.foldl (nM W off) s).2.length=s.2.length)/\(I.map λi=>(I.foldl (nM W off) s).2.getD i 0).sum=s.1-(I.foldl (nM W off) s).1/\∀j,j∉I->(I.foldl (nM W off) s).2.getD j 0=s.2.getD j 0
 |[],s,_,_=>{rfl,by simp,λ_ _=>rfl}
 |i::I,s,n,c=>by
  rw[kR]at n;let(d,e):=c i zE;have S:∀j∈I,j<(nM W off s i).2.length/\(nM W off s i).2.getD j 0=0:=λj H=>by
   let(a,b):=c j<|zC _ H;refine{by simpa [nM]using a,?_};simp?[nM,iy];have Z:¬(i=j/\j<s.2.length):=λz=>n.1<|z.1▸H;rw[yN Z,b]
  let(r1,R,r):=CQ (amt:=amt) I (nM W off s i) n.2 S;rw[yI];refine{by rw[r1];simp[nM],?_,λj H=>?_}
  .rw[zI,kA,R,r i n.1];simp?[nM,iy];rw[yL {trivial,d}];lia
  .rw[r j λz=>H<|zC _ z];simp?[nM,iy];have Z:¬(i=j/\j<s.2.length):=λz=>H<|z.1▸zE;rw[yN Z]
def Ap(o:Off off)(l:S8 W):∀(I:Γ Nat)(s:Int×Γ Int),0<=s.1->0<=(I.foldl (nM W off) s).1
 |[],s,h=>h
 |i::I,s,h=>by
  rw[yI];refine Ap o l I _ ?_;simp?[nM,cV];have:=o i;have:=l i;lia
def Mq(h:Wd G T W)(o:Off off)(hi:i<(aX b G T).length) :
  ((own b W i).map λk=>(uP W off (cq b G T i).1<|mD b W i (cq b G T i).2).getD k 0).sum<=(cq b G T i).1:=by
 have e:=eP hi;have p:=iE h e;rw[<-Ir<|p.map λk=>(uP W off (cq b G T i).1<|mD b W i (cq b G T i).2).getD k 0];have n:(mD b W i (cq b G T i).2).Nodup:=p.nodup_iff.mpr<|List.nodup_range.filter _;let(_,r,_):=CQ (W:=W) (off:=off) (amt:=0) (mD b W i (cq b G T i).2) ((cq b G T i).1,List.replicate W.length 0) n λk hk=>by
  have X:=(fY.mp<|p.mem_iff.mp hk).1;refine{by simpa using X,by simp[zG,X]}
 have:=Ap o h.lim (mD b W i (cq b G T i).2) ((cq b G T i).1,List.replicate W.length 0)<|h.amt b i;unfold uP;rw[r];show(cq b G T i).1-_<=(cq b G T i).1;lia
def DC(h:Wd G T W)(o:Off off)(hi:i<(aX b G T).length):P1 b W (gN b G T W off) i<=(cq b G T i).1:=by
 refine jT (Int.le_of_eq ?_)<|Mq h o hi;unfold P1
 congr 1
 refine yH λk hk=>?_;let(X,e):=fY.mp hk;have:=NN (off:=off) h b X;rw[e,yG]at this;exact this
def Eh(h:∀k,k<W.length->P.getD k 0=Q.getD k 0):P1 b W P p=P1 b W Q p:=by
 unfold P1
 congr 1
 exact yH λk hk=>h k (fY.mp hk).1
def K0(h:Wd G T W)(o:Off c)(hc:∀k,k<W.length->c.getD k 0<=(aZ W k).2.2)(e:BE G T W c=none):Pn G T W (gN false G T W c) where
 len:=nI _ _ _ _ _
 bd:=λk hk=>{mv h o false k,jT (A8 h o false hk)<|hc k hk}
 am:=λb i I=>by
  cases b
  .exact DC h o I
  .have H:∀k,k<W.length->(Ag G T W c).getD k 0=(gN false G T W c).getD k 0:=λk hk=>by
    have f:=A8 h (mv h o false) true hk;have a:qR G T W c k=false:=by
     unfold BE at e;rw[Option.map_eq_none_iff]at e;have:=List.find?_eq_none.mp e k (by simpa using hk);simpa using this
    unfold qR at a;have d:=of_decide_eq_false a;unfold Ag at d ⊢;lia
   rw[<-Eh H];exact DC h (mv h o false) I
end
def zs(n:Nat):Γ Int:=List.replicate n 0
section
variable {W:Γ Wy}{G T:Γ Pl}{d:Nat->Int}
end
section
variable {P off:Γ Int}
end
def ue{tt:Dl.Env->Δ θ}{te:Dl.Env->Δ D}{r:Γ (Δ D)}{x y h:Nat->D}{p:Nat->θ}:∀(s:Γ Nat),
  (∀i∈s,tt (↑(x i)::↑(y i)::r)=↑(p i)/\(p i=true->te (↑(x i)::↑(y i)::r)=↑(h i))) ->
  d9 (jx 0 1) tt te (none::none::r) (s.map λi=>.tuple [x i,y i])=↑((s.filter p).map h)
 |[],_=>rfl
 |i::s,a=>by
  let(b,c):=a i zE;have I:=ue s λj J=>a j<|zC _ J;have g:jx 0 1 (none::none::r) (.tuple [x i,y i])=↑(↑(x i)::↑(y i)::r):=by
   simp?[jx,isFree,xQ,yY,qG,wF,jO,xH,yV,yW]
  rw[zI,d9,g];simp?[zA,b];cases H:p i with
  |true=>simp[c H,I,H]
  |false=>simp[I,H]
def Aj{fi:Dl.Env->Δ _}{tt:Dl.Env->Δ θ}{te:Dl.Env->Δ D}{ρ:Dl.Env}{n:Nat}{x y h:Nat->D}{p:Nat->θ}(Y:fi ρ=↑((List.range n).map λi=>.tuple [x i,y i]))(l:n<=1000)
  (H:∀i,i<n->tt (↑(x i)::↑(y i)::cs.map λj=>(ρ[j]?).getD none)=↑(p i)/\(p i=true->te (↑(x i)::↑(y i)::cs.map λj=>(ρ[j]?).getD none)=↑(h i))) :
  ax 2 cs fi (jx 0 1) tt te ρ=↑(((List.range n).filter p).map h):=by
 have:=ue (List.range n) λi I=>H i (by simpa using I);simp[ax,Y,zA,fQ,List.replicate,xF,xO,this];apply bO
 grind
def EU{W:Γ Wy}{P:Γ Int}(h:P.length=W.length):l6 (W.map aE) (P.map PyData.int)=(List.range W.length).map λi=>.tuple [aE<|aZ W i,.int<|P.getD i 0]:=by
 apply List.ext_getElem?;intro i;by_cases H:i<W.length
 .have z:i<(l6 (W.map aE)<|P.map .int).length:=by rw[nq];simp[h];exact H
  rw[zK z];let(x,y,E,e,a):=rA<|zK z;rw[zO,iU H]at E;rw[zO,zK<|by lia]at e;cases E;have e:=by simpa using e
  rw[a,<-e];have:i<P.length:=by lia
  simp[H,this,zG]
 .rw[jL (by rw[nq];grind),jL<|by grind]
def xu(h:f ρ=↑d):cQ g (aa f ag) ρ=g [d]:=by
 simp[cQ,aa,ag,h,zB,zA]
def lZ{l:Γ α}(h:f ρ=↑(.tuple<|l.map k)):cQ cS (aa f ag) ρ=↑(nD l.length):=by
 rw[xu h,D0,zD]
def IW(hk:k<W.length):aZ W k∈W:=iT hk▸qA hk
def tup_is(h:fs ρ=↑ds)(l:ds.length<=1000):bg fs ρ=↑(.tuple ds):=by
 simp[bg,h,zA,bO (show ds.length<=4000 by lia),zB]
def pX(h:a.length+b.length<=1000):Dl.aS (af a) (af b)=↑(af<|a++b):=by
 unfold af;rw[mE<|by grind,qZ]
def pZ(h:U ρ=↑true)(a:fa ρ=↑d):ME U fa fb ρ=↑d:=by
 simp[ME,h,zA,a]
def xw(h:U ρ=↑false)(a:fb ρ=↑d):ME U fa fb ρ=↑d:=by
 simp[ME,h,zA,a]
def DK(c:S->θ)(st:S->S)(a:S->Nat)(I:S->Prop)(b:∀s,I s->c s=true->I (st s)/\a (st s)<a s):∀(n:Nat)(s:S),a s<n->I s->c (lp c st n s)=false/\I (lp c st n s)
 |0,s,h,_=>absurd h (by lia)
 |n+1,s,h,i=>by
  rw[lp];cases hc:c s with
  |false=>exact{by simpa [hc]using hc,by simpa using i}
  |true =>
   let(d,m):=b s i hc;have:=DK c st a I b n (st s) (by lia) d;simpa using this
def N4(hk:k<W.length):(eM W).getD k 0=(aZ W k).2.2:=by
 unfold eM;rw[zG,zO,iU hk];rfl
def J7(h:Wd G T W):BE G T W (fin G T W).2=none/\Fz W (fin G T W)/\∀k,k<W.length->(fin G T W).2.getD k 0<=(aZ W k).2.2:=by
 have B:=h.X7;let(H,i,d):=DK (Qb G T W) (spS G T W) (λs=>X7 s.2) (λs=>Fz W s/\∀k,k<W.length->s.2.getD k 0<=(aZ W k).2.2)
  (λs z hc=>by
   let(i,l):=z
   let(p,e):=AF hc;let(a,b,c):=FH h i.off e;let(I,m):=i.step h e;refine{{I,λk hk=>?_},m};rw[Cb e];show(s.2.set p.1 p.2).getD k 0<=_;by_cases z:k=p.1
   .subst z;have:=l p.1 a;have L:p.1<s.2.length:=by rw[i.len];exact a
    rw[show(s.2.set p.1 p.2).getD p.1 0=p.2 by simp[L]];lia
   .rw[show(s.2.set p.1 p.2).getD k 0=s.2.getD k 0 by simp[kP<|jM z]];exact l k hk) Rf.turns ([],eM W) (qY B<|by decide) {Fz.start h,λk hk=>by rw[N4 hk];lia}
 refine{?_,i,d};have:Qb G T W (fin G T W)=false:=H;unfold Qb at this;exact Option.isNone_iff_eq_none.mp (by simpa using this)
def Kt(G T:Γ Pl)(W:Γ Wy):Γ Int:=gN false G T W (fin G T W).2
def HA(h:Wd G T W):Pn G T W (Kt G T W):=by
 let(H,i,a):=J7 h;exact K0 h i.off a H
def Bc(h:Wd G T W):aR [aw G T W]=↑(af<|Kt G T W):=tm h
def o6:∀{l:Γ D},(∀d∈l,PyData.eqv d d=true)->PyData.eqvAll l l=true
 |[],_=>by rfl
 |d::l,h=>by
  rw[PyData.eqvAll,h d zE,o6 λx H=>h x<|zC _ H];rfl
def lu(h:∀d∈l,PyData.eqv d d=true):PyData.eqv (.tuple l) (.tuple l)=true:=by
 rw[PyData.eqv,o6 h]
def BY(a:Γ Int):PyData.eqv (af a) (af a)=true:=by rw[Ao];simp
def Gb(a:Int):PyData.eqv (.int a) (.int a)=true:=by
 have:=BY [a];rw[af,PyData.eqv,zI,yU,PyData.eqvAll]at this;simp?[zF]at this;exact this.1
def Dj(p:Pl):PyData.eqv (bA p) (bA p)=true:=lu λd H=>by
 rcases List.mem_cons.mp H with rfl|H
 .exact Gb _
 .rw[yJ]at H;subst H;exact BY _
def Kj(w:Wy):PyData.eqv (aE w) (aE w)=true:=BY [w.1,w.2.1,w.2.2]
def N0(G T:Γ Pl)(W:Γ Wy):PyData.eqv (aw G T W) (aw G T W)=true:=lu λd H=>by
 rcases List.mem_cons.mp H with rfl|H
 .exact lu λd H=>by let(p,_,rfl):=List.mem_map.mp H;exact Dj p
 rcases List.mem_cons.mp H with rfl|H
 .exact lu λd H=>by let(p,_,rfl):=List.mem_map.mp H;exact Dj p
 .rw[yJ]at H;subst H;exact lu λd H=>by let(p,_,rfl):=List.mem_map.mp H;exact Kj p
def Dz(h:Wd G T W):dC (aw G T W) (aw G T W)=↑(.bool false):=by
 have s:SeqAt.shaped (aw G T W)=true:=h.fit.shaped (by decide);simp?[dC,NH,s,jO,xH,N0,zB,xY]
def sJ(h:Wd G T W):cZ [aw G T W]=↑(.bool true):=by rw[rR h.fit<|by decide,h.wok]
def sm(l:Γ Nat)(f:Nat->Int):Int:=(l.map f).sum
def ch(m:Nat->Int):Int->Γ Nat->Nat->Int
 |_,[],_=>0
 |a,q::r,k=>if k=q then min (m q) a else ch m (a-min (m q) a) r k
def up:Γ Nat->Nat->Γ Nat
 |[],_=>[]
 |q::r,k=>if k=q then[q]else q::up r k
def m8(b:θ)(W:Γ Wy)(k:Nat):Nat:=(bK b<|aZ W k).toNat
def lst(b:θ)(G T:Γ Pl)(W:Γ Wy)(i:Nat):Γ Nat:=mD b W i (cq b G T i).2
def amt(b:θ)(G T:Γ Pl)(i:Nat):Int:=(cq b G T i).1
def mm(W:Γ Wy)(off:Γ Int)(q:Nat):Int:=min (off.getD q 0) (aZ W q).2.2
def vl(P:Γ Int)(q:Nat):Int:=P.getD q 0
section
variable {G T:Γ Pl}{W:Γ Wy}{P X c off:Γ Int}{b:θ}{i k q:Nat}
def Iy(h:Wd G T W)(b:θ)(hk:k<W.length):m8 b W k<(aX b G T).length:=(h.WI b hk).2.1
def Hg(h:Wd G T W)(hi:i<(aX b G T).length):(lst b G T W i).Perm (own b W i):=iE h<|eP hi
end
section
variable {P X c off:Γ Int}
end
section
variable {P X c off:Γ Int}
end
section
variable {P X c off:Γ Int}
end
def jf(h:f ρ=↑ds):fP f ρ=↑(.list ds):=by
 simp?[fP,h,zB]
def vc(h:f ρ=↑(.tuple ds)):bw f ρ=↑ds:=by
 simp[bw,h,zA,ix]
def mC(h:f ρ=↑(.list ds)):bw f ρ=↑ds:=by
 simp[bw,h,zA,ix]
def BG(h:fs ρ=↑ds)(l:ds.length<=1000):gO fs ρ=↑ds:=by
 simp[gO,h,zA,bO (show ds.length<=4000 by lia)]
def Ay(H:f ρ=↑(aw G T W))(a:g ρ=↑(.int<|sI b)):(aa (cQ cS<|aa (f2 aN f g) ag) ag) ρ=↑[nD (aX b G T).length]:=
 cons_of (lZ (l:=aX b G T) (k:=bA)<|aD (eC b G T W) H a) rfl
structure Wk(G T G' T':List Pl):Prop where
 len:∀b,(aX b G' T').length=(aX b G T).length
 lik:∀b i,(cq b G' T' i).2=(cq b G T i).2
 gv:∀i,amt false G' T' i<=amt false G T i
 tk:∀i,amt true G T i<=amt true G' T' i
def sA(L:Γ Pl)(i:Nat)(a:Int):Γ Pl:=L.set i (a,(L.getD i (0,[])).2)
def oS(L:Γ Pl)(i:Nat)(a:Int):(sA L i a).length=L.length:=by simp[sA]
def A1{L:Γ Pl}{i:Nat}{a:Int}{k:Nat}{p:Pl}(h:(sA L i a)[k]?=↑p):∃P,L[k]?=↑P/\p.2=P.2/\(p.1=a\/p.1=P.1):=by
 unfold sA at h;by_cases e:i=k
 .subst e;have l:i<L.length:=by
   have:=(List.getElem?_eq_some_iff.mp h).1;simpa using this
  rw[vM l]at h;cases h;exact{L[i],zK l,by simp[l],.inl rfl}
 .rw[kP e]at h;exact{p,h,rfl,.inr rfl}
section
variable {P X off:Γ Int}
def Hv{L:Γ Pl}{p:Pl}(A:0<=a/\a<=9)(l:∀p∈L,0<=p.1/\p.1<=9)(P:p∈sA L i a):0<=p.1/\p.1<=9:=by
 let(k,hk,e):=qP P;let(c,H,_,b):=A1 (p:=p) (k:=k) (by rw[zK hk,e]);rcases b with z|z
 .rw[z];exact A
 .rw[z];exact l c<|qB H
def Wd.gA(h:Wd G T W)(A:0<=a/\a<=9):Wd (sA G i a) T W where
 g1:=by rw[oS];exact h.g1
 g4:=by rw[oS];exact h.g4
 t1:=h.t1
 t4:=h.t4
 ga:=λp H=>Hv A h.ga H
 ta:=h.ta
 gl:=λk p H=>by
  let(P,b,c,_):=A1 H;rw[c];exact h.gl k P b
 tl:=h.tl
 wr:=λw hw=>by rw[oS];exact h.wr w hw
 wp:=h.wp
 wl:=h.wl
def Wd.tA(h:Wd G T W)(A:0<=a/\a<=9):Wd G (sA T i a) W where
 g1:=h.g1
 g4:=h.g4
 t1:=by rw[oS];exact h.t1
 t4:=by rw[oS];exact h.t4
 ga:=h.ga
 ta:=λp H=>Hv A h.ta H
 gl:=h.gl
 tl:=λk p H=>by
  let(P,b,c,_):=A1 H;rw[c];exact h.tl k P b
 wr:=λw hw=>by rw[oS];exact h.wr w hw
 wp:=h.wp
 wl:=h.wl
def dY(h:i<ds.length)(l:ds.length<=1000):dg [.tuple ds,nD i,d]=↑(.tuple<|ds.set i d):=by
 have e:(ds.take i++[d])++ds.drop (i+1)=ds.set i d:=by
  rw[List.set_eq_take_append_cons_drop,yL h];simp
 refine bq ?_;show l7 [.val<|.tuple ds,.val<|nD i,.val d]=_;unfold l7;refine bR<|aD (a:=.tuple<|ds.take i++[d]) (b:=.tuple<|ds.drop<|i+1) ?_ (aD (a:=.tuple<|ds.take i) (b:=.tuple [d]) (mE ?_) (Bv rfl rfl)<|PD rfl)<|Ih rfl (aD (iH _ _) rfl rfl)
 .rw[mE,e];rw[e,yC];lia
 .simp;lia
def Ud(b:θ)(G T:Γ Pl)(W:Γ Wy)(i:Nat)(a:Int):D:=match b with|false=>aw (sA G i a) T W|true=>aw G (sA T i a) W
def Bf(h:Wd G T W)(hi:i<(aX b G T).length):gq [aw G T W,.int<|sI b,nD i,.int a,af (cq b G T i).2]=↑(Ud b G T W i a):=by
 have l:=h.pl b;have e:=dY (ds:=(aX b G T).map bA) (d:=bA (a,(cq b G T i).2)) (i:=i) (by rw[zD];exact hi) (by rw[zD];lia);rw[<-List.map_set]at e;have E:=dY (ds:=[.tuple<|G.map bA,.tuple<|T.map bA,.tuple<|W.map aE]) (d:=.tuple<|((aX b G T).set i (a,(cq b G T i).2)).map bA) (i:=(sI b).toNat) (show(sI b).toNat<3 by cases b<;>decide) (show 3<=1000 by decide);refine bq ?_;show gE [.val<|aw G T W,.val<|.int<|sI b,.val<|nD i,.val<|.int a,.val<|af (cq b G T i).2]=_;unfold gE;refine bR<|call_of (ds:=[aw G T W,.int<|sI b,.tuple<|((aX b G T).set i (a,(cq b G T i).2)).map bA]) ?_ (cons_of rfl (cons_of rfl (cons_of (call_of e (cons_of (aD (eC b G T W) rfl rfl)<|cons_of rfl (cons_of (tup_is (ds:=[.int a,af (cq b G T i).2]) rfl (by simp)) rfl)) rfl) rfl))) rfl;rw[show PyData.int (sI b)=nD (sI b).toNat by cases b<;>rfl];refine Eq.trans E ?_;cases b<;>rfl
def j7(h:Wd G T W)(b:θ)(hi:i<(aX b G T).length):cL [aw G T W,.int<|sI b,nD i]=↑.none:=by
 have:eY [.val<|aw G T W,.val<|.int<|sI b,.val<|nD i]=↑(.nx [.val<|aw G T W,.val<|.int<|sI b,.val<|nD i]):=by
  unfold eY;refine(au<|dW<|call_of (mW b) rfl rfl).trans ?_;exact dW<|call_of (gw (n:=((aX b G T).length:Nat)) (i:=(i:Nat)) (by lia)<|by lia) (cons_of rfl (cons_of (lZ (l:=aX b G T) (k:=bA)<|aD (eC b G T W) rfl rfl) rfl)) rfl
 show(eY [.val<|aw G T W,.val<|.int<|sI b,.val<|nD i]).map _=_;rw[this];rfl
def tE(h:Wd G T W)(hi:i<(aX b G T).length)(H:0<=a/\a<=9):bz [aw G T W,.int<|sI b,nD i,.int a]=↑(Ud b G T W i a):=by
 refine bq ?_;show ie [.val<|aw G T W,.val<|.int<|sI b,.val<|nD i,.val<|.int a]=_;unfold ie;refine(au<|dW<|call_of (cJ h) rfl rfl).trans ?_;refine(au<|dW<|call_of (j7 h b hi) rfl rfl).trans ?_;refine(au<|dW<|call_of (gZ H.1 H.2) rfl rfl).trans ?_;exact bR<|call_of (Bf h hi) (cons_of rfl (cons_of rfl (cons_of rfl (cons_of rfl (cons_of (aD (a:=bA<|cq b G T i) (b:=.int 1) rfl (aD (ke<|eP hi) (aD (eC b G T W) rfl rfl) rfl) rfl) rfl))))) rfl
end
def ext(l:Int)(r:Γ Int):Γ (Γ Int):=(List.range (l+1).toNat).map λm=>r++[((m:Nat):Int)]
def rX:∀(l:Γ α),(∀x∈l,tt (↑(g x)::r)=↑(q x)/\(q x=true->te (↑(g x)::r)=↑(f x)))->d9 (fG 0) tt te (none::r) (l.map g)=↑((l.filter q).map f)
 |[],_=>rfl
 |x::l,h=>by
  have i:=rX (tt:=tt) (te:=te) (r:=r) (g:=g) (f:=f) (q:=q) l λy Y=>h y<|zC _ Y;let(H,a):=h x zE;have G:fG 0 (none::r) (g x)=↑(↑(g x)::r):=rfl;rw[zI,d9,G,zA,H,zA,jW];cases e:q x with
  |true =>
   rw[yL rfl,yL rfl,a e,zA,i];rfl
  |false =>
   rw[yN<|by simp,yN<|by simp,i]
def D6{α:Type}{fi:Dl.Env->Δ (Γ D)}{tt:Dl.Env->Δ θ}{te:Dl.Env->Δ D}{ρ:Dl.Env}{l:Γ α}{g f:α->D}{q:α->θ}(Y:fi ρ=↑(l.map g))(L:l.length<=3000)(H:∀x∈l,tt (↑(g x)::cs.map λj=>(ρ[j]?).getD none)=↑(q x)/\(q x=true->te (↑(g x)::cs.map λj=>(ρ[j]?).getD none)=↑(f x))):ax 1 cs fi (fG 0) tt te ρ=↑((l.filter q).map f):=by
 have:=rX l H;simp?[ax,Y,zA,fQ,List.replicate,xF,xO,this];refine bO ?_;rw[zD];refine yD (xP _ _) ?_;lia
def gf{α:Type}{fi:Dl.Env->Δ (Γ D)}{tt:Dl.Env->Δ θ}{te:Dl.Env->Δ D}{ρ:Dl.Env}{l:Γ α}{g f:α->D}{q:α->θ}(Y:fi ρ=↑(l.map g))(L:l.length<=1000)(H:∀x∈l,tt (↑(g x)::cs.map λj=>(ρ[j]?).getD none)=↑(q x)/\(q x=true->te (↑(g x)::cs.map λj=>(ρ[j]?).getD none)=↑(f x))):ax 1 cs fi (fG 0) tt te ρ=↑((l.filter q).map f):=D6 Y (by lia) H
def any_rows(l:Γ (Γ Int))(a:Γ Int):((l.map af).any λz=>PyData.eqv z<|af a)=decide (a∈l):=JM l a
def uj(l:Γ (Γ Int))(a:Γ Int):Au (af a) (.list<|l.map af)=↑(.bool<|!decide (a∈l)):=by
 simp?[Au,R7,rS,j4,jO,xH,any_rows,zB]
def sh(k q:Nat):Nat:=if q<k then q else q+1
def nk(k:Nat):Nat->θ:=λq=>!decide (q=k)
def fL(L:Γ Pl)(i:Nat)(x:Int):Γ Pl:=L.set i ((L.getD i (0,[])).1,(L.getD i (0,[])).2.filter λy=>!decide (y=x))
def Oz(L:Γ Pl)(i:Nat)(x:Int):(fL L i x).length=L.length:=by simp[fL]
def R4(L:Γ Pl)(i:Nat)(x:Int)(hi:i<L.length)(k:Nat):(fL L i x).getD k (0,[])=if k=i then((L.getD i (0,[])).1,(L.getD i (0,[])).2.filter λy=>!decide (y=x))else L.getD k (0,[]):=by
 unfold fL;by_cases e:k=i
 .subst e;simp[hi]
 .rw[yN e];simp[kP<|jM e]
section
variable {G T:Γ Pl}{W:Γ Wy}{P X:Γ Int}{b:θ}{i k q:Nat}
def eG(G:Γ Pl)(W:Γ Wy)(k:Nat):Γ Pl:=fL G (aZ W k).1.toNat (aZ W k).2.1
def eT(T:Γ Pl)(W:Γ Wy)(k:Nat):Γ Pl:=fL T (aZ W k).2.1.toNat (aZ W k).1
def Fp(h:Cw W):W.Nodup:=h.imp λ{a b}w e=>by subst e;lia
def mX[DecidableEq α]:∀{l:Γ α}{k:Nat}{x:α},l.Nodup->l[k]?=↑x->l.eraseIdx k=l.filter λy=>!decide (y=x)
 |[],k,x,_,e=>by simp at e
 |a::l,0,x,n,e=>by
  cases e;rw[jW,yN<|by simp,List.eraseIdx_zero,List.tail_cons];exact(List.filter_eq_self.mpr λy H=>by
   have:y≠a:=λz=>(List.nodup_cons.mp n).1<|z▸H;simp[this]).symm
 |a::l,k+1,x,n,e=>by
  have E:l[k]?=↑x:=by simpa using e
  have:a≠x:=λz=>(List.nodup_cons.mp n).1<|z▸qB E;rw[jW,yL<|by simp[this],List.eraseIdx_cons_succ,mX (List.nodup_cons.mp n).2 E]
def yy(h:Cw W)(hk:k<W.length):W.eraseIdx k=W.filter λx=>!decide (x=aZ W k):=mX (Fp h)<|iU hk
def DV(L:Γ Pl)(n:Nat)(x:Int)(H:n<L.length)(i:Nat):(fL L n x).getD i (0,[])=((L.getD i (0,[])).1,(L.getD i (0,[])).2.filter λo=>!(decide (i=n)&&decide (o=x))):=by
 rw[R4 L n x H];by_cases e:i=n
 .rw[yL e];subst e;simp?[jP,jK]
 .rw[yN e,zZ e];simp?[vV,Bool.not_false];rw[List.filter_eq_self.mpr λ_ _=>rfl]
def QD(h:Wd G T W)(hk:k<W.length)(b:θ)(i:Nat):cq b (eG G W k) (eT T W k) i=((cq b G T i).1,(cq b G T i).2.filter λo=>!(decide (i=m8 b W k)&&decide (o=dA b (aZ W k)))):=by
 have p:=Iy h b hk;cases b
 .exact DV G _ _ p i
 .exact DV T _ _ p i
def u0(b:θ):(aX b (eG G W k)<|eT T W k).length=(aX b G T).length:=by cases b<;>simp[aX,eG,eT,Oz]
def Tv(h:Cw W)(hk:k<W.length)(b:θ)(i:Int):((W.eraseIdx k).filter λw=>decide (bK b w=i)).map (dA b)=(((W.filter λw=>decide (bK b w=i)).map<|dA b).filter λo=>!(decide (i=bK b (aZ W k))&&decide (o=dA b (aZ W k)))):=by
 rw[yy h hk,kF,List.filter_filter,List.filter_filter];refine jB _<|List.filter_congr λx X=>?_;let(j,H,rfl):=List.mem_iff_getElem.mp X;rw[iT H];by_cases e:bK b (aZ W j)=i
 .by_cases z:j=k
  .subst z;simp[e]
  .have Z:¬(bK b (aZ W j)=bK b (aZ W k)/\dA b (aZ W j)=dA b (aZ W k)):=λy=>z<|AI h H hk y.1 y.2;have hw:aZ W j≠aZ W k:=λy=>Z {by rw[y],by rw[y]};simp?[hw,wJ,Bool.not_false,e,jP,Bool.and_true,jK,Function.comp];rw[e]at Z;by_cases y:i=bK b (aZ W k)
   .have:dA b (aZ W j)≠dA b (aZ W k):=λu=>Z {y,u};simp[this]
   .simp[y]
 .simp[e]
def Wd.less(h:Wd G T W)(hk:k<W.length):Wd (eG G W k) (eT T W k) (W.eraseIdx k):=by
 have g:∀(b:θ)(i:Nat)(p:Pl),(aX b (eG G W k)<|eT T W k)[i]?=↑p->p.2.Perm (((W.eraseIdx k).filter λw=>decide (bK b w=i)).map<|dA b)/\0<=p.1/\p.1<=9:=λb i p e=>by
  have I:i<(aX b G T).length:=by
   have:=(List.getElem?_eq_some_iff.mp e).1;rw[u0]at this;exact this
  have c:i<(aX b (eG G W k)<|eT T W k).length:=by rw[u0];exact I
  have E:=eP c;rw[E]at e;cases e;rw[QD h hk,Tv h.wp hk];have q:decide (i=m8 b W k)=decide (((i:Nat):Int)=bK b (aZ W k)):=by
   have:=(h.WI b hk).2.2;have z:=(h.WI b hk).1;unfold m8;by_cases y:i=(bK b<|aZ W k).toNat
   .rw[yA y,yA<|by lia]
   .rw[zZ y,zZ<|by lia]
  rw[q];refine{?_,?_}
  .refine List.Perm.filter _ ?_;cases b
   .exact h.gl i _<|eP (b:=false) I
   .exact h.tl i _<|eP (b:=true) I
  .cases b
   .show 0<=(cq false G T i).1/\(cq false G T i).1<=9;exact h.ga _<|qB<|eP (b:=false) (G:=G) (T:=T) I
   .show 0<=(cq true G T i).1/\(cq true G T i).1<=9;exact h.ta _<|qB<|eP (b:=true) (G:=G) (T:=T) I
 have H:=u0 (G:=G) (T:=T) (W:=W) (k:=k) false;have a:=u0 (G:=G) (T:=T) (W:=W) (k:=k) true;have H:(eG G W k).length=G.length:=H;have a:(eT T W k).length=T.length:=a;have Y:(W.eraseIdx k).Sublist W:=List.eraseIdx_sublist ..;refine{by rw[H];exact h.g1,by rw[H];exact h.g4,by rw[a];exact h.t1,by rw[a];exact h.t4,λp P=>?_,λp P=>?_,λi p e=>(g false i p e).1,λi p e=>(g true i p e).1,λw hw=>?_,h.wp.sublist Y,yD Y.length_le h.wl}
 .let(i,I,rfl):=List.mem_iff_getElem.mp P;exact(g false i _<|zK I).2
 .let(i,I,rfl):=List.mem_iff_getElem.mp P;exact(g true i _<|zK I).2
 .rw[H,a];exact h.wr w<|Y.mem hw
def sL(W:Γ Wy)(k:Nat)(x:Int):Γ Wy:=W.set k ((aZ W k).1,(aZ W k).2.1,x)
def IB(W:Γ Wy)(k:Nat)(x:Int):(sL W k x).length=W.length:=by simp[sL]
def RA(x:Int)(hk:k<W.length)(q:Nat):aZ (sL W k x) q=if q=k then((aZ W k).1,(aZ W k).2.1,x)else aZ W q:=by
 unfold sL;by_cases e:q=k
 .subst e;simp[aZ,hk]
 .rw[yN e];simp[aZ,kP<|jM e]
def Nw(x:Int)(hk:k<W.length)(f:Wy->α)(F:∀w y,f (w.1,w.2.1,y)=f w):(sL W k x).map f=W.map f:=by
 unfold sL;rw[List.map_set,F];refine jG (by simp) λj a H=>?_;have J:j<W.length:=by simpa using H
 rw[List.getElem_set];split
 .rename_i e;subst e;simp[iT hk]
 .rfl
def BJ(b:θ)(i:Int):∀{W V:Γ Wy},W.map (λw=>(w.1,w.2.1))=V.map (λw=>(w.1,w.2.1))->(W.filter λw=>decide (bK b w=i)).map (dA b)=(V.filter λw=>decide (bK b w=i)).map (dA b)
 |[],[],_=>rfl
 |[],_::_,e=>by cases e
 |_::_,[],e=>by cases e
 |w::W,v::V,e=>by
  simp?[zI,kU,Prod.mk.injEq]at e;have E:bK b w=bK b v:=by cases b<;>simp[bK,e.1]
  have a:dA b w=dA b v:=by cases b<;>simp[dA,bK,e.1]
  have I:=BJ b i (W:=W) (V:=V) e.2;rw[jW,jW,E];split
  .rw[zI,zI,I,a]
  .exact I
def Wd.ahF(h:Wd G T W)(hk:k<W.length)(f:1<=x/\x<=9):Wd G T (sL W k x):=by
 have m:=Nw (W:=W) x hk (λw=>(w.1,w.2.1)) λ_ _=>rfl;refine{h.g1,h.g4,h.t1,h.t4,h.ga,h.ta,λi p e=>?_,λi p e=>?_,λw hw=>?_,?_,by rw[IB];exact h.wl}
 .have:=h.gl i p e;rw[show C5 (sL W k x) i=C5 W i from BJ false i m];exact this
 .have:=h.tl i p e;rw[show ofT (sL W k x) i=ofT W i from BJ true i m];exact this
 .let(j,H,rfl):=List.mem_iff_getElem.mp hw;rw[iT H,RA x hk];have X:=h.wr _<|IW hk;split
  .exact{X.1,X.2.1,f}
  .rename_i e;rw[IB]at H;exact h.wr _<|IW H
 .have d:=h.wp;have c:(W.map λw=>(w.1,w.2.1)).Pairwise λa b=>a.1<b.1\/(a.1=b.1/\a.2<b.2):=List.pairwise_map.mpr d;rw[<-m]at c;exact List.pairwise_map.mp c
end
section
open Ex
abbrev PV:Str:="NoPlace"
structure td(m:List D->Option D)(x:List D->Option Str)(ds:List D)(c:Str):Prop where
 n:m ds=none
 x:x ds=↑c
structure Jp(m:List D->Option D)(x:List D->Option Str)(ds:List D):Prop where
 n:m ds=↑.none
 x:x ds=none
section
variable {m:Γ D->Δ D}{x:Γ D->Δ Str}{ds:Γ D}{c:Str}{n:Nat}{fs:Dl.Env->Δ (Γ D)}{ρ:ao}
def Rh(h:m ds=none){ρ:Dl.Env}(f:fs ρ=↑ds):aj n m fs ρ=none:=by
 unfold aj;rw[f,zA,h];simp
def Ve(h:x ds=↑c){ρ:Dl.Env}(f:fs ρ=↑ds)(H:ds.length=n):wU n x fs ρ=↑c:=by
 unfold wU;rw[f,zA,yL H,h]
def Vg(h:x ds=none){ρ:Dl.Env}(f:fs ρ=↑ds):wU n x fs ρ=none:=by
 unfold wU;rw[f,zA,h];simp
def T6(h:f (aI ρ)=none):gL f ρ=none:=by
 unfold gL;rw[h];rfl
def td.one(B:td m x ds c)(f:fs (aI ρ)=↑ds)(H:ds.length=n):gL (aj n m fs) ρ=none/\md (wU n x fs) ρ=↑c:={T6<|Rh B.n f,Ve B.x f H}
def Jp.one(B:Jp m x ds)(f:fs (aI ρ)=↑ds)(H:ds.length=n):gL (aj n m fs) ρ=↑(.nx ρ)/\md (wU n x fs) ρ=none:={dW<|call_of B.n f H,Vg B.x f}
def td.head(B:td m x ds c)(f:fs (aI ρ)=↑ds)(H:ds.length=n):aH (gL<|aj n m fs) g ρ=none/\jm (md<|wU n x fs) (gL<|aj n m fs) xr ρ=↑c:=by
 let(a,b):=B.one f H;constructor
 .unfold aH;rw[a];rfl
 .unfold jm;rw[b]
def Jp.tail(B:Jp m x ds)(f:fs (aI ρ)=↑ds)(H:ds.length=n):aH (gL<|aj n m fs) g ρ=g ρ/\jm (md<|wU n x fs) (gL<|aj n m fs) xr ρ=xr ρ:=by
 let(a,b):=B.one f H;constructor
 .exact au a
 .unfold jm On;rw[b,a];rfl
def runN(h:g (ds.map Slot.val++List.replicate (n-ds.length) .VC)=none):bF g n ds=none:=by
 unfold bF;rw[h];rfl
def UM(h:t (aI ρ)=↑true):O9 t xa xb ρ=xa ρ:=by
 unfold O9;rw[h,zA,yL rfl]
def QS(h:t (aI ρ)=↑false):O9 t xa xb ρ=xb ρ:=by
 unfold O9;rw[h,zA,yN<|by simp]
end
section
variable {G T:Γ Pl}{W:Γ Wy}{P X:Γ Int}{b:θ}{i:Nat}
def Sq(h:Wd G T W):Jp cK ij [aw G T W]:={cJ h,QS<|my<|cF<|call_of (sJ h) rfl rfl}
def Q9(H:jn d=true)(h:whole a e d=false):td bJ bY [d,.int a,.int e] PV:=by
 have c:abf (aI [.val d,.val _,.val _])=↑true:=my<|cF<|call_of ((eW H a e).trans<|by rw[h]) rfl rfl;exact{runN<|xc c,UM c}
def Vw(H:jn d=true)(h:whole a e d=true):Jp bJ bY [d,.int a,.int e]:=by
 have c:abf (aI [.val d,.val _,.val _])=↑false:=my<|cF<|call_of ((eW H a e).trans<|by rw[h]) rfl rfl;refine{?_,QS c};show(cG [.val d,.val _,.val _]).map _=_;rw[show cG _=↑_ from sN c];rfl
def NF(H:jn d=true)(h:whole 0 (n-1) d=false):td aV bp [d,.int n] PV:=
 let z:=(Q9 H h).one rfl rfl
 {runN z.1,z.2}
def okN(H:jn d=true)(h:whole 0 (n-1) d=true):Jp aV bp [d,.int n]:=by
 have z:=(Vw H h).one (ρ:=[.val d,.val<|.int n]) (fs:=aa (ae 0)<|aa (fC _) aez) rfl rfl;refine{?_,z.2};show(cm [.val d,.val _]).map _=_;rw[show cm _=_ from z.1];rfl
def Tu(b:θ):Jp fW iL [.int<|sI b]:=by
 have H:whole 0 (2-1) (.int<|sI b)=true:=by cases b<;>rfl
 exact{mW b,((okN (n:=2) rfl H).one (ρ:=[.val<|.int<|sI b]) (fs:=aa (ae 0) zq4) (n:=2) rfl rfl).2}
def Uj(h:Wd G T W)(b:θ)(H:jn d=true)(hw:whole 0 ((aX b G T).length-1) d=false):td cL dB [aw G T W,.int<|sI b,d] PV:=by
 have z:=(NF (n:=(aX b G T).length) H hw).one (ρ:=[.val<|aw G T W,.val<|.int<|sI b,.val d]) (fs:=aa (ae 2) acK) (n:=2) (cons_of rfl (Ay (b:=b) rfl rfl)) rfl;have t:=(Tu b).tail (ρ:=[.val<|aw G T W,.val<|.int<|sI b,.val d]) (fs:=aa (ae 1) ag) (n:=1) rfl rfl (g:=gL aem) (xr:=md acM);exact{runN<|t.1.trans z.1,t.2.trans z.2}
def bG(j:Int):D:=.tuple [.str "refused",.int j]
abbrev P7:Γ Str:=["NoWorld","NoPlan","NoPlace","TooMany","Nothing"]
def HQ(h:P7.contains c=true)(H:vf (.bool true) (P7.map λn=>.bool<|c==n)=↑j):pK P7 c=↑(bG j):=by
 unfold pK;rw[yL h,H];rfl
def Q0(b:θ):PyData.eqv (.bool b) (.bool true)=b:=by cases b<;>simp[PyData.eqv]
def Td:pK P7 PV=↑(bG 2):=HQ (by decide +kernel) (by simp?[P7,zI,vf,Q0,show(PV==("NoWorld":Str))=false by decide +kernel,show(PV==("NoPlan":Str))=false by decide +kernel,show(PV==("NoPlace":Str))=true by decide +kernel,xH,yO,qN,zB])
def LO(j:Int):PyData.eqv (bG j) (bG j)=true:=lu λd H=>by
 simp  at H;rcases H with rfl|rfl
 .rfl
 .exact Gb j
def MT(j:Int):∀n ,SeqAt.shaped (.list<|List.replicate n<|bG j)=true:=λn=>by
 have h:∀n ,PyData.canLayAll0 (List.replicate n<|bG j)=true/\PyData.depthAll (List.replicate n<|bG j)<=2:=λn=>by
  have d:PyData.depth (bG j)<=2:=by simp[bG,PyData.depth,PyData.depthAll]
  induction n with
  |zero=>exact{by rfl,by simp[PyData.depthAll]}
  |succ n i=>exact{by simp[xE,PyData.canLayAll0,(show PyData.canLay0 (bG j)=true by simp[bG,PyData.canLay0,PyData.canLayAll0];decide +kernel),i.1],by simp[xE,PyData.depthAll];lia}
 have:=h n;rw[SeqAt.shaped,zF];exact{by simp[PyData.canLay0,this.1],by simp[PyData.depth];lia}
end
end
section
variable {G T:Γ Pl}{W:Γ Wy}{P X:Γ Int}{b k n:Nat}{d:D}{c:Str}
def B3(j:Int):SeqAt.shaped (bG j)=true:=by
 simp[SeqAt.shaped,bG,PyData.canLay0,PyData.canLayAll0,PyData.depth,PyData.depthAll];decide +kernel
def GB(j:Int):dC (bG j) (bG j)=↑(.bool false):=by simp?[dC,NH,B3,jO,xH,LO,zB];rfl
def QF{g:D->Δ D}{f:Dl.Env->Δ D}{ρ:Dl.Env}(h:f ρ=↑d):f1 g f ρ=g d:=by unfold f1;rw[h];rfl
end
section
variable {G T:Γ Pl}{W:Γ Wy}{P X:Γ Int}{b:θ}{i j k:Nat}{w d:D}{c:Str}
def CI:∀{a b c d:Γ Int},a.length=b.length->lexLt a b=true->lexLt (a++c) (b++d)=true
 |[],[],_,_,_,h=>by rw[dP]at h;cases h
 |[],_::_,_,_,e,_=>by cases e
 |_::_,[],_,_,e,_=>by cases e
 |x::a,y::b,c,d,e,h=>by
  have h:HT.lexLt (x::a) (y::b)=true:=h;show HT.lexLt _ _=_;rw[HT.cy]at h;rw[xF,xF,HT.cy];split at h
  .rename_i z;rw[yL z];exact CI (by simpa using e) h
  .rename_i z;rw[yN z];exact h
end
section
variable {G T:Γ Pl}{W:Γ Wy}{P X c:Γ Int}
def zk{f:Dl.Env->Δ D}{ρ:Dl.Env}{α:Type}{g:α->D}{r:Γ α}(h:f ρ=↑(.list<|r.map g)):cQ cS (aa f ag) ρ=↑(nD r.length):=by
 rw[xu h];show some _=_;simp
end
abbrev Fw:=Γ<|Γ Int×Int
def gp(k:Γ Int)(A:Fw):Int:=AM k 0<|A.map λp=>(Dl.iK p.1,.int p.2)
def C6(k:Γ Int)(p:Γ Int×Int)(A:Fw):gp k (p::A)=if p.1=k then p.2 else gp k A:=by
 unfold gp;rw[zI,AM,gJ];simp?[yK]
def uZ:∀{A:Fw},(A.map (·.1)).Nodup->(k,v)∈A->gp k A=v
 |p::A,n,h=>by
  rw[C6];rw[zI,kR]at n;rcases List.mem_cons.mp h with e|h
  .rw[<-e,yL rfl]
  .rw[yN,uZ n.2 h];intro e;exact n.1<|List.mem_map.mpr {_,h,e.symm}
def HC:∀{A:Fw},k∉A.map (·.1)->gp k A=0
 |[],_=>rfl
 |p::A,h=>by
  rw[zI,zR,not_or]at h;rw[C6,yN λe=>h.1 e.symm,HC h.2]
structure fX(A:Fw):Prop where
 nd:(A.map (·.1)).Nodup
 ln:∀p∈A,p.1.length=2
 po:∀p∈A,0<=p.2
def gone(A B:Fw):Γ (Γ Int):=((lN (lC (A.map (·.1)) (B.map (·.1)))).filter λk=>!decide (gp k B=gp k A)).map λk=>k++[gp k B]
def jv(A:Fw):Γ (Γ Int):=(A.filter λp=>decide (0<p.2)).map λp=>p.1++[p.2]
def unlike(X Y:Γ (Γ Int)):Γ (Γ Int):=Y.filter (λr=>!X.contains r)++(X.filter λr=>!(Y.map λr=>r.take 2).contains (r.take 2)).map λr=>r.take 2++[0]
def fX.pos(h:fX A):0<=gp k A:=by
 by_cases c:k∈A.map (·.1)
 .let(p,H,rfl):=List.mem_map.mp c;rw[uZ (v:=p.2) h.nd H];exact h.po p H
 .rw[HC c];exact xZ 0
def fX.key(h:fX A)(e:gp k A≠0):k∈A.map (·.1):=Classical.byContradiction λc=>e<|HC c
def fX.ln2(h:fX A)(e:k∈A.map (·.1)):k.length=2:=by
 let(p,H,rfl):=List.mem_map.mp e;exact h.ln p H
def dG(h:fX A):r∈jv A↔∃k,0<gp k A/\r=k++[gp k A]:=by
 unfold jv;rw[zQ];constructor
 .rintro⟨p,H,rfl⟩;rw[List.mem_filter,zJ]at H;have e:=uZ (v:=p.2) h.nd H.1;exact{p.1,by rw[e];exact H.2,by rw[e]}
 .rintro⟨k,hk,rfl⟩;let(p,H,rfl):=List.mem_map.mp<|h.key (k:=k) (by lia);have e:=uZ (v:=p.2) h.nd H;exact{p,List.mem_filter.mpr {H,by rw[e]at hk;exact yA hk},by rw[e]}
def Mg{a b:Γ Int}{x y:Int}(h:a++[x]=b++[y]):a=b/\x=y:=by
 let(H,c):=List.append_inj' h rfl;exact{H,by cases c;rfl}
def iJ{k:Γ Int}(h:k.length=2)(x:Int):(k++[x]).take 2=k:=by rw[<-h,List.take_left]
def uH(h:fX A):t∈(jv A).map (λr=>r.take 2)↔0<gp t A:=by
 rw[zQ];constructor
 .rintro⟨r,H,rfl⟩;let(k,hk,rfl):=(dG h).mp H;rw[iJ<|h.ln2<|h.key<|by lia];exact hk
 .intro ht;exact{_,(dG h).mpr {t,ht,rfl},iJ (h.ln2<|h.key<|by lia) _}
def CZ(h:fX A):(jv A).Pairwise λr s=>r.take 2≠s.take 2:=by
 unfold jv;rw[jD];refine(((List.pairwise_map.mp h.nd).filter _).imp_of_mem λ{a b}H B n=>?_);rw[iJ<|h.ln a (List.mem_filter.mp H).1,iJ<|h.ln b (List.mem_filter.mp B).1];exact n
def F4:r∈gone A B↔∃k,(k∈A.map (·.1)\/k∈B.map (·.1))/\gp k B≠gp k A/\r=k++[gp k B]:=by
 unfold gone;rw[zQ];constructor
 .rintro⟨k,hk,rfl⟩;rw[List.mem_filter,(eF _).mem_iff,dN,yP,xB]at hk;exact{k,hk.1,hk.2,rfl}
 .rintro⟨k,H,a,rfl⟩;exact{k,by rw[List.mem_filter,(eF _).mem_iff,dN,yP,xB];exact⟨H,a⟩,rfl}
def Ce(H:fX A)(b:fX B):r∈unlike (jv A) (jv B)↔∃k,(k∈A.map (·.1)\/k∈B.map (·.1))/\gp k B≠gp k A/\r=k++[gp k B]:=by
 unfold unlike;rw[List.mem_append,List.mem_filter,zQ];simp?[List.mem_filter,yP,List.contains_eq_mem,xB];constructor
 .rintro (⟨d,a⟩|⟨s,⟨d,a⟩,rfl⟩)
  .let(k,hk,rfl):=(dG b).mp d;exact{k,.inr<|b.key<|by lia,λe=>a<|(dG H).mpr {k,by rw[<-e];exact hk,by rw[e]},rfl}
  .let(k,hk,rfl):=(dG H).mp d;have K:=H.key (k:=k) (by lia);rw[iJ<|H.ln2 K]at a ⊢;have Z:gp k B=0:=by
    have:=mt (uH b).mpr a;have:=b.pos (k:=k);lia
   exact{k,.inl K,by lia,by rw[Z]}
 .rintro⟨k,d,a,rfl⟩;by_cases c:0<gp k B
  .refine .inl {(dG b).mpr {k,c,rfl},λz=>?_};let(j,J,e):=(dG H).mp z;let(rfl,e):=Mg e;exact a e
  .have z:gp k B=0:=by have:=b.pos (k:=k);lia
   have p:0<gp k A:=by have:=H.pos (k:=k);lia
   have l:=iJ (H.ln2<|H.key (k:=k)<|by lia)<|gp k A;refine .inr {k++[gp k A],{(dG H).mpr {k,p,rfl},?_},by rw[l,z]};rw[l];exactλq=>c<|(uH b).mp q
def KB(H:fX A)(b:fX B):(gone A B).Nodup:=by
 unfold gone List.Nodup;rw[jD];refine(((eF _).nodup_iff.mpr<|wV H.nd b.nd).filter _).imp λn e=>n (Mg e).1
def Ea(c:fX A)(H:fX B):(unlike (jv A)<|jv B).Nodup:=by
 unfold unlike;rw[wN];refine{((CZ H).imp λn e=>n<|by rw[e]).filter _,?_,λa d b f e=>?_}
 .unfold List.Nodup;rw[jD];exact((CZ c).filter _).imp λn e=>n (Mg e).1
 .subst e;let(k,hk,rfl):=(dG H).mp (List.mem_filter.mp d).1;let(s,_,e):=List.mem_map.mp f;have:=(Mg e).2;lia
def Kw(H:fX A)(e:fX B):(gone A B).Pairwise λa b=>lexLe a b=true:=by
 unfold gone;rw[jD];have n:(lN (lC (A.map (·.1)) (B.map (·.1)))).Nodup:=(eF _).nodup_iff.mpr<|wV H.nd e.nd;have l:∀k∈lN (lC (A.map (·.1)) (B.map (·.1))),k.length=2:=λk hk=>by
  rw[(eF _).mem_iff,dN]at hk;exact hk.elim H.ln2 e.ln2
 refine((List.Pairwise.and (Ba _) n).imp_of_mem (S:=λa b=>lexLe (a++[gp a B]) (b++[gp b B])=true) λ{a b}f g z=>?_).filter _;have t:lexLt a b=true:=by
  cases c:lexLt a b with
  |true=>rfl
  |false=>exact absurd (si z.1 (by unfold lexLe;rw[c];rfl)) z.2
 have L:=CI (c:=[gp a B]) (d:=[gp b B]) (by rw[l a f,l b g]) t;unfold lexLe;cases c:lexLt (b++[gp b B]) (a++[gp a B])with
 |false=>rfl
 |true=>have:=d0 L c;rw[dP]at this;cases this
def Ad(H:fX A)(b:fX B):gone A B=lN (unlike (jv A)<|jv B):=
 wg ((List.perm_ext_iff_of_nodup (KB H b)<|Ea H b).mpr λr=>F4.trans (Ce H b).symm) (Kw H b)
section
variable {W V:Γ Wy}
def Sk(b:θ)(G T:Γ Pl)(W:Γ Wy)(i:Nat)(p:Pl):D:=match b with|false=>aw (G.set i p) T W|true=>aw G (T.set i p) W
def z8(l:(aX b G T).length<=1000)(hi:i<(aX b G T).length):gq [aw G T W,.int<|sI b,nD i,.int a,af L]=↑(Sk b G T W i (a,L)):=by
 have e:=dY (ds:=(aX b G T).map bA) (d:=bA (a,L)) (i:=i) (by rw[zD];exact hi) (by rw[zD];lia);rw[<-List.map_set]at e;have E:=dY (ds:=[.tuple<|G.map bA,.tuple<|T.map bA,.tuple<|W.map aE]) (d:=.tuple<|((aX b G T).set i (a,L)).map bA) (i:=(sI b).toNat) (show(sI b).toNat<3 by cases b<;>decide) (show 3<=1000 by decide);refine bq ?_;show gE [.val<|aw G T W,.val<|.int<|sI b,.val<|nD i,.val<|.int a,.val<|af L]=_;unfold gE;refine bR<|call_of (ds:=[aw G T W,.int<|sI b,.tuple<|((aX b G T).set i (a,L)).map bA]) ?_ (cons_of rfl (cons_of rfl (cons_of (call_of e (cons_of (aD (eC b G T W) rfl rfl)<|cons_of rfl (cons_of (tup_is (ds:=[.int a,af L]) rfl (by simp)) rfl)) rfl) rfl))) rfl;rw[show PyData.int (sI b)=nD (sI b).toNat by cases b<;>rfl];refine Eq.trans E ?_;cases b<;>rfl
def uV(l:(aX b G T).length<=1000)(hi:i<(aX b G T).length):iN [aw G T W,.int<|sI b,nD i,af L]=↑(Sk b G T W i ((cq b G T i).1,L)):=by
 refine bq ?_;show jc [.val<|aw G T W,.val<|.int<|sI b,.val<|nD i,.val<|af L]=_;unfold jc;exact bR<|call_of (z8 l hi) (cons_of rfl (cons_of rfl (cons_of rfl (cons_of (aD (a:=bA<|cq b G T i) (b:=.int 0) rfl (aD (ke<|eP hi) (aD (eC b G T W) rfl rfl) rfl) rfl)<|cons_of rfl rfl)))) rfl
def oY(H:cg [d]=↑(.tuple<|V.map aE)):fg [aw G T W,d]=↑(aw G T V):=by
 refine bq ?_;show kr [.val<|aw G T W,.val d]=_;unfold kr;refine bR<|call_of (ds:=[aw G T W,nD 2,.tuple<|V.map aE]) ?_ (cons_of rfl (cons_of rfl (cons_of ((xu rfl).trans H) rfl))) rfl;exact dY (ds:=[.tuple<|G.map bA,.tuple<|T.map bA,.tuple<|W.map aE]) (d:=.tuple<|V.map aE) (i:=2) (show 2<3 by decide) (show 3<=1000 by decide)
def o7(h:Wd G T W)(hk:k<W.length)(H:fw ρ=↑(aw G T W))(a:fk ρ=↑(nD k)):aj 2 aV (aa fk<|aa (cQ cS<|aa (f2 aN fw<|fC<|.int 2) ag) ag) ρ=↑.none:=
 call_of (gw (n:=(W.length:Nat)) (i:=(k:Nat)) (by lia)<|by lia) (cons_of a<|cons_of (lZ (l:=W) (k:=aE)<|aD (dI G T W) H rfl) rfl) rfl
def vj(h:Wd G T W)(hk:k<W.length)(H:1<=x/\x<=9):bj [aw G T W,nD k,.int x]=↑(aw G T<|sL W k x):=by
 have hw:=h.wl;have e:=dY (ds:=W.map aE) (d:=aE ((aZ W k).1,(aZ W k).2.1,x)) (i:=k) (by rw[zD];exact hk) (by rw[zD];lia);rw[<-List.map_set]at e;refine bq ?_;show ja [.val<|aw G T W,.val<|nD k,.val<|.int x,.VC]=_;unfold ja;refine(au<|dW<|call_of (cJ h) rfl rfl).trans ?_;refine(au<|dW<|o7 h hk rfl rfl).trans ?_;refine(au<|dW<|call_of (gZ H.1 H.2) rfl rfl).trans ?_;refine(au<|bN (aD (rQ hk) (aD (dI G T W) rfl rfl) rfl) (aD (rQ hk) (aD (dI G T W) rfl rfl) rfl) rfl).trans ?_;exact bR<|call_of (oY (V:=sL W k x) (d:=.tuple<|(sL W k x).map aE) rfl) (cons_of rfl (cons_of (call_of e (cons_of (aD (dI G T W) rfl rfl)<|cons_of rfl (cons_of (tup_is (ds:=[.int (aZ W k).1,.int (aZ W k).2.1,.int x]) rfl (by simp)) rfl)) rfl) rfl)) rfl
def F9(v w:Wy):dC (aE v) (aE w)=↑(.bool<|!decide (v=w)):=by
 have e:=zj [v.1,v.2.1,v.2.2] [w.1,w.2.1,w.2.2];have:decide ([v.1,v.2.1,v.2.2]=[w.1,w.2.1,w.2.2])=decide (v=w):=by
  let(a,b,c):=v;let(d,e,f):=w;simp
 rwa[this]at e
def rJ(H:tgt ρ d=↑ρ1)(a:gb ρ1=↑(.nx U)):fv tgt gb (d::ds) ρ=fv tgt gb ds U:=by rw[fv,H,zA,a];rfl
def TJ:ao->Δ Out:=aey
def Dt(h:Wd G T W)(hk:k<W.length){V:Γ Wy}(H:(aX b G' T').length=(aX b G T).length)(A:(cq b G' T'<|m8 b W k).1=(cq b G T<|m8 b W k).1) :
  TJ [.val<|aw G T W,.val d1,.val<|aE<|aZ W k,.val<|aw G' T' V,.val<|.int<|sI b,x5]=↑(.nx [.val<|aw G T W,.val d1,.val<|aE<|aZ W k,.val<|Sk b G' T' V (m8 b W k) ((cq b G T<|m8 b W k).1,(cq b G T<|m8 b W k).2.filter λo=>!decide (o=dA b (aZ W k))),.val<|.int<|sI b,.val<|af (cq b G T<|m8 b W k).2]):=by
 have p:=Iy h b hk;have z:=h.pl b;let(Z,z1,z2):=h.WI b hk;have r:∀d:Dl.Env,ae 2 d=↑(aE<|aZ W k)->ae 4 d=↑(.int<|sI b)->f2 aN (ae 2) (ae 4) d=↑(nD<|m8 b W k):=λd E e=>aD ((we b _).trans (by rw[<-z2];rfl)) E e;have O:∀d:Dl.Env,ae 0 d=↑(aw G T W)->ae 2 d=↑(aE<|aZ W k)->ae 4 d=↑(.int<|sI b)->f2 aN aeu (fC<|.int 1) d=↑(af (cq b G T<|m8 b W k).2):=λd t E e=>aD (a:=bA<|cq b G T<|m8 b W k) (b:=.int 1) rfl (aD (ke<|eP p) (aD (eC b G T W) t e)<|r d E e) rfl;have N:(cq b G T<|m8 b W k).2.length<=1000:=by
  have:=(Hg h p).length_eq;have v:(own b W<|m8 b W k).length<=W.length:=by
   refine yD (xP _ _) ?_;rw[zS];exact yM _
  have y:(lst b G T W<|m8 b W k).length=(cq b G T<|m8 b W k).2.length:=by simp[lst,mD]
  have:=h.wl;lia
 have C:∀d:Dl.Env,ae 2 d=↑(aE<|aZ W k)->ae 4 d=↑(.int<|sI b)->ae 5 d=↑(af (cq b G T<|m8 b W k).2)->cQ cg aew d=↑(af<|(cq b G T<|m8 b W k).2.filter λo=>!decide (o=dA b (aZ W k))):=λd E e n=>by
  have j:(d[2]?).getD none=↑(aE<|aZ W k):=E;have m:(d[4]?).getD none=↑(.int<|sI b):=e;have c:=gf (ρ:=d) (fi:=bw<|ae 5) (cs:=[2,4]) (tt:=aev) (te:=ae 0) (g:=PyData.int) (f:=PyData.int) (q:=λo=>!decide (o=dA b (aZ W k))) (l:=(cq b G T<|m8 b W k).2) (vc n) N λx _=>by
   rw[zI,zI,yU,j,m];exact{cF<|aD (nE _ _) rfl (aD (we (!b) _) rfl (aD (by rw[mn];cases b<;>rfl) rfl rfl)),λ_=>rfl}
  rw[xu<|jf c];rfl
 unfold TJ;refine(au<|bN (O _ rfl rfl rfl) (O _ rfl rfl rfl) rfl).trans ?_;have w:=uV (b:=b) (G:=G') (T:=T') (W:=V) (i:=m8 b W k) (L:=(cq b G T<|m8 b W k).2.filter λo=>!decide (o=dA b (aZ W k))) (by rw[H];lia) (by rw[H];exact p);rw[A]at w;have s:∀d:Dl.Env,ae 3 d=↑(aw G' T' V)->ae 2 d=↑(aE<|aZ W k)->ae 4 d=↑(.int<|sI b)->ae 5 d=↑(af (cq b G T<|m8 b W k).2)->aex d=↑(Sk b G' T' V (m8 b W k) ((cq b G T<|m8 b W k).1,(cq b G T<|m8 b W k).2.filter λo=>!decide (o=dA b (aZ W k)))):=λd u E e n=>call_of w (cons_of u<|cons_of e<|cons_of (r d E e)<|cons_of (C d E e n) rfl) rfl;exact bN (s _ rfl rfl rfl rfl) (s _ rfl rfl rfl rfl) rfl
def tG(h:Wd G T W)(hk:k<W.length):bu [aw G T W,nD k]=↑(aw (eG G W k) (eT T W k)<|W.eraseIdx k):=by
 have hw:=h.wl;have e:∀a:Dl.Env,ae 0 a=↑(aw G T W)->ae 2 a=↑(aE<|aZ W k)->aj 2 fg aes a=↑(aw G T<|W.eraseIdx k):=λa d i=>by
  have E:(a[2]?).getD none=↑(aE<|aZ W k):=i;have c:=gf (ρ:=a) (fi:=bw zq6) (cs:=[2]) (tt:=fB aer) (te:=ae 0) (g:=aE) (f:=aE) (q:=λx=>!decide (x=aZ W k)) (l:=W) (vc<|aD (dI G T W) d rfl) (by lia) λx _=>by
   rw[zI,yU,E];exact{cF<|aD (F9 _ _) rfl rfl,λ_=>rfl}
  rw[yy h.wp hk];exact call_of (oY rfl) (cons_of d<|cons_of (jf c) rfl) rfl
 have r0:=Dt (b:=false) h hk (G':=G) (T':=T) (V:=W.eraseIdx k) (d1:=nD k) (x5:=.VC) rfl rfl;have r1:=Dt (b:=true) h hk (G':=eG G W k) (T':=T) (V:=W.eraseIdx k) (d1:=nD k) (x5:=.val<|af (cq false G T<|m8 false W k).2) rfl rfl;refine bq ?_;show g9 [.val<|aw G T W,.val<|nD k,.VC,.VC,.VC,.VC]=_;unfold g9;refine(au<|dW<|call_of (cJ h) rfl rfl).trans ?_;refine(au<|dW<|o7 h hk rfl rfl).trans ?_;refine(au<|bN (aD (rQ hk) (aD (dI G T W) rfl rfl) rfl) (aD (rQ hk) (aD (dI G T W) rfl rfl) rfl) rfl).trans ?_;refine(au<|bN (e _ rfl rfl) (e _ rfl rfl) rfl).trans ?_;have F:fv (AA 4) TJ [.int<|sI false,.int<|sI true] [.val<|aw G T W,.val<|nD k,.val<|aE<|aZ W k,.val<|aw G T<|W.eraseIdx k,.VC,.VC]=↑(.nx [.val<|aw G T W,.val<|nD k,.val<|aE<|aZ W k,.val<|aw (eG G W k) (eT T W k)<|W.eraseIdx k,.val<|.int<|sI true,.val<|af (cq true G T<|m8 true W k).2]):=by
  rw[rJ (ρ1:=[.val<|aw G T W,.val<|nD k,.val<|aE<|aZ W k,.val<|aw G T<|W.eraseIdx k,.val<|.int<|sI false,.VC]) rfl r0,rJ (ρ1:=[.val<|aw G T W,.val<|nD k,.val<|aE<|aZ W k,.val<|aw (eG G W k) T<|W.eraseIdx k,.val<|.int<|sI true,.val<|af (cq false G T<|m8 false W k).2]) rfl r1];rfl
 refine(au<|iR (ds:=[.int<|sI false,.int<|sI true]) F (vc<|tup_is (ds:=[.int<|sI false,.int<|sI true]) rfl (by simp)) rfl).trans ?_;exact bR rfl
end
section
variable {W V:Γ Wy}
end
def yu:∀l:Fw,G8 (l.map λp=>.tuple [Dl.iK p.1,.int p.2])=↑l
 |[]=>rfl
 |p::l=>by
  show(Av<|.tuple [Dl.iK p.1,.int p.2]).bind _=_;have e:Av (.tuple [Dl.iK p.1,.int p.2])=↑p:=by
   show(cC<|Dl.iK p.1).map (·,p.2)=_;rw[gJ];rfl
  rw[e,zA,yu l];rfl
def Ja{l:Fw}(n:(l.map (·.1)).Nodup)(H:l.length<1000):CG (.list<|l.map λp=>.tuple [Dl.iK p.1,.int p.2])=↑(jr l):=by
 show(G8 _).bind _=_;rw[yu,zA,yL ⟨n,H⟩]
def fw(W:Γ Wy)(P:Γ Int):Fw:=(List.range W.length).map λi=>([(aZ W i).1,(aZ W i).2.1],P.getD i 0)
def nY:(fw W P).length=W.length:=by simp[fw]
def Cz(W:Γ Wy)(P:Γ Int):(fw W P).map (·.1)=W.map λw=>[w.1,w.2.1]:=by
 unfold fw;rw[zM];apply List.ext_getElem?;intro i;by_cases H:i<W.length
 .rw[zO,List.getElem?_range H,zO,iU H];rfl
 .rw[jL<|by simpa using H,jL<|by simpa using H]
def RR(h:Wd G T W)(p:Pn G T W P):fX (fw W P) where
 nd:=by
  rw[Cz];unfold List.Nodup;rw[jD];exact h.wp.imp λ{a b}w e=>by
   simp?[kU,and_true]at e;lia
 ln:=λq H=>by
  let(i,_,rfl):=List.mem_map.mp H;rfl
 po:=λq H=>by
  let(i,I,rfl):=List.mem_map.mp H;exact(p.bd i<|List.mem_range.mp I).1
abbrev fb(G T:Γ Pl)(W:Γ Wy):Fw:=fw W<|Kt G T W
def mz(h:Wd G T W):fX (fb G T W):=RR h<|HA h
def RE(h:Wd G T W):sv (aa (f2 aN (ae 0)<|fC<|.int 2)<|aa (aj 1 aR<|aa (ae 0) ag) ag) [↑(aw G T W)]=↑((List.range W.length).map λi=>.tuple [aE<|aZ W i,.int<|(Kt G T W).getD i 0]):=by
 rw[<-EU (HA h).len];have e:aj 1 aR (aa (ae 0) ag) [↑(aw G T W)]=↑(af<|Kt G T W):=call_of (Bc h) rfl rfl;have c:aa (f2 aN (ae 0)<|fC<|.int 2) (aa (aj 1 aR<|aa (ae 0) ag) ag) [↑(aw G T W)]=↑[.tuple<|W.map aE,af<|Kt G T W]:=cons_of rfl (cons_of e rfl);unfold sv;rw[c];rfl
def pO(h:Wd G T W):dJ [aw G T W]=↑(jr<|fb G T W):=by
 have hw:=h.wl;refine bq ?_;show jo [.val<|aw G T W]=_;refine bR ?_;show f1 CG _ [↑(aw G T W)]=_;rw[QF<|jf<|Aj (p:=λ_=>true) (h:=λi=>.tuple [Dl.iK [(aZ W i).1,(aZ W i).2.1],.int<|(Kt G T W).getD i 0]) (RE h) (by lia) λi H=>{rfl,λ_=>rfl},<-Ja (mz h).nd (by rw[nY];lia)];unfold fb fw;rw[zM,List.filter_eq_self.mpr λ_ _=>rfl];rfl
def Io(h:Wd G T W):dZ [aw G T W]=↑(.list<|(jv<|fb G T W).map af):=by
 have hw:=h.wl;refine bq ?_;show o5 [.val<|aw G T W]=_;refine bR ?_;show fP _ [↑(aw G T W)]=_;rw[jf<|Aj (p:=λi=>decide (0<(Kt G T W).getD i 0)) (h:=λi=>af<|[(aZ W i).1,(aZ W i).2.1]++[(Kt G T W).getD i 0]) (RE h) (by lia) λi H=>{?_,λ_=>?_}]
 .unfold jv fb fw;rw[kF,zM,zM];rfl
 .rfl
 .rfl
def Jj:Γ (Γ Int):=(List.range 4).flatMap λa=>(List.range 4).map λb=>[Int.ofNat a,Int.ofNat b]
def FJ:(Jj.map iD).Nodup:=by decide +kernel
def Jt{a b:Int}(H:0<=a/\a<4)(c:0<=b/\b<4):[a,b]∈Jj:=by
 unfold Jj;rw[List.mem_flatMap];refine{a.toNat,List.mem_range.mpr<|by lia,List.mem_map.mpr {b.toNat,List.mem_range.mpr<|by lia,?_}};rw[Int.ofNat_eq_natCast,Int.ofNat_eq_natCast,Int.toNat_of_nonneg H.1,Int.toNat_of_nonneg c.1]
def IE(h:Wd G T W){k:Γ Int}(hk:k∈(fw W P).map (·.1)):k∈Jj:=by
 rw[Cz]at hk;let(w,hw,rfl):=List.mem_map.mp hk;have:=h.wr w hw;have:=h.g4;have:=h.t4;exact Jt (by lia) (by lia)
def n9:∀A:Fw,qj (A.map λp=>(Dl.iK p.1,.int p.2))=↑(A.map (·.1))
 |[]=>rfl
 |p::A=>by
  show(cC<|Dl.iK p.1).bind _=_;rw[gJ,zA,n9 A];rfl
def GD(H:fX A)(c:fX B)(p:∀k∈A.map (·.1),k∈Jj)(pB:∀k∈B.map (·.1),k∈Jj)(L:A.length<=16)(lB:B.length<=16):BD (jr A) (jr B)=↑((lN (lC (A.map (·.1)) (B.map (·.1)))).map af):=by
 have m:∀k∈lC (A.map (·.1)) (B.map (·.1)),k∈Jj:=λk hk=>(dN.mp hk).elim (p k)<|pB k;have N:((lC (A.map (·.1)) (B.map (·.1))).map iD).Nodup:=by
  unfold List.Nodup;rw[jD];have I:∀x∈Jj,∀y∈Jj,iD x=iD y->x=y:=λx X y Y e=>by
   let(i,g,rfl):=qP X;let(j,J,rfl):=qP Y;have:=(List.getElem_inj (xs:=Jj.map iD) (i:=i) (j:=j) (h₀:=by rw[zD];exact g) (h₁:=by rw[zD];exact J) FJ).mp (by rw[List.getElem_map,List.getElem_map];exact e);subst this;rfl
  exact(wV H.nd c.nd).imp_of_mem λ{a b}d f n e=>n<|I a (m a d) b (m b f) e
 have l:(lC (A.map (·.1)) (B.map (·.1))).length<64:=by
  unfold lC;rw[zN,zD];have:=xP (λk=>!(A.map (·.1)).contains k) (B.map (·.1));rw[zD]at this;lia
 have n:∀k∈lC (A.map (·.1)) (B.map (·.1)),k≠[]:=λk hk e=>by
  have:=(dN.mp hk).elim H.ln2 c.ln2;rw[e]at this;cases this
 show(qj _).bind _=_;rw[n9,zA,n9,zA,yL {H.nd,c.nd,N,l,n}]
def Jz(A:Fw)(k:Γ Int):M7 (jr A) (af k) (.int 0)=↑(.int<|gp k A):=by
 show(cC<|Dl.iK k).map _=_;rw[gJ];rfl
def Tz:ao->Δ Out:=(aH (Dl.aL 6 [3,5]<|Jw (ae 3) (ae 5)<|fC<|.int 0)<|pL (fB<|f2 dC (ae 6)<|Jw (ae 2) (ae 5)<|fC<|.int 0) aeC l8)
def BW{fo fk f:Dl.Env->Δ D}{ρ:Dl.Env}(o:fo ρ=↑(jr A))(hk:fk ρ=↑(af k))(n:f ρ=↑(.int 0)):Jw fo fk f ρ=↑(.int<|gp k A):=by
 unfold Jw;rw[o,zA,hk,zA,n,zA,Jz]
def J1{acc:Γ (Γ Int)}(hk:k.length=2)(H:acc.length<1000):Tz [.val w,.val v,.val<|jr A,.val<|jr B,.own<|acc.map af,.val<|af k,x6]=↑(.nx [.val w,.val v,.val<|jr A,.val<|jr B,.own<|(acc++if gp k B=gp k A then[]else[k++[gp k B]]).map af,.val<|af k,.val<|.int<|gp k B]):=by
 obtain⟨a,b,rfl⟩:∃a b,k=[a,b]:=by
  match k,hk with
  |[a,b],_=>exact{a,b,rfl}
 unfold Tz;refine(au<|bN (d:=.int<|gp [a,b] B) (BW rfl rfl rfl) (BW rfl rfl rfl) rfl).trans ?_;have t:fB (f2 dC (ae 6)<|Jw (ae 2) (ae 5)<|fC<|.int 0) (aI [.val w,.val v,.val<|jr A,.val<|jr B,.own<|acc.map af,.val<|af [a,b],.val<|.int<|gp [a,b] B])=↑(!decide (gp [a,b] B=gp [a,b] A)):=
  cF (aD (nE _ _) rfl (BW rfl rfl rfl))
 by_cases c:gp [a,b] B=gp [a,b] A
 .rw[yL c,qF];exact sN<|t.trans<|by simp[c]
 .rw[yN c,qZ];exact(xc<|t.trans<|by simp[c]).trans<|rN (d:=af<|[a,b]++[gp [a,b] B]) rfl rfl rfl rfl (by rw[zD];lia)
def CU:∀(l acc:Γ (Γ Int))(x5 x6:Slot),(∀k∈l,k.length=2)->acc.length+l.length<=900->∃y Y,fv (AA 5) Tz (l.map af) [.val w,.val v,.val<|jr A,.val<|jr B,.own<|acc.map af,x5,x6]=↑(.nx [.val w,.val v,.val<|jr A,.val<|jr B,.own<|(acc++(l.filter λk=>!decide (gp k B=gp k A)).map λk=>k++[gp k B]).map af,y,Y])
 |[],acc,x5,x6,_,_=>{x5,x6,by simp?[List.filter_nil,yU,qF];rfl}
 |k::l,acc,x5,x6,hk,H=>by
  rw[zL]at H;have e:=J1 (w:=w) (v:=v) (A:=A) (B:=B) (x6:=x6) (acc:=acc) (hk k zE) (by lia);let(y,Y,h):=CU l (acc++if gp k B=gp k A then[]else[k++[gp k B]]) (.val<|af k) (.val<|.int<|gp k B) (λq Q=>hk q<|zC _ Q) (by rw[zN];split<;>simp<;>lia);refine{y,Y,(rJ rfl e).trans<|h.trans ?_};by_cases c:gp k B=gp k A<;>simp[c]
def vv(h:Wd G T W)(h':Wd G' T' W'):aQ [aw G T W,aw G' T' W']=↑(.list<|(gone (fb G T W)<|fb G' T' W').map af):=by
 have hw:=h.wl;have H:=h'.wl;refine bq ?_;show eQ [.val<|aw G T W,.val<|aw G' T' W',.VC,.VC,.VC,.VC,.VC]=_;unfold eQ;refine(au<|bN (call_of (pO h) rfl rfl) (call_of (pO h) rfl rfl) rfl).trans ?_;refine(au<|bN (call_of (pO h') rfl rfl) (call_of (pO h') rfl rfl) rfl).trans ?_;refine(au<|gc (ds:=[]) rfl rfl).trans ?_;have s:=GD (mz h) (mz h') (λk hk=>IE h hk) (λk hk=>IE h' hk) (by rw[nY];exact hw) (by rw[nY];exact H);have l:(lN (lC ((fb G T W).map (·.1)) ((fb G' T' W').map (·.1)))).length<=32:=by
  rw[(eF _).length_eq];unfold lC;rw[zN,zD];have:=xP (λk=>!((fb G T W).map (·.1)).contains k) ((fb G' T' W').map (·.1));rw[zD,nY]at this;rw[nY];lia
 let(y,Y,e):=CU (w:=aw G T W) (v:=aw G' T' W') (A:=fb G T W) (B:=fb G' T' W') _ [] .VC .VC (λk hk=>by
  rw[(eF _).mem_iff,dN]at hk;exact hk.elim (mz h).ln2 (mz h').ln2) (by rw[xK];exact yD (Nat.le_of_eq<|jC _)<|yD l<|by decide)
 refine(au<|iR e (mC<|jf (show Bb 2 3 _=_ from s)) rfl).trans ?_;exact bR rfl
def K3{f:Dl.Env->Δ D}{ρ:Dl.Env}{r:Γ Int}(h:f ρ=↑(af r)):kf fq f kc (zt<|fC<|.int 2) ρ=↑(af<|r.take 2):=by
 rw[Bv (ds:=r.map .int) (k:=2) h rfl];show some (PyData.tuple _)=↑(PyData.tuple _);rw[List.map_take]
def FY{X Y:Γ (Γ Int)}(x:∀r∈X,r.length=3)(y:∀r∈Y,r.length=3)(L:X.length<=16)(a:Y.length<=16):cI [.list<|X.map af,.list<|Y.map af]=↑(.list<|(lN<|unlike X Y).map af):=by
 refine bq ?_;show ib [.val<|.list<|X.map af,.val<|.list<|Y.map af,.VC,.VC]=_;unfold ib;have c1:ax 1 [0] (bw<|ae 1) (fG 0) (fB<|f2 Au (ae 0)<|ae 1) (ae 0) [↑(.list<|X.map af),↑(.list<|Y.map af),none,none]=↑((Y.filter λr=>!X.contains r).map af):=
  gf (l:=Y) (g:=af) (f:=af) (mC rfl) (by lia) λr H=>{cF<|(aD (uj X r) rfl rfl).trans<|by simp,λ_=>rfl}
 have c2:ax 1 [] (bw<|ae 1) (fG 0) (λ_=>↑true) (kf fq (ae 0) kc<|zt<|fC<|.int 2) [↑(.list<|X.map af),↑(.list<|Y.map af),↑(.list<|(Y.filter λr=>!X.contains r).map af),none]=↑((Y.map λr=>r.take 2).map af):=
  (gf (l:=Y) (g:=af) (q:=λ_=>true) (f:=λr=>af<|r.take 2) (mC rfl) (by lia) λr H=>{rfl,λ_=>K3 rfl}).trans (by rw[List.filter_eq_self.mpr λ_ _=>rfl,zM];rfl)
 refine(au<|gc c1 rfl).trans ?_;refine(au<|gc (ds:=(Y.map λr=>r.take 2).map af) ?_ rfl).trans ?_
 .exact (gf (l:=Y) (g:=af) (q:=λ_=>true) (f:=λr=>af<|r.take 2) (mC rfl) (by lia) λr H=>{rfl,λ_=>K3 rfl}).trans (by rw[List.filter_eq_self.mpr λ_ _=>rfl,zM];rfl)
 have c3:ax 1 [3] (bw<|ae 0) (fG 0) (fB<|f2 Au (kf fq (ae 0) kc<|zt<|fC<|.int 2)<|ae 1) (f2 aS (kf fq (ae 0) kc<|zt<|fC<|.int 2)<|bg<|aa (fC<|.int 0) ag) [↑(.list<|X.map af),↑(.list<|Y.map af),↑(.list<|(Y.filter λr=>!X.contains r).map af),↑(.list<|(Y.map λr=>r.take 2).map af)]=↑(((X.filter λr=>!(Y.map λr=>r.take 2).contains (r.take 2)).map λr=>r.take 2++[0]).map af):=
  (gf (l:=X) (g:=af) (q:=λr=>!(Y.map λr=>r.take 2).contains (r.take 2)) (f:=λr=>af<|r.take 2++[0]) (mC rfl) (by lia) λr H=>{cF<|(aD (uj _<|r.take 2) (K3 rfl) rfl).trans<|by simp,λ_=>aD (pX (by simp;have:=x r H;lia)) (K3 rfl)<|PD rfl}).trans (by rw[zM];rfl)
 have n:(unlike X Y).length<64:=by
  unfold unlike;rw[zN,zD];have:=xP (λr=>!X.contains r) Y;have:=xP (λr=>!(Y.map λr=>r.take 2).contains (r.take 2)) X;lia
 have N:∀r∈unlike X Y,r≠[]:=λr H e=>by
  unfold unlike at H;rcases List.mem_append.mp H with H|H
  .have:=y r (List.mem_filter.mp H).1;rw[e]at this;cases this
  .let(s,_,E):=List.mem_map.mp H;rw[e]at E;simp at E
 have o:dq [.list<|(unlike X Y).map af]=↑((lN<|unlike X Y).map af):=by
  simp?[dq,oneOf,zA,lU N,yL n]
 refine bR<|jf (f:=r8 dq _) ?_;show(aa (fP<|Q8 pD (ae 2)<|fP<|ax 1 [3] _ _ _ _) ag _).bind dq=_;have c:Q8 pD (ae 2) (fP<|ax 1 [3] (bw<|ae 0) (fG 0) (fB<|f2 Au (kf fq (ae 0) kc<|zt<|fC<|.int 2)<|ae 1)<|f2 aS (kf fq (ae 0) kc<|zt<|fC<|.int 2)<|bg<|aa (fC<|.int 0) ag) [↑(.list<|X.map af),↑(.list<|Y.map af),↑(.list<|(Y.filter λr=>!X.contains r).map af),↑(.list<|(Y.map λr=>r.take 2).map af)]=↑((unlike X Y).map af):=by
  unfold Q8;rw[jf c3];show small _=_;rw[bO]
  .unfold unlike;rw[qZ]
  .have:=n;unfold unlike at this;rw[zN]at this;rw[zN,zD,zD];lia
 exact(jB (Option.bind · dq)<|cons_of (jf c) (show ag _=_ from rfl)).trans o
open Ob Og
section
variable {ρ ρ':ao}{os VL os1 Xz:Γ Oj}{g g1 g2:OG}{f fa fb:OF}{fs:yf}{ta tb:DR}{d a b:D}{ds:Γ D}{C:Ψ}{i k n:Nat}{st st1 Yd:Fs}{x m:Str}{r:RF}{rs:FK}
def aJ(h:g1 ρ os=↑(.nx ρ' VL)):cA g1 g2 ρ os=g2 ρ' VL:=by unfold cA;rw[h];rfl
def Dw(h:g1 ρ os=↑(.rt d VL)):cA g1 g2 ρ os=↑(.rt d VL):=by unfold cA;rw[h];rfl
def cU{g:ao->Δ Out}(h:g ρ=↑(.nx ρ')):b9 g ρ os=↑(.nx ρ' os):=by unfold b9;rw[h];rfl
def nv(h:f ρ os=↑(d,VL)):og i f ρ os=↑(.nx (ρ.set i<|.val d) VL):=by unfold og;rw[h];rfl
def eA(h:f (hand fz 0 ρ) os=↑(d,VL)):cw fz (fF f) ρ os=↑(.rt d VL):=by unfold cw fF;rw[h];rfl
def dM(h:ta ρ os=↑(true,VL)):qc ta g1 g2 ρ os=g1 ρ VL:=by unfold qc;rw[h];rfl
def bH(h:ta ρ os=↑(false,VL)):qc ta g1 g2 ρ os=g2 ρ VL:=by unfold qc;rw[h];rfl
def bM{f:Dl.Env->Δ D}(h:f (bD ρ)=↑d):oD f ρ os=↑(d,os):=by unfold oD;rw[h]
def uS{g:D->D->Δ D}(G:g a b=↑d)(H:fa ρ os=↑(a,os1))(c:fb ρ os1=↑(b,Xz)):yq g fa fb ρ os=↑(d,Xz):=by
 unfold yq;rw[H,zA];show((fb ρ os1).bind λy=>(g a y.1).map (·,y.2))=_;rw[c,zA];show(g a b).map _=_;rw[G];rfl
def ay(H:f ρ os=↑(d,os1))(a:U ρ os1=↑(ds,Xz)):bf f U ρ os=↑(d::ds,Xz):=by
 rw[bf,H,zA,a];rfl
def bh:dU ρ os=↑([],os):=rfl
def fK{m:Γ D->Δ D}(H:m ds=↑d)(h:fs ρ os=↑(ds,VL))(N:ds.length=n):eh n m fs ρ os=↑(d,VL):=by
 unfold eh;rw[h,zA];show(if ds.length=n then(m ds).map (·,VL)else none)=_;rw[yL N,H];rfl
def aK(H:ρ[i]?=↑(.obj k))(a:os[k]?=↑⟨C,st⟩):obj i C ρ os=↑(k,st):=by
 unfold obj;rw[H];show(match os[k]? with|some o=>if o.C=C then↑(k,o.st)else none|none=>none)=_;rw[a];exact yL rfl
def gy{mm:Γ Slot->Fs->Δ _}(h:obj i C ρ os=↑(k,st))(N:(st.lookup m).isNone=true)(a:fs ρ os=↑(ds,os1))(H:obj i C ρ os1=↑(k,st1))(l:ds.length+1=n)(M:mm (.obj 0::ds.map Slot.val) st1=↑(d,Yd)):cT i C m n mm fs ρ os=↑(d,os1.set k {C,Yd}):=by
 rw[cT,h,zA,yL N,a,zA,H,zA,yL l,M];rfl
def cP(h:g (ρ++List.replicate (n-ρ.length) .VC) [⟨C,st⟩]=↑(.rt d [{C,st1}])):gF g C n ρ st=↑(d,st1):=by
 unfold gF;rw[h];exact yL rfl
def Lh(h:g (ρ++List.replicate (n-ρ.length) .VC) [⟨C,st⟩]=↑(.nx ρ' [{C,st1}])):gF g C n ρ st=↑(.none,st1):=by
 unfold gF;rw[h];exact yL rfl
def Lm(h:g (ds.map Slot.val++List.replicate (n-ds.length) .VC) []=↑(.rt d os)):F7 g n ds=↑d:=by
 unfold F7;rw[h];rfl
def Mh(H:fi (bD<|hand fz 0 ρ)=↑ds)(a:kb tgt g ds (hand fz 0 ρ) os=↑o):KN fz fi tgt g ρ os=↑o:=by
 rw[KN,H,zA];lia
end
section
variable {ρ ρ':ao}{os VL os1 Xz:Γ Oj}{g g1 g2:OG}{f fa fb:OF}{fs:yf}{ta tb:DR}{d a b:D}{ds:Γ D}{C:Ψ}{i j k n:Nat}{st st1 Yd:Fs}{x y m:Str}
def Fk{mm:Γ Slot->Fs->Δ _}{fs:CK}(H:obj i C ρ os=↑(k,st))(h:fs ρ os=↑(sl,os1))(a:obj i C ρ os1=↑(k,st1))(l:sl.length=n)(m:mm sl st1=↑(d,Yd)):nU i C n mm fs ρ os=↑(d,os1.set k {C,Yd}):=by
 rw[nU,H,zA,h,zA,a,zA,yL l,m];rfl
def C3{s:Γ Slot}{g:CK}(H:f ρ os=↑(d,os1))(a:g ρ os1=↑(s,Xz)):uW f g ρ os=↑(.val d::s,Xz):=by
 rw[uW,H,zA,a];rfl
def LR{s:Γ Slot}{g:CK}(H:g ρ os=↑(s,Xz)):AW g ρ os=↑(.obj 0::s,Xz):=by unfold AW;rw[H];rfl
def L6:Iv ρ os=↑([],os):=rfl
def ask{mm:Γ Slot->Fs->Δ _}(h:obj i C ρ os=↑(k,st1))(H:mm [.obj 0] st1=↑(d,Yd))(n:(st1.lookup m).isNone=true:=by rfl):cT i C m 1 mm dU ρ os=↑(d,os.set k {C,Yd}):=gy h n bh h rfl H
def sC(H:tgt ρ d=↑ρ1)(a:gb ρ1 os=↑(.nx U Xz)):kb tgt gb (d::ds) ρ os=kb tgt gb ds U Xz:=by
 rw[kb,H,zA,a];rfl
def rz(H:tgt ρ1 d=↑WO)(a:gb WO os1=↑(.nx X5 U)):∀{l:Γ D}{ρ:ao}{os:Γ Oj},kb tgt gb l ρ os=↑(.nx ρ1 os1)->kb tgt gb (l++[d]) ρ os=↑(.nx X5 U)
 |[],ρ,os,h=>by cases h;exact(sC H a).trans rfl
 |e::l,ρ,os,h=>by
  let(c,E,h):=bs h;let(o,b,h):=bs h;cases o with
  |nx W X=>exact(sC E b).trans (rz H a h)
  |rt d os=>grind
def ur(f:Nat->D)(R:Nat->ao->Γ Oj->Prop):∀n{ρ:ao}{os:Γ Oj},(∀j ρ os,j<n->R j ρ os->∃ρ1 W Xz,tgt ρ (f j)=↑ρ1/\gb ρ1 os=↑(.nx W Xz)/\R (j+1) W Xz)->R 0 ρ os->∃ρ' VL,kb tgt gb ((List.range n).map f) ρ os=↑(.nx ρ' VL)/\R n ρ' VL
 |0,ρ,os,_,h=>{ρ,os,rfl,h}
 |n+1,ρ,os,H,h=>by
  let(ρ1,o,e,r1):=ur f R n (λj ρ os J=>H j ρ os<|by lia) h;let(W,X,O,E,a,r):=H n ρ1 o (by lia) r1;refine{X,O,?_,r};rw[vP,qZ];exact rz E a e
def p8{fin:Str->Δ D}(h:gb ρ os=↑(.rt d os1)):jt gb xg fin ρ os=↑(.rt d os1):=by unfold jt;rw[h]
def OM{fin:Str->Δ D}(h:gb ρ os=none)(H:xg ρ os=↑c)(a:fin c=↑d):jt gb xg fin ρ os=↑(.rt d os):=by
 unfold jt;rw[h];show((xg ρ os).bind _)=_;rw[H];show(fin c).map _=_;rw[a];rfl
def vi(h:g1 ρ os=none):cA g1 g2 ρ os=none:=by unfold cA;rw[h];rfl
def iX(h:f (hand fz 0 ρ) os=none):cw fz (fF f) ρ os=none:=by unfold cw fF;rw[h];rfl
def sG{m:Γ D->Δ D}(H:m ds=none)(h:fs ρ os=↑(ds,VL)):eh n m fs ρ os=none:=by
 rw[eh,h,zA,H];simp
def nL{mm:Γ Slot->Fs->Δ _}(h:obj i C ρ os=↑(k,st))(a:fs ρ os=↑(ds,os))(H:mm (.obj 0::ds.map Slot.val) st=none):cT i C m n mm fs ρ os=none:=by
 rw[cT,h,zA,a,zA,h,zA,H];simp
def rh{mm:Γ Slot->Fs->Δ _}(a:fs ρ os=none):cT i C m n mm fs ρ os=none:=by
 unfold cT;simp_all
def wa(h:f ρ os=none):bf f U ρ os=none:=by unfold bf;rw[h];rfl
def qa(h:g (ρ++List.replicate (n-ρ.length) .VC) [⟨C,st⟩]=none):gF g C n ρ st=none:=by unfold gF;rw[h];rfl
def AY{xm:Γ D->Δ Str}(x:xm ds=↑c)(h:rs ρ os=↑ds)(l:ds.length=n):Oh n xm rs ρ os=↑c:=by
 unfold Oh;rw[h,zA,yL l,x]
def va{xm:Γ Slot->Fs->Δ Str}(h:obj i C ρ os=↑(k,st))(N:(st.lookup m).isNone=true)(a:rs ρ os=↑ds)(l:ds.length+1=n)(H:xm (.obj 0::ds.map Slot.val) st=↑c):HH i C m n xm rs ρ os=↑c:=by
 rw[HH,h,zA,yL N,a,zA,yL l,H]
end
open  Ex
variable {as:Γ D}{w v g d:D}{C:Ψ}{ρ:ao}{os:Γ Oj}{st:Fs}{i k:Nat}{m:Str}
abbrev aU(as:Γ D)(w:D):Fs:=[("stages",.lst<|as++[w])]
def Dh(as:Γ D)(w:D):aN (.list<|as++[w]) (.int<|-1)=↑w:=by
 show tw (as++[w]) (-1)=↑w;have e:Fy (as++[w]).length (-1)=↑as.length:=by
  unfold Fy;rw[yN<|by decide,zN,xC,yL<|by lia]
  congr 1
  lia
 unfold tw;rw[e,zA,yT<|yM _,Nat.sub_self];rfl
def Jq(h:obj i C ρ os=↑(k,aU as w)):Ia i C "stages" WS ρ os=↑w:=by
 unfold Ia;rw[h,zA];show(f1 Nr (fC<|.int 1)<|bD ρ).bind (λd=>aN (.list<|as++[w]) d)=_;exact Dh as w
def dz:aO C (aU as w)=↑w:=Jq<|aK (k:=0) rfl rfl
def AZ:br C (aU as w)=↑(.int as.length):=by
 show IJ Dl.gG (uy 0 C "stages") (rD<|fC<|.int 1) [.obj 0] [{C,aU as w}]=_;have e:uy 0 C "stages" [.obj 0] [{C,aU as w}]=↑(.int (as++[w]).length):=by
  unfold uy;rw[aK (k:=0) (st:=aU as w) rfl rfl];rfl
 unfold IJ;rw[e,zA];show Dl.gG (.int ((as++[w]).length:Nat)) (.int 1)=_;show some (PyData.int _)=↑(PyData.int _);rw[zN,xC]
 congr 2
 lia
def cE(h:obj i C ρ os=↑(k,st))(n:(st.lookup m).isNone=true)(H:mr st=↑d):oR (bZ i C m mr) ρ os=↑(d,os):=by
 have e:bZ i C m mr ρ os=↑d:=by
  unfold bZ;rw[h,zA];exact(yL n).trans H
 show(bZ i C m mr ρ os).map _=_;rw[e];rfl
def pY(h:obj i C ρ os=↑(k,st))(n:(st.lookup m).isNone=true)(H:mr st=↑d):bZ i C m mr ρ os=↑d:=by
 unfold bZ;rw[h,zA];exact(yL n).trans H
def Oe(e:aR [w]=↑d):eu C [.obj 0] (aU as w)=↑(d,aU as w):=by
 refine cP ?_;show cw (List.range 1) (fF _) [.obj 0] [{C,aU as w}]=_;exact eA<|fK e (ay (cE (aK (k:=0) rfl rfl) rfl dz) bh) rfl
def G6(e:aQ [w,v]=↑g)(l:as.length<100):bB C [.obj 0,.val v] (aU as w)=↑(g,aU (as++[w]) v):=by
 refine cP ?_;show cA (og 2 _) _ [.obj 0,.val v,.VC] [{C,aU as w}]=_;refine(aJ<|nv<|cE (aK (k:=0) rfl rfl) rfl dz).trans ?_;have a:zh 0 C "stages" (rD<|ae 1) [.obj 0,.val v,.val w] [{C,aU as w}]=↑(.nx [.obj 0,.val v,.val w] [{C,aU (as++[w]) v}]):=by
  unfold zh;rw[aK (k:=0) (st:=aU as w) rfl rfl,zA];show(↑v).bind (λd=>if(as++[w]).length<sizeLine then _ else none)=_;rw[zA,yL (by have:=oh;rw[zN,xC];unfold sizeLine;lia)];rfl
 refine(aJ a).trans ?_;exact eA<|bM<|call_of e rfl rfl
def Ot{f:OF}(Z:ρ[0]?=↑(.obj 0))(H:f ρ [{C,aU as w}]=↑(v,[{C,aU as w}]))(e:aQ [w,v]=↑g)(l:as.length<100):cT 0 C "change_to" 2 (bB C) (bf f dU) ρ [{C,aU as w}]=↑(g,[{C,aU (as++[w]) v}]):=
 gy (k:=0) (st:=aU as w) (st1:=aU as w) (aK Z rfl) rfl (ay H bh) (aK Z rfl) rfl (G6 e l)
def GC{s p a:D}(e:bz [w,s,p,a]=↑v)(E:aQ [w,v]=↑g)(l:as.length<100):bP C [.obj 0,.val s,.val p,.val a] (aU as w)=↑(g,aU (as++[w]) v):=by
 refine cP ?_;show cw (List.range 4) (fF _) [.obj 0,.val s,.val p,.val a] [{C,aU as w}]=_;exact eA<|Ot rfl (fK e (ay (cE (aK (k:=0) rfl rfl) rfl dz)<|ay (bM rfl)<|ay (bM rfl)<|ay (bM rfl) bh) rfl) E l
def KW{p a:D}(e:bj [w,p,a]=↑v)(E:aQ [w,v]=↑g)(l:as.length<100):bS C [.obj 0,.val p,.val a] (aU as w)=↑(g,aU (as++[w]) v):=by
 refine cP ?_;show cw (List.range 3) (fF _) [.obj 0,.val p,.val a] [{C,aU as w}]=_;exact eA<|Ot rfl (fK e (ay (cE (aK (k:=0) rfl rfl) rfl dz)<|ay (bM rfl)<|ay (bM rfl) bh) rfl) E l
def JT{p:D}(e:bu [w,p]=↑v)(E:aQ [w,v]=↑g)(l:as.length<100):dD C [.obj 0,.val p] (aU as w)=↑(g,aU (as++[w]) v):=by
 refine cP ?_;show cw (List.range 2) (fF _) [.obj 0,.val p] [{C,aU as w}]=_;exact eA<|Ot rfl (fK e (ay (cE (aK (k:=0) rfl rfl) rfl dz)<|ay (bM rfl) bh) rfl) E l
def HJ{n:Nat}(hk:as.length=n):Ob.oB (yq bV (oR<|bZ 0 C "many"<|br C)<|oD<|fC<|.int 0) [.obj 0,.VC] [{C,aU as w}]=↑(decide ((n:Int)=0),[{C,aU as w}]):=by
 subst hk;have e:=uS (fa:=oR<|bZ 0 C "many"<|br C) (fb:=oD<|fC<|.int 0) (ρ:=[.obj 0,.VC]) (os:=[{C,aU as w}]) (dh ((as.length:Nat):Int) 0) (cE (aK (k:=0) rfl rfl) rfl AZ)<|bM rfl;unfold Ob.oB;rw[e];rfl
def N5(e:aQ [v,w]=↑g):eB C [.obj 0] (aU (as++[w]) v)=↑(g,aU as w):=by
 refine cP ?_;show cA _ _ [.obj 0,.VC] [{C,aU (as++[w]) v}]=_;have z:=(HJ (C:=C) (w:=v) (n:=as.length+1) (as:=as++[w])<|by rw[zN,xC]).trans (by rw[zZ<|by lia]);refine(aJ<|(bH z).trans rfl).trans ?_;have p:yl 0 C "stages" [.obj 0,.VC] [{C,aU (as++[w]) v}]=↑(v,[{C,aU as w}]):=by
  unfold yl;rw[aK (k:=0) (st:=aU (as++[w]) v) rfl rfl,zA];show((as++[w]++[v])[(as++[w]++[v]).length-1]?).map (λd=>(d,([{C,[("stages",.lst (as++[w]++[v]).dropLast)]}]:Γ Oj)))=_;rw[zN (as:=as++[w]),xC,Nat.add_sub_cancel,yT<|yM _,Nat.sub_self,List.dropLast_concat];rfl
 refine(aJ<|nv p).trans ?_;exact eA<|fK e (ay (bM rfl)<|ay (cE (aK (k:=0) rfl rfl) rfl dz) bh) rfl
def LG:eB C [.obj 0] (aU [] w)=none/\iZ C [.obj 0] (aU [] w)=↑"Nothing":=by
 constructor
 .refine qa ?_;show cA _ _ [.obj 0,.VC] [{C,aU [] w}]=_;exact vi<|(dM<|(HJ rfl).trans rfl).trans rfl
 .show Am _ _ _ [.obj 0,.VC] [{C,aU [] w}]=_;have e:IJ bV (bZ 0 C "many"<|br C) (rD<|fC<|.int 0) [.obj 0,.VC] [{C,aU [] w}]=↑(.bool true):=by
   unfold IJ;rw[pY (aK (k:=0) rfl rfl) rfl AZ];rfl
  unfold Am;rw[e];rfl
section
variable {G T:Γ Pl}{W:Γ Wy}{b:θ}{i j k:Nat}{w s l d e:D}{c:Str}
def UA(h:Wd G T W)(b:θ)(hi:i<(aX b G T).length):Jp cL dB [aw G T W,.int<|sI b,nD i]:=by
 have H:whole 0 (((aX b G T).length:Int)-1) (nD i)=true:=by
  show(decide ((0:Int)<=((i:Nat):Int))&&decide (((i:Nat):Int)<=((aX b G T).length:Int)-1))=true;rw[yA<|by lia,yA<|by lia];rfl
 have z:=(okN (n:=(aX b G T).length) rfl H).one (ρ:=[.val<|aw G T W,.val<|.int<|sI b,.val<|nD i]) (fs:=aa (ae 2) acK) (n:=2) (cons_of rfl (Ay (b:=b) rfl rfl)) rfl;have t:=(Tu b).tail (ρ:=[.val<|aw G T W,.val<|.int<|sI b,.val<|nD i]) (fs:=aa (ae 1) ag) (n:=1) rfl rfl (g:=l8) (xr:=md acM);exact{j7 h b hi,t.2.trans z.2}
def Vp(hk:k<W.length):Jp aV bp [nD k,nD W.length]:=okN (n:=(W.length:Nat)) rfl (by
 show(decide ((0:Int)<=((k:Nat):Int))&&decide (((k:Nat):Int)<=((W.length:Nat):Int)-1))=true;rw[yA<|by lia,yA<|by lia];rfl)
abbrev wl:Dl.Env->Δ (Γ D):=aa (ae 1)<|aa (cQ cS<|aa (f2 aN (ae 0)<|fC<|.int 2) ag) ag
def Dg{ρ:ao}(H:ae 0 (aI ρ)=↑(aw G T W))(a:ae 1 (aI ρ)=↑l):wl (aI ρ)=↑[l,nD W.length]:=cons_of a<|cons_of (lZ (l:=W) (k:=aE)<|aD (dI G T W) H rfl) rfl
def TZ{a:D}(h:Wd G T W)(B:td cL dB [aw G T W,a,l] c):td bz dH [aw G T W,a,l,d] c:=by
 have t:=λg x=>(Sq h).tail (ρ:=[.val<|aw G T W,.val a,.val l,.val d]) (fs:=aa (ae 0) ag) (n:=1) rfl rfl (g:=g) (xr:=x);have z:=λg x=>B.head (ρ:=[.val<|aw G T W,.val a,.val l,.val d]) (fs:=aa (ae 0)<|aa (ae 1) zq5) (n:=3) rfl rfl (g:=g) (xr:=x);exact{runN<|(t _ pM).1.trans (z _ pM).1,(t l8 _).2.trans (z l8 _).2}
def Tr(h:Wd G T W)(B:td aV bp [l,nD W.length] c):td bj cD [aw G T W,l,d] c:=by
 have t:=λg x=>(Sq h).tail (ρ:=[.val<|aw G T W,.val l,.val d,.VC]) (fs:=aa (ae 0) ag) (n:=1) rfl rfl (g:=g) (xr:=x);have z:=λg x=>B.head (ρ:=[.val<|aw G T W,.val l,.val d,.VC]) (fs:=wl) (n:=2) (Dg rfl rfl) rfl (g:=g) (xr:=x);exact{runN<|(t _ pM).1.trans (z _ pM).1,(t l8 _).2.trans (z l8 _).2}
def T3(h:Wd G T W)(hk:k<W.length)(B:td bJ bY [d,.int 1,.int 9] c):td bj cD [aw G T W,nD k,d] c:=by
 have t:=λg x=>(Sq h).tail (ρ:=[.val<|aw G T W,.val<|nD k,.val d,.VC]) (fs:=aa (ae 0) ag) (n:=1) rfl rfl (g:=g) (xr:=x);have u:=λg x=>(Vp hk).tail (ρ:=[.val<|aw G T W,.val<|nD k,.val d,.VC]) (fs:=wl) (n:=2) (Dg rfl rfl) rfl (g:=g) (xr:=x);have z:=λg=>B.head (ρ:=[.val<|aw G T W,.val<|nD k,.val d,.VC]) (fs:=aa (ae 2) abe) (n:=3) rfl rfl (g:=g) (xr:=pM);have z2:=B.one (ρ:=[.val<|aw G T W,.val<|nD k,.val d,.VC]) (fs:=aa (ae 2) abe) (n:=3) rfl rfl;exact{runN<|(t _ pM).1.trans<|(u _ pM).1.trans (z _).1,(t l8 _).2.trans<|(u l8 _).2.trans z2.2}
def Ta(h:Wd G T W)(B:td aV bp [l,nD W.length] c):td bu dF [aw G T W,l] c:=by
 have t:=λg x=>(Sq h).tail (ρ:=[.val<|aw G T W,.val l,.VC,.VC,.VC,.VC]) (fs:=aa (ae 0) ag) (n:=1) rfl rfl (g:=g) (xr:=x);have z:=λg=>B.head (ρ:=[.val<|aw G T W,.val l,.VC,.VC,.VC,.VC]) (fs:=wl) (n:=2) (Dg rfl rfl) rfl (g:=g) (xr:=pM);have z2:=B.one (ρ:=[.val<|aw G T W,.val l,.VC,.VC,.VC,.VC]) (fs:=wl) (n:=2) (Dg rfl rfl) rfl;exact{runN<|(t _ pM).1.trans (z _).1,(t l8 _).2.trans z2.2}
end
section
variable {as:Γ D}{w v g d s p a r x y z:D}{C:Ψ}{ρ:ao}{os:Γ Oj}{c:Str}{k:Int}
def Bo{m:Str}{i k:Nat}{st:Fs}{xb:XO}(h:obj i C ρ os=↑(k,st))(n:(st.lookup m).isNone=true)(b:xb ρ os=↑c):Jg i C m xb ρ os=↑c:=by
 unfold Jg;rw[h,zA];exact(yL n).trans b
def cz{f:RF}{fs:FK}{ds:Γ D}(H:f ρ os=↑d)(a:fs ρ os=↑ds):eN f fs ρ os=↑(d::ds):=by
 unfold eN;rw[H,zA,a];rfl
def FN(B:td bz dH [w,s,p,a] c):bP C [.obj 0,.val s,.val p,.val a] (aU as w)=none/\dR C [.obj 0,.val s,.val p,.val a] (aU as w)=↑c:=by
 constructor
 .refine qa ?_;show cw (List.range 4) (fF _) [.obj 0,.val s,.val p,.val a] [{C,aU as w}]=_;exact iX<|rh<|wa<|sG B.n<|ay (cE (aK (k:=0) rfl rfl) rfl dz)<|ay (bM rfl)<|ay (bM rfl)<|ay (bM rfl) bh
 .show Jg 0 C "change_to" _ [.obj 0,.val s,.val p,.val a] [{C,aU as w}]=_;exact Bo (aK (k:=0) rfl rfl) rfl (AY B.x (cz (pY (aK (k:=0) rfl rfl) rfl dz)<|cz rfl (cz rfl (cz rfl rfl))) rfl)
def KS(B:td bj cD [w,p,a] c):bS C [.obj 0,.val p,.val a] (aU as w)=none/\eI C [.obj 0,.val p,.val a] (aU as w)=↑c:=by
 constructor
 .refine qa ?_;show cw (List.range 3) (fF _) [.obj 0,.val p,.val a] [{C,aU as w}]=_;exact iX<|rh<|wa<|sG B.n<|ay (cE (aK (k:=0) rfl rfl) rfl dz)<|ay (bM rfl)<|ay (bM rfl) bh
 .show Jg 0 C "change_to" _ [.obj 0,.val p,.val a] [{C,aU as w}]=_;exact Bo (aK (k:=0) rfl rfl) rfl (AY B.x (cz (pY (aK (k:=0) rfl rfl) rfl dz)<|cz rfl (cz rfl rfl)) rfl)
def KE(B:td bu dF [w,p] c):dD C [.obj 0,.val p] (aU as w)=none/\hZ C [.obj 0,.val p] (aU as w)=↑c:=by
 constructor
 .refine qa ?_;show cw (List.range 2) (fF _) [.obj 0,.val p] [{C,aU as w}]=_;exact iX<|rh<|wa<|sG B.n<|ay (cE (aK (k:=0) rfl rfl) rfl dz)<|ay (bM rfl) bh
 .show Jg 0 C "change_to" _ [.obj 0,.val p] [{C,aU as w}]=_;exact Bo (aK (k:=0) rfl rfl) rfl (AY B.x (cz (pY (aK (k:=0) rfl rfl) rfl dz)<|cz rfl rfl) rfl)
abbrev HU(k:Int)(r:D):ao:=[.obj 0,.val<|.int k,.val r,.VC]
def eK(k j:Int):oT (fB<|f2 bV (ae 1)<|fC<|.int j) (HU k r) os=↑(decide (k=j),os):=by
 unfold oT;rw[show fB (f2 bV (ae 1)<|fC<|.int j) (aI<|HU k r)=↑(decide (k=j))from cF<|aD (dh k j) rfl rfl];rfl
def iq(k j:Int):fB (f2 bV (ae 1)<|fC<|.int j) (aI<|HU k r)=↑(decide (k=j)):=cF<|aD (dh k j) rfl rfl
def xp{t:Dl.Env->Δ θ}{xa xb:XO}(h:t (aI ρ)=↑true):tj t xa xb ρ os=xa ρ os:=by unfold tj;rw[h];rfl
def ou{t:Dl.Env->Δ θ}{xa xb:XO}(h:t (aI ρ)=↑false):tj t xa xb ρ os=xb ρ os:=by unfold tj;rw[h];rfl
def AB{t:Dl.Env->Δ θ}{fa fb:OF}(h:t (aI ρ)=↑true):Eb t fa fb ρ os=fa ρ os:=by unfold Eb;rw[h];rfl
def CL{t:Dl.Env->Δ θ}{fa fb:OF}(h:t (aI ρ)=↑false):Eb t fa fb ρ os=fb ρ os:=by unfold Eb;rw[h];rfl
abbrev iu(x y z:D):D:=.tuple [x,y,z]
def qg{gb:OG}{xg:XO}(h:gb ρ os=none)(H:xg ρ os=↑c)(a:k8 c=↑d):jt gb xg k8 ρ os=↑(.rt d os):=OM h H a
def IU(e:bP C [.obj 0,.val x,.val y,.val z] (aU as w)=↑(g,aU (as++[w]) v)):aC C [.obj 0,.val<|.int 0,.val<|iu x y z] (aU as w)=↑(g,aU (as++[w]) v):=by
 refine cP ?_;show jt _ _ k8 (HU 0<|iu x y z) [{C,aU as w}]=_;exact p8<|Dw<|(dM<|eK 0 0).trans<|eA<|gy (k:=0) (st:=aU as w) (st1:=aU as w) (aK rfl rfl) rfl (ay (bM rfl)<|ay (bM rfl)<|ay (bM rfl) bh) (aK rfl rfl) rfl e
def FP(e:bS C [.obj 0,.val y,.val z] (aU as w)=↑(g,aU (as++[w]) v)):aC C [.obj 0,.val<|.int 1,.val<|iu x y z] (aU as w)=↑(g,aU (as++[w]) v):=by
 refine cP ?_;show jt _ _ k8 (HU 1<|iu x y z) [{C,aU as w}]=_;exact p8<|(aJ<|(bH<|eK 1 0).trans rfl).trans<|Dw<|(dM<|eK 1 1).trans<|eA<|gy (k:=0) (st:=aU as w) (st1:=aU as w) (aK rfl rfl) rfl (ay (bM rfl)<|ay (bM rfl) bh) (aK rfl rfl) rfl e
def HN(e:dD C [.obj 0,.val y] (aU as w)=↑(g,aU (as++[w]) v)):aC C [.obj 0,.val<|.int 2,.val<|iu x y z] (aU as w)=↑(g,aU (as++[w]) v):=by
 refine cP ?_;show jt _ _ k8 (HU 2<|iu x y z) [{C,aU as w}]=_;exact p8<|(aJ<|(bH<|eK 2 0).trans rfl).trans<|(aJ<|(bH<|eK 2 1).trans rfl).trans<|eA<|(AB<|iq 2 2).trans<|gy (k:=0) (st:=aU as w) (st1:=aU as w) (aK rfl rfl) rfl (ay (bM rfl) bh) (aK rfl rfl) rfl e
def FX(e:eB C [.obj 0] (aU (as++[w]) v)=↑(g,aU as w)):aC C [.obj 0,.val<|.int 3,.val<|iu x y z] (aU (as++[w]) v)=↑(g,aU as w):=by
 refine cP ?_;show jt _ _ k8 (HU 3<|iu x y z) [{C,aU (as++[w]) v}]=_;exact p8<|(aJ<|(bH<|eK 3 0).trans rfl).trans<|(aJ<|(bH<|eK 3 1).trans rfl).trans<|eA<|(CL<|iq 3 2).trans<|gy (k:=0) (st:=aU (as++[w]) v) (st1:=aU (as++[w]) v) (aK rfl rfl) rfl bh (aK rfl rfl) rfl e
def JQ(B:td bz dH [w,x,y,z] c)(f:k8 c=↑d):aC C [.obj 0,.val<|.int 0,.val<|iu x y z] (aU as w)=↑(d,aU as w):=by
 have X:=FN (as:=as) (C:=C) B;refine cP ?_;show jt _ _ k8 (HU 0<|iu x y z) [{C,aU as w}]=_;refine qg (c:=c) (vi<|(dM<|eK 0 0).trans<|iX<|nL (k:=0) (st:=aU as w) (aK rfl rfl) (ay (bM rfl)<|ay (bM rfl)<|ay (bM rfl) bh) X.1) ?_ f;exact(xp<|iq 0 0).trans<|va (k:=0) (st:=aU as w) (aK rfl rfl) rfl (cz rfl (cz rfl (cz rfl rfl))) rfl X.2
def L8(B:td bj cD [w,y,z] c)(f:k8 c=↑d):aC C [.obj 0,.val<|.int 1,.val<|iu x y z] (aU as w)=↑(d,aU as w):=by
 have X:=KS (as:=as) (C:=C) B;refine cP ?_;show jt _ _ k8 (HU 1<|iu x y z) [{C,aU as w}]=_;refine qg (c:=c) ((aJ<|(bH<|eK 1 0).trans rfl).trans<|vi<|(dM<|eK 1 1).trans<|iX<|nL (k:=0) (st:=aU as w) (aK rfl rfl) (ay (bM rfl)<|ay (bM rfl) bh) X.1) ?_ f;exact(ou<|iq 1 0).trans<|(xp<|iq 1 1).trans<|va (k:=0) (st:=aU as w) (aK rfl rfl) rfl (cz rfl (cz rfl rfl)) rfl X.2
def Kg(B:td bu dF [w,y] c)(f:k8 c=↑d):aC C [.obj 0,.val<|.int 2,.val<|iu x y z] (aU as w)=↑(d,aU as w):=by
 have X:=KE (as:=as) (C:=C) B;refine cP ?_;show jt _ _ k8 (HU 2<|iu x y z) [{C,aU as w}]=_;refine qg (c:=c) ((aJ<|(bH<|eK 2 0).trans rfl).trans<|(aJ<|(bH<|eK 2 1).trans rfl).trans<|iX<|(AB<|iq 2 2).trans<|nL (k:=0) (st:=aU as w) (aK rfl rfl) (ay (bM rfl) bh) X.1) ?_ f;exact(ou<|iq 2 0).trans<|(ou<|iq 2 1).trans<|(xp<|iq 2 2).trans<|va (k:=0) (st:=aU as w) (aK rfl rfl) rfl (cz rfl rfl) rfl X.2
def LB(f:k8 "Nothing"=↑d):aC C [.obj 0,.val<|.int 3,.val<|iu x y z] (aU [] w)=↑(d,aU [] w):=by
 have X:=LG (C:=C) (w:=w);refine cP ?_;show jt _ _ k8 (HU 3<|iu x y z) [{C,aU [] w}]=_;refine qg (c:="Nothing") ((aJ<|(bH<|eK 3 0).trans rfl).trans<|(aJ<|(bH<|eK 3 1).trans rfl).trans<|iX<|(CL<|iq 3 2).trans<|nL (k:=0) (st:=aU [] w) (aK rfl rfl) bh X.1) ?_ f;exact(ou<|iq 3 0).trans<|(ou<|iq 3 1).trans<|(ou<|iq 3 2).trans<|va (k:=0) (st:=aU [] w) (aK rfl rfl) rfl (show rH _ _=↑[]from rfl) rfl X.2
end
abbrev AS(ns:Γ Int)(rows:Γ D)(x3 x4 x5 x6 x7 x8 x9 x10 x11 x12:Slot):ao:=[.val<|gM ns,.own rows,.obj 0,x3,x4,x5,x6,x7,x8,x9,x10,x11,x12]
section
variable {ns:Γ Int}{as:Γ D}{w P t Ww d:D}{C:Ψ}{ρ:ao}{os VL:Γ Oj}{x3 x4 x5 x6 x7 x8 x9 x10 x11 x12:Slot}
def Ga{ta tb:DR}(h:ta ρ os=↑(false,VL)):vz ta tb ρ os=tb ρ VL:=by unfold vz;rw[h];rfl
def IK{f:OF}{b:θ}(h:f ρ os=↑(.bool b,VL)):Ob.oB f ρ os=↑(b,VL):=by unfold Ob.oB;rw[h];rfl
def km{f:Dl.Env->Δ θ}{b:θ}(h:f (aI ρ)=↑b):oT f ρ os=↑(b,os):=by unfold oT;rw[h];rfl
def Nl{f:Dl.Env->Δ D}(H:f (bD ρ)=none)(h:f (aI ρ)=↑d)(hs:Dl.kg d=true):oD f ρ os=↑(d,os):=by
 unfold oD;rw[H];show(f<|aI ρ).bind _=_;rw[h];exact yL hs
def sH(h:ρ[1]?=↑(.own<|as++[w])):jw 1 WS ρ os=↑(w,os):=by
 unfold jw;rw[h];show(↑(PyData.int<|-1)).bind (λk=>(aN (.list<|as++[w]) k).map (·,os))=_;rw[zA,Dh];rfl
def DY{f:Dl.Env->Δ D}{e:Dl.Env}{ds:Γ D}(h:f e=↑(.list ds)):cQ cS (aa f ag) e=↑(.int (ds.length:Nat)):=by
 have:=zk (r:=ds) (g:=id) (f:=f) (ρ:=e) (by rw[List.map_id];exact h);exact this
def OD(C:Ψ):OG:=(cA (qc (vz (oT aay)<|vz (Ob.oB<|yq dC (oR<|bZ 2 C "world"<|aO C)<|jw 1 WS)<|Ob.oB<|yq dC (cT 2 C "plan" 1 (eu C) dU)<|eh 1 aR<|bf (jw 1 WS) dU) (cw (List.range 13)<|fF<|oD<|fC<|.bool false) Du)<|qc (Ob.oB<|yq dC (oR<|bZ 2 C "many"<|br C)<|oD aaz) (cw (List.range 13)<|fF<|oD<|fC<|.bool false) Du)
def CO(hw:dC w w=↑(.bool false))(p:aR [w]=↑P)(c:dC P P=↑(.bool false))(ht:dC t Ww=↑(.bool false)):OD C (AS ns (as++[w]) x3 x4 x5 x6 x7 x8 x9 x10 (.val Ww)<|.val t) [{C,aU as w}]=↑(.nx (AS ns (as++[w]) x3 x4 x5 x6 x7 x8 x9 x10 (.val Ww)<|.val t) [{C,aU as w}]):=by
 let a:ao:=AS ns (as++[w]) x3 x4 x5 x6 x7 x8 x9 x10 (.val Ww)<|.val t;have ob:obj 2 C a [{C,aU as w}]=↑(0,aU as w):=aK rfl rfl;have l:jw 1 WS a [{C,aU as w}]=↑(w,[{C,aU as w}]):=sH rfl;have H:vz (oT aay) (vz (Ob.oB<|yq dC (oR<|bZ 2 C "world"<|aO C)<|jw 1 WS)<|Ob.oB<|yq dC (cT 2 C "plan" 1 (eu C) dU)<|eh 1 aR<|bf (jw 1 WS) dU) a [{C,aU as w}]=↑(false,[{C,aU as w}]):=
  (Ga<|km<|cF<|aD ht rfl rfl).trans ((Ga<|IK<|uS hw (cE ob rfl dz) l).trans<|IK<|uS c (gy (k:=0) (st:=aU as w) (st1:=aU as w) ob rfl bh ob rfl (Oe p))<|fK p (ay l bh) rfl)
 have e:cQ cS W3 (aI a)=↑(.int ((as++[w]).length:Nat)):=DY rfl;have b:Ob.oB (yq dC (oR<|bZ 2 C "many"<|br C)<|oD aaz) a [{C,aU as w}]=↑(false,[{C,aU as w}]):=
  IK (uS ((nE (as.length:Nat)<|((as++[w]).length:Nat)-1).trans (by rw[yA (by rw[zN,xC];lia)];rfl)) (cE ob rfl AZ) (Nl rfl (aD rfl e rfl) rfl))
 exact(aJ<|(bH H).trans rfl).trans<|(bH b).trans rfl
end
section
variable {ns:Γ Int}{as bs:Γ D}{w w' v P t Ww d g:D}{C:Ψ}{ρ:ao}{os VL:Γ Oj}{k4 k x3 x4 x5 x6 x7 x8 x9 x10 x11 x12:Slot}{way side place VF:Int}{G T G' T':Γ Pl}{W W':Γ Wy}
def uo(h:fX A):∀r∈jv A,r.length=3:=λr H=>by
 let(k,hk,rfl):=(dG h).mp H;rw[zN,h.ln2<|h.key<|by lia,xC]
def Ax(h:Wd G T W):(jv<|fb G T W).length<=16:=by
 unfold jv;rw[zD];exact yD (xP _ _) (by rw[nY];exact h.wl)
abbrev Ql(G T:Γ Pl)(W:Γ Wy)(G' T':Γ Pl)(W':Γ Wy):D:=.list<|(gone (fb G T W)<|fb G' T' W').map af
def Rr(h:Wd G T W)(h':Wd G' T' W'):cI [.list<|(jv<|fb G T W).map af,.list<|(jv<|fb G' T' W').map af]=↑(Ql G T W G' T' W'):=by
 rw[FY (uo<|mz h) (uo<|mz h') (Ax h)<|Ax h',<-Ad (mz h)<|mz h']
def LD(h:Wd G T W)(h':Wd G' T' W'):og 11 (eh 2 cI<|bf (oD aax)<|bf (eh 1 dZ<|bf (jw 1 WS) dU) dU) (AS ns (as++[aw G' T' W']) x3 x4 (.val<|aw G T W) x6 x7 x8 x9 x10 x11 x12) os=↑(.nx (AS ns (as++[aw G' T' W']) x3 x4 (.val<|aw G T W) x6 x7 x8 x9 x10 (.val<|Ql G T W G' T' W') x12) os):=
 nv (fK (Rr h h') (ay (bM<|call_of (Io h) rfl rfl)<|ay (fK (Io h') (ay (sH rfl) bh) rfl) bh) rfl)
def uA:OG:=(qc (oT abh) (b9<|JS 1)<|qc (oT abN) (b9 abO)<|b9 abP)
def RT:OG:=(qc (oT abM) (cA uA<|og 11<|eh 2 cI<|bf (oD aax)<|bf (eh 1 dZ<|bf (jw 1 WS) dU) dU) Du)
def M1(C:Ψ):OG:=(og 12<|nU 2 C 3 (aC C)<|AW<|uW (oD<|ae 6)<|uW (oD aav) Iv)
abbrev mh(ns:Γ Int)(rows:Γ D)(x3 x4:Slot)(w:D)(way side place:Int)(x9:Slot)(VF:Int)(Ww:D)(x12:Slot):ao:=AS ns rows x3 x4 (.val w) (.val<|.int way) (.val<|.int side) (.val<|.int place) x9 (.val<|.int VF) (.val Ww) x12
def iM(j:Int):oT (fB<|f2 bV (ae 6)<|fC<|.int j) (mh ns as x3 x4 w way side place x9 VF Ww x12) os=↑(decide (way=j),os):=km<|cF<|aD (dh way j) rfl rfl
def Kh:uA (mh ns (as++[v]++[w]) x3 x4 w 3 side place x9 VF Ww x12) os=↑(.nx (mh ns (as++[v]) x3 x4 w 3 side place x9 VF Ww x12) os):=by
 refine(dM<|iM 3).trans<|cU ?_;show(if(as++[v]++[w])=[]then none else↑(as++[v]++[w]).dropLast).map _=_;rw[yN<|by simp,List.dropLast_concat];rfl
def JK(e:bz [w,.int side,.int place,.int VF]=↑v)(l:as.length<3000):uA (mh ns as x3 x4 w 0 side place x9 VF Ww x12) os=↑(.nx (mh ns (as++[v]) x3 x4 w 0 side place x9 VF Ww x12) os):=by
 refine(bH<|iM 3).trans<|(dM<|iM 0).trans<|cU ?_;exact rN (call_of e rfl rfl) (call_of e rfl rfl) rfl rfl (by lia)
def JY(e:bj [w,.int place,.int VF]=↑v)(l:as.length<3000):uA (mh ns as x3 x4 w 1 side place x9 VF Ww x12) os=↑(.nx (mh ns (as++[v]) x3 x4 w 1 side place x9 VF Ww x12) os):=by
 refine(bH<|iM 3).trans<|(bH<|iM 0).trans<|cU ?_;have t:∀E:Dl.Env,E[6]?=↑(↑(.int 1))->fB aaw E=↑true:=λE H=>cF<|aD (b:=.int 1) (dh 1 1) (by show(E[6]?).getD none=_;rw[H];rfl) rfl;exact rN (pZ (t _ rfl)<|call_of e rfl rfl) (pZ (t _ rfl)<|call_of e rfl rfl) rfl rfl (by lia)
def Mi(e:bu [w,.int place]=↑v)(l:as.length<3000):uA (mh ns as x3 x4 w 2 side place x9 VF Ww x12) os=↑(.nx (mh ns (as++[v]) x3 x4 w 2 side place x9 VF Ww x12) os):=by
 refine(bH<|iM 3).trans<|(bH<|iM 0).trans<|cU ?_;have t:∀E:Dl.Env,E[6]?=↑(↑(.int 2))->fB aaw E=↑false:=λE H=>cF<|aD (b:=.int 1) (dh 2 1) (by show(E[6]?).getD none=_;rw[H];rfl) rfl;exact rN (xw (t _ rfl)<|call_of e rfl rfl) (xw (t _ rfl)<|call_of e rfl rfl) rfl rfl (by lia)
def CT(e:aC C [.obj 0,.val<|.int way,.val<|iu (.int side) (.int place)<|.int VF] (aU as w)=↑(t,aU bs w')):M1 C (mh ns (as++[w]) x3 x4 w way side place x9 VF Ww x12) [{C,aU as w}]=↑(.nx (mh ns (as++[w]) x3 x4 w way side place x9 VF Ww<|.val t) [{C,aU bs w'}]):=by
 have a:(AW<|uW (oD<|ae 6)<|uW (oD aav) Iv) (mh ns (as++[w]) x3 x4 w way side place x9 VF Ww x12) [{C,aU as w}]=↑([.obj 0,.val<|.int way,.val<|iu (.int side) (.int place)<|.int VF],[{C,aU as w}]):=LR<|C3 (bM rfl)<|C3 (bM rfl) L6;have b:=Fk (n:=3) (k:=0) (i:=2) (C:=C) (ρ:=mh ns (as++[w]) x3 x4 w way side place x9 VF Ww x12) (os:=[{C,aU as w}]) (st:=aU as w) (st1:=aU as w) (aK rfl rfl) a (aK rfl rfl) rfl e;exact nv b
end
abbrev Bx(as:Γ D):Prop:=∀d∈as,∃G T W,d=aw G T W/\Wd G T W
section
variable {ns:Γ Int}{as bs:Γ D}{w w' v P t Ww d g:D}{C:Ψ}{ρ:ao}{os VL:Γ Oj}{x3 x4 x9 x12:Slot}{way side place VF:Int}{G T G' T':Γ Pl}{W W':Γ Wy}
def Cu(C:Ψ):OG:=cA (M1 C)<|cA RT<|OD C
def Ie:k8 "NoPlace"=↑(bG 2):=Td
def Qv:k8 "Nothing"=↑(bG 4):=by
 have e:∀a:Str,(("Nothing":Str)==a)=decide (("Nothing":Str)=a):=λa=>rfl;refine HQ (by decide +kernel) ?_;simp?[P7,zI,vf,Q0,show(("Nothing":Str)==("NoWorld":Str))=false by decide +kernel,show(("Nothing":Str)==("NoPlan":Str))=false by decide +kernel,show(("Nothing":Str)==("NoPlace":Str))=false by decide +kernel,show(("Nothing":Str)==("TooMany":Str))=false by decide +kernel,show(("Nothing":Str)==("Nothing":Str))=true by decide +kernel,xH,yO,qN,zB]
def qd(h:Wd G T W)(h':Wd G' T' W')(e:aC C [.obj 0,.val<|.int way,.val<|iu (.int side) (.int place)<|.int VF] (aU as<|aw G T W)=↑(Ql G T W G' T' W',aU bs<|aw G' T' W'))
  (u:∀os x12,uA (mh ns (as++[aw G T W]) x3 x4 (aw G T W) way side place x9 VF .none x12) os=↑(.nx (mh ns (bs++[aw G' T' W']) x3 x4 (aw G T W) way side place x9 VF .none x12) os)) :
  Cu C (mh ns (as++[aw G T W]) x3 x4 (aw G T W) way side place x9 VF .none x12) [{C,aU as<|aw G T W}]=↑(.nx (mh ns (bs++[aw G' T' W']) x3 x4 (aw G T W) way side place x9 VF (Ql G T W G' T' W')<|.val<|Ql G T W G' T' W') [{C,aU bs<|aw G' T' W'}]):=by
 refine(aJ<|CT e).trans ?_;refine(aJ<|(dM<|km<|cF<|aD (a:=.none) (b:=.none) rfl rfl rfl).trans<|(aJ<|u _ _).trans<|LD h h').trans ?_;exact CO (Dz h') (Bc h') (uQ _)<|(Fh _ _).trans<|by simp
def p9(j:Int)(h:Wd G T W)(e:aC C [.obj 0,.val<|.int way,.val<|iu (.int side) (.int place)<|.int VF] (aU as<|aw G T W)=↑(bG j,aU as<|aw G T W)) :
  Cu C (mh ns (as++[aw G T W]) x3 x4 (aw G T W) way side place x9 VF (bG j) x12) [{C,aU as<|aw G T W}]=↑(.nx (mh ns (as++[aw G T W]) x3 x4 (aw G T W) way side place x9 VF (bG j)<|.val<|bG j) [{C,aU as<|aw G T W}]):=by
 refine(aJ<|CT e).trans ?_;refine(aJ<|(bH<|km<|cF<|aD (a:=bG j) (b:=.none) rfl rfl rfl).trans rfl).trans ?_;exact CO (Dz h) (Bc h) (uQ _)<|GB j
abbrev Jc(as:Γ D)(G T:Γ Pl)(W:Γ Wy)(way side place VF:Int)(Ww:D):Prop:=
 (way=3/\as=[]/\Ww=bG 4)\/(way=3/\as≠[]/\Ww=.none)
\/(way=0/\∃b i,side=sI b/\place=((i:Nat):Int)/\((i<(aX b G T).length/\Ww=.none)\/((aX b G T).length<=i/\Ww=bG 2)))
\/(way=1/\∃i:Nat,place=(i:Int)/\((i<W.length/\0<VF/\Ww=.none)\/(¬(i<W.length/\0<VF)/\Ww=bG 2)))
\/(way=2/\∃i:Nat,place=(i:Int)/\((i<W.length/\Ww=.none)\/(W.length<=i/\Ww=bG 2)))
abbrev Ni(C:Ψ)(ns:Γ Int)(n:Nat)(r:Δ Nz):Prop:=∃bs G T W b c d e f g i x X a,r=↑(.nx (AS ns (bs++[aw G T W]) b c d e f g i x X a) [{C,aU bs<|aw G T W}])/\Wd G T W/\Bx bs/\bs.length<=n
def sf{i n:Nat}(h:n<=i):whole 0 ((n:Int)-1) (nD i)=false:=by
 show(decide ((0:Int)<=(i:Int))&&decide ((i:Int)<=(n:Int)-1))=false;rw[zZ (p:=(i:Int)<=(n:Int)-1) (by lia),kX]
def Bx.snoc(a:Bx as)(h:Wd G T W):Bx (as++[aw G T W]):=λd H=>by
 rcases List.mem_append.mp H with H|H
 .exact a d H
 .exact{G,T,W,List.mem_singleton.mp H,h}
def Ju(h:Wd G T W)(A:Bx as)(l:as.length<90)(m:0<=VF/\VF<=9)(c:Jc as G T W way side place VF Ww) :
  Ni C ns (as.length+1) (Cu C (mh ns (as++[aw G T W]) x3 x4 (aw G T W) way side place x9 VF Ww x12) [{C,aU as<|aw G T W}]):=by
 have r:(as++[aw G T W]).length<3000:=by rw[zN,xC];lia
 have n:(as++[aw G T W]).length<=as.length+1:=by rw[zN,xC];lia
 rcases c with ⟨rfl,rfl,rfl⟩|⟨rfl,Z,rfl⟩|⟨rfl,b,i,rfl,rfl,⟨I,rfl⟩|⟨I,rfl⟩⟩|⟨rfl,i,rfl,⟨I,f,rfl⟩|⟨I,rfl⟩⟩|⟨rfl,i,rfl,⟨I,rfl⟩|⟨I,rfl⟩⟩
 .exact{[],G,T,W,_,_,_,_,_,_,_,_,_,_,p9 4 h<|LB Qv,h,A,by simp}
 .obtain⟨bs,v,rfl⟩:∃bs v,as=bs++[v]:={as.dropLast,as.getLast Z,(List.dropLast_concat_getLast Z).symm}
  let(g,t,w,rfl,H):=A v (by simp);refine{bs,g,t,w,_,_,_,_,_,_,_,_,_,_,qd h H (FX<|N5<|vv h H) λo x12=>Kh,H,λd D=>A d<|qJ _ D,by rw[zN]at l ⊢;lia}
 .obtain⟨g,t,w,e,H⟩:∃g t w,Ud b G T W i VF=aw g t w/\Wd g t w:=by
   cases b
   .exact{_,_,_,rfl,h.gA m}
   .exact{_,_,_,rfl,h.tA m}
  have E:=(tE (a:=VF) h I m).trans<|jB some e;exact{as++[aw G T W],g,t,w,_,_,_,_,_,_,_,_,_,_,qd h H (IU<|GC E (vv h H)<|by lia) λo x12=>JK E r,H,A.snoc h,n}
 .exact{as,G,T,W,_,_,_,_,_,_,_,_,_,_,p9 2 h<|JQ (TZ h<|Uj h b rfl (sf I)) Ie,h,A,by lia}
 .have E:=vj (x:=VF) h I {by lia,m.2};have H:=h.ahF I (x:=VF) {by lia,m.2};exact{as++[aw G T W],_,_,_,_,_,_,_,_,_,_,_,_,_,qd h H (FP<|KW E (vv h H)<|by lia) λo x12=>JY E r,H,A.snoc h,n}
 .have B:td bj cD [aw G T W,nD i,.int VF] "NoPlace":=by
   by_cases hk:i<W.length
   .refine T3 h hk<|Q9 rfl ?_;show(decide ((1:Int)<=VF)&&decide (VF<=9))=false;rw[zZ<|by lia,vV]
   .exact Tr h<|NF rfl (sf<|by lia)
  exact{as,G,T,W,_,_,_,_,_,_,_,_,_,_,p9 2 h<|L8 B Ie,h,A,by lia}
 .have E:=tG h I;have H:=h.less I;exact{as++[aw G T W],_,_,_,_,_,_,_,_,_,_,_,_,_,qd h H (HN<|JT E (vv h H)<|by lia) λo x12=>Mi E r,H,A.snoc h,n}
 .exact{as,G,T,W,_,_,_,_,_,_,_,_,_,_,p9 2 h<|Kg (Ta h<|NF rfl (sf I)) Ie,h,A,by lia}
end
section
variable {ns:Γ Int}{as:Γ D}{d:D}{C:Ψ}{ρ:ao}{os VL:Γ Oj}{k:Nat}{x4 x5 x6 x7 x8 x9 x10 x11 x12:Slot}{G T:Γ Pl}{W:Γ Wy}
def DD{f:Dl.Env->Δ D}(A:f (aI ρ)=↑d)(F:f (bD<|hand fz 0 ρ)=↑d)(n:j3 d=true):Dl.aL i fz f ρ=↑(.nx<|ρ.set i<|.val d):=by
 unfold Dl.aL;rw[A,zA];by_cases c:Dl.kg d=true
 .rw[yL c]
 .rw[yN c,F,zB,yL n]
def Vt(j m:Int):Dl.Env->Δ D:=aj 3 aq<|aa (ae 0)<|aa (f2 Dl.aS (ae 4)<|fC<|.int j)<|aa (fC<|.int m) ag
def A7{h j m:Int}(l:ns.length<=63)(M:0<m)(H:E[0]?=↑(↑(gM ns)))(h4:E[4]?=↑(↑(.int h))):Vt j m E=↑(.int<|dr ns (h+j) m):=
 call_of (sx (h+j) m l M) (cons_of (by show(E[0]?).getD none=_;rw[H];rfl)<|cons_of (aD (iH h j) (by show(E[4]?).getD none=_;rw[h4];rfl) rfl)<|cons_of rfl rfl) rfl
def two(s:Int)(h:0<=s/\s<2):∃b,s=sI b:=by
 rcases(show s=0\/s=1 by lia)with rfl|rfl
 .exact{false,rfl}
 .exact{true,rfl}
def Ar{a b:Dl.Env->Δ θ}{c:θ}(H:a E=↑true)(B:b E=↑c):gU a b E=↑c:=by unfold gU;rw[H];exact B
def Na{a b:Dl.Env->Δ θ}(H:a E=↑false):gU a b E=↑false:=by unfold gU;rw[H];rfl
def TQ{a b:Dl.Env->Δ θ}(H:a E=↑true):qo a b E=↑true:=by unfold qo;rw[H];rfl
def Q7{a b:Dl.Env->Δ θ}{c:θ}(H:a E=↑false)(B:b E=↑c):qo a b E=↑c:=by unfold qo;rw[H];exact B
def JB(i j:Int):Sz (.int i) (.int j)=↑(.bool<|decide (j<=i)):=rfl
abbrev ref(j:Int):Dl.Env->Δ D:=bg<|aa (fC<|.str "refused")<|aa (fC<|.int j) ag
def wZ(j:Int)(E:Dl.Env):ref j E=↑(bG j):=tup_is (cons_of rfl (cons_of rfl rfl)) (by simp)
def s7:OG:=qc (oT<|gU (fB<|f2 Sz (ae 8)<|f2 aS (ae 9)<|fC<|.int 1)<|fB<|f2 HM (ae 9)<|fC<|.int 0) (b9<|Dl.aL 8 [8,9]<|f2 Dl.lK (ae 8)<|ae 9) Du
def OY{x3 x4 x5 x6 x7:Slot}{rows:Γ D}(p n:Nat):∃i:Nat,s7 (AS ns rows x3 x4 x5 x6 x7 (.val<|nD p) (.val<|nD n) x10 x11 x12) os=↑(.nx (AS ns rows x3 x4 x5 x6 x7 (.val<|nD i) (.val<|nD n) x10 x11 x12) os):=by
 have t:fB aeI (aI<|AS ns rows x3 x4 x5 x6 x7 (.val<|nD p) (.val<|nD n) x10 x11 x12)=↑(decide ((n:Int)+1<=(p:Int))):=cF<|aD (JB _ _) rfl (aD (iH _ _) rfl rfl);have T:fB (f2 HM (ae 9)<|fC<|.int 0) (aI<|AS ns rows x3 x4 x5 x6 x7 (.val<|nD p) (.val<|nD n) x10 x11 x12)=↑(decide ((0:Int)<(n:Int))):=cF<|aD (gX _ _) rfl rfl;by_cases c1:(n:Int)+1<=(p:Int)
 .by_cases c2:(0:Int)<(n:Int)
  .refine{p%n,(dM<|km<|Ar (t.trans<|by rw[yA c1])<|T.trans<|by rw[yA c2]).trans<|cU ?_};refine dy (d:=nD<|p%n) ?_ rfl;exact(aD (gz c2) rfl rfl).trans (by rw[<-Int.natCast_emod]) 
  .exact{p,(bH<|km<|Ar (t.trans<|by rw[yA c1])<|T.trans<|by rw[zZ c2]).trans rfl}
 .exact{p,(bH<|km<|Na<|t.trans<|by rw[zZ c1]).trans rfl}
def R8:OG:=qc (oT abh) (b9<|Dl.aL 11 [1]<|ME abF (ref 4)<|fC .none)<|qc (oT abJ) (b9 aau) Du
def QA{x3 x4:Slot}{rows:Γ D}{w:D}{way side place VF:Int}(H:way=3):R8 (mh ns rows x3 x4 w way side place x9 VF (bG 2) x12) os=↑(.nx (mh ns rows x3 x4 w way side place x9 VF (if rows.length=1 then bG 4 else .none) x12) os):=by
 subst H;refine(dM<|iM 3).trans<|cU ?_;have t:∀E:Dl.Env,E[1]?=↑(↑(.list rows))->fB abE E=↑(decide (((rows.length:Nat):Int)=1)):=λE e=>cF<|aD (dh _ _) (DY (by show(E[1]?).getD none=_;rw[e];rfl)) rfl;by_cases c:rows.length=1
 .rw[yL c];have C:((rows.length:Nat):Int)=1:=by lia
  exact DD (pZ ((t _ rfl).trans<|by rw[yA C])<|wZ 4 _) (pZ ((t _ rfl).trans<|by rw[yA C])<|wZ 4 _) rfl
 .rw[yN c];have C:¬((rows.length:Nat):Int)=1:=by lia
  exact DD (xw ((t _ rfl).trans<|by rw[zZ C]) rfl) (xw ((t _ rfl).trans<|by rw[zZ C]) rfl) rfl
def NU{x3 x4:Slot}{rows:Γ D}{w:D}{way side VF:Int}{p n:Nat}(H:way≠3):R8 (mh ns rows x3 x4 w way side ((p:Nat):Int) (.val<|nD n) VF (bG 2) x12) os=↑(.nx (mh ns rows x3 x4 w way side ((p:Nat):Int) (.val<|nD n) VF (if p<n/\(way≠1\/0<VF)then .none else bG 2) x12) os):=by
 refine(bH<|(iM 3).trans<|by rw[zZ H]).trans ?_;have t:fB abG (aI<|mh ns rows x3 x4 w way side ((p:Nat):Int) (.val<|nD n) VF (bG 2) x12)=↑(decide ((p:Int)<(n:Int))):=cF<|aD (m6 _ _) rfl rfl;have T:fB abH (aI<|mh ns rows x3 x4 w way side ((p:Nat):Int) (.val<|nD n) VF (bG 2) x12)=↑(!decide (way=1)):=cF<|aD (nE _ _) rfl rfl;have a:fB abI (aI<|mh ns rows x3 x4 w way side ((p:Nat):Int) (.val<|nD n) VF (bG 2) x12)=↑(decide ((0:Int)<VF)):=cF<|aD (gX _ _) rfl rfl;have o:b9 aau (mh ns rows x3 x4 w way side ((p:Nat):Int) (.val<|nD n) VF (bG 2) x12) os=↑(.nx (mh ns rows x3 x4 w way side ((p:Nat):Int) (.val<|nD n) VF .none x12) os):=cU<|dy (d:=.none) rfl rfl;by_cases c1:(p:Int)<(n:Int)
 .have Y:=t.trans (by rw[yA c1]);by_cases c2:way=1
  .have y:=T.trans (show _=↑false by rw[yA c2];rfl);by_cases c3:(0:Int)<VF
   .rw[yL {by lia,.inr c3}];exact(dM<|km<|Ar Y<|Q7 y<|a.trans<|by rw[yA c3]).trans o
   .rw[yN λz=>z.2.elim (λf=>f c2) c3];exact(bH<|km<|Ar Y<|Q7 y<|a.trans<|by rw[zZ c3]).trans rfl
  .have y:=T.trans (show _=↑true by rw[zZ c2];rfl);rw[yL {by lia,.inl c2}];exact(dM<|km<|Ar Y<|TQ y).trans o
 .rw[yN λz=>c1<|by lia];exact(bH<|km<|Na<|t.trans<|by rw[zZ c1]).trans rfl
end
section
variable {ns:Γ Int}{as:Γ D}{d:D}{C:Ψ}{ρ:ao}{os VL:Γ Oj}{x4 x5 x6 x7 x8 x9 x10 x11 x12:Slot}{G T:Γ Pl}{W:Γ Wy}
def Qg{i:Nat}{fz:Γ Nat}{f:Dl.Env->Δ D}(h:f (aI ρ)=↑d)(hs:Dl.kg d=true):b9 (Dl.aL i fz f) ρ os=↑(.nx (ρ.set i<|.val d) os):=cU<|dy h hs
def BH(b:θ)(G T:Γ Pl)(W:Γ Wy)(way:Int):Nat:=if way=0 then(aX b G T).length else if way=3 then 0 else W.length
abbrev RB:Dl.Env->Δ D:=fP aeH
def size_of{b:θ}{way:Int}(hw:0<=way/\way<4)(H:ae 5 E=↑(aw G T W))(a:ae 6 E=↑(.int way))(c:ae 7 E=↑(.int<|sI b)):f2 aN RB (ae 6) E=↑(nD<|BH b G T W way):=by
 have l:RB E=↑(.list [nD (aX b G T).length,nD W.length,nD W.length,.int 0]):=jf<|BG (cons_of (lZ (l:=aX b G T) (k:=bA)<|aD (eC b G T W) H c)<|cons_of (lZ (l:=W) (k:=aE)<|aD (dI G T W) H rfl)<|cons_of (lZ (l:=W) (k:=aE)<|aD (dI G T W) H rfl)<|cons_of rfl rfl) (by simp);refine aD ?_ l a;rcases(show way=0\/way=1\/way=2\/way=3 by lia)with rfl|rfl|rfl|rfl<;>rfl
def Nx(l:ns.length<=63)(h:Wd G T W)(u:Bx as)(k:Nat)(hk:k<8)(R:as.length<=k):Ni C ns (k+1) (fA C (AS ns (as++[aw G T W]) (.val<|nD k) x4 x5 x6 x7 x8 x9 x10 x11 x12) [{C,aU as<|aw G T W}]):=by
 have D:=dQ (ns:=ns) (70+8*(k:Int)) 4 l (by decide);have o:=dQ (ns:=ns) (70+8*(k:Int)+1) 2 l (by decide);have Q:=dQ (ns:=ns) (70+8*(k:Int)+2) 8 l (by decide);have r:=dQ (ns:=ns) (70+8*(k:Int)+3) 10 l (by decide);let(b,B):=two _ o.2;obtain⟨p,P⟩:∃p:Nat,dr ns (70+8*(k:Int)+2) 8=(p:Int):={(dr ns (70+8*(k:Int)+2) 8).toNat,by lia}
 generalize s:dr ns (70+8*(k:Int)) 4=w at D;generalize M:dr ns (70+8*(k:Int)+3) 10=v at r;let(i,E):=OY (ns:=ns) (os:=[{C,aU as<|aw G T W}]) (rows:=as++[aw G T W]) (x3:=.val<|nD k) (x4:=.val<|.int<|70+8*(k:Int)) (x5:=.val<|aw G T W) (x6:=.val<|.int w) (x7:=.val<|.int<|sI b) (x10:=x10) (x11:=x11) (x12:=x12) p<|BH b G T W w;have c:Jc as G T W w (sI b) (i:Int) v (if w=3 then(if(as++[aw G T W]).length=1 then bG 4 else .none)else if i<BH b G T W w/\(w≠1\/0<v)then .none else bG 2):=by
  rcases(show w=0\/w=1\/w=2\/w=3 by lia)with rfl|rfl|rfl|rfl
  .refine .inr<|.inr<|.inl {rfl,b,i,rfl,rfl,?_};rw[yN<|by decide];show(i<(aX b G T).length/\(if i<(aX b G T).length/\((0:Int)≠1\/0<v)then PyData.none else bG 2)=PyData.none)\/_/\(if i<(aX b G T).length/\((0:Int)≠1\/0<v)then PyData.none else bG 2)=bG 2;by_cases z:i<(aX b G T).length
   .exact .inl {z,yL {z,.inl<|by decide}}
   .exact .inr {by lia,yN λq=>z q.1}
  .refine .inr<|.inr<|.inr<|.inl {rfl,i,rfl,?_};rw[yN<|by decide];show(i<W.length/\0<v/\(if i<W.length/\((1:Int)≠1\/0<v)then PyData.none else bG 2)=PyData.none)\/_/\(if i<W.length/\((1:Int)≠1\/0<v)then PyData.none else bG 2)=bG 2;by_cases z:i<W.length/\0<v
   .exact .inl {z.1,z.2,yL {z.1,.inr z.2}}
   .exact .inr {z,yN λq=>z {q.1,q.2.elim (λf=>absurd rfl f) id}}
  .refine .inr<|.inr<|.inr<|.inr {rfl,i,rfl,?_};rw[yN<|by decide];show(i<W.length/\(if i<W.length/\((2:Int)≠1\/0<v)then PyData.none else bG 2)=PyData.none)\/_/\(if i<W.length/\((2:Int)≠1\/0<v)then PyData.none else bG 2)=bG 2;by_cases z:i<W.length
   .exact .inl {z,yL {z,.inl<|by decide}}
   .exact .inr {by lia,yN λq=>z q.1}
  .rw[yL rfl];by_cases z:as=[]
   .refine .inl {rfl,z,?_};rw[z];rfl
   .refine .inr<|.inl {rfl,z,yN ?_};rw[zN,xC];have:=List.length_pos_iff.mpr z;lia
 have F:=Ju (ns:=ns) (C:=C) (x3:=.val<|nD k) (x4:=.val<|.int<|70+8*(k:Int)) (x9:=.val<|nD<|BH b G T W w) (x12:=x12) h u (by lia) (by lia:0<=v/\v<=9) c;have st:fA C (AS ns (as++[aw G T W]) (.val<|nD k) x4 x5 x6 x7 x8 x9 x10 x11 x12) [{C,aU as<|aw G T W}]=Cu C (mh ns (as++[aw G T W]) (.val<|nD k) (.val<|.int<|70+8*(k:Int)) (aw G T W) w (sI b) (i:Int) (.val<|nD<|BH b G T W w) v (if w=3 then(if(as++[aw G T W]).length=1 then bG 4 else .none)else if i<BH b G T W w/\(w≠1\/0<v)then .none else bG 2) x12) [{C,aU as<|aw G T W}]:=by
  unfold fA;refine(aJ<|Qg (d:=.int<|70+8*(k:Int)) (aD (iH _ _) rfl (aD (fH<|.inl {by decide,by decide}) rfl rfl)) rfl).trans ?_;refine(aJ<|nv<|sH rfl).trans ?_;refine(aJ<|Qg (d:=.int w) (s▸call_of (sx _ 4 l<|by decide) (cons_of rfl (cons_of rfl (cons_of rfl rfl))) rfl) rfl).trans ?_;refine(aJ<|Qg (d:=.int<|sI b) (B▸A7 (j:=1) (m:=2) l (by decide) rfl rfl) rfl).trans ?_;refine(aJ<|Qg (d:=nD p) ((A7 (j:=2) (m:=8) l (by decide) rfl rfl).trans<|by rw[P]) rfl).trans ?_;refine(aJ<|Qg (d:=nD<|BH b G T W w) (size_of {D.2.1,D.2.2} rfl rfl rfl) rfl).trans ?_;refine(aJ E).trans ?_;refine(aJ<|Qg (d:=.int v) (M▸A7 (j:=3) (m:=10) l (by decide) rfl rfl) rfl).trans ?_;refine(aJ<|cU<|bN (d:=bG 2) (wZ 2 _) (wZ 2 _) rfl).trans ?_;by_cases c3:w=3
  .rw[yL c3];exact aJ<|QA c3
  .rw[yN c3];exact aJ<|NU c3
 rw[st];let(bs,g,t,n,x,I,J,K,L,N,O,y,Y,a,e,H,A,S):=F;exact{bs,g,t,n,x,I,J,K,L,N,O,y,Y,a,e,H,A,by lia}
end
def PF{C:Ψ}{w:D}(h:cK [w]=↑.none):xv C [.obj 0,.val w] []=↑(.none,aU [] w):=by
 refine Lh (ρ':=[.obj 0,.val w]) ?_;show cA _ _ [.obj 0,.val w] [{C,[]}]=_;refine(aJ<|cU<|dW<|call_of h rfl rfl).trans ?_;unfold CY;rw[show gO W3 (bD [.obj 0,.val w])=↑[w]from BG (cons_of rfl rfl)<|by simp,zA,aK (k:=0) (st:=[]) rfl rfl];rfl
def Ho{ρ:ao}{os os1:Γ Oj}{ds:Γ D}{fs:yf}{i n:Nat}{C:Ψ}{m:Γ Slot->Fs->Δ (D×Fs)}{st:Fs}(a:fs ρ os=↑(ds,os1))(b:ρ.all (below os1.length)=true)(l:ds.length+1=n)(H:m (.obj 0::ds.map Slot.val) []=↑(.none,st)):Af i C n m fs ρ os=↑(.nx (ρ.set i<|.obj os1.length)<|os1++[⟨C,st⟩]):=by
 unfold Af;rw[a,zA,yL ⟨b,l⟩,H];rfl
def MS{g:Γ D->Δ D}{fs:Dl.Env->Δ (Γ D)}{ds:Γ D}(h:fs E=↑ds):cQ g fs E=g ds:=by
 unfold cQ;rw[h];rfl
namespace K70M
def main(C:Ψ)(ns:Γ Int)(L:ns.length<=63):tR C [.list<|ns.map PyData.int]=↑(.bool true):=by
 let(G,T,W,E,h,f):=Aa (ns:=ns) (a:=0) (mo:=6) L (by decide);obtain⟨N,D,F⟩:∃N:Nat,max (1:Int) (min 7 ((ns.length:Nat):Int))=((N:Nat):Int)/\N<=7:={(max (1:Int)<|min 7 ((ns.length:Nat):Int)).toNat,by lia,by lia}
 let(ρ1,O,K,bs,p,t,w,q,c,i,k,l,m,o,x,X,b,H,A,z,rfl,rfl):=ur (tgt:=AA 3) (gb:=fA C) nD (λj v s=>∃bs G T W q c i k l m o x X b,Wd G T W/\Bx bs/\bs.length<=j/\v=AS ns (bs++[aw G T W]) q c i k l m o x X b/\s=[{C,aU bs<|aw G T W}]) N (ρ:=AS ns ([]++[aw G T W]) .VC .VC .VC .VC .VC .VC .VC .VC .VC .VC) (os:=[{C,aU []<|aw G T W}])
  (λj v s hj hR=>by
   let(bs,G,T,W,q,c,i,k,l,m,o,x,X,b,h,a,z,rfl,rfl):=hR;let(B,p,t,w,M,P,Q,R,S,U,Z,y,Y,u,e,H,A,J):=Nx (C:=C) (x4:=c) (x5:=i) (x6:=k) (x7:=l) (x8:=m) (x9:=o) (x10:=x) (x11:=X) (x12:=b) L h a j (by lia) z;exact{_,_,_,rfl,e,B,p,t,w,M,P,Q,R,S,U,Z,y,Y,u,H,A,J,rfl,rfl})
  {[],G,T,W,_,_,_,_,_,_,_,_,_,_,h,λd I=>(nomatch I),yM _,rfl,rfl}
 apply Lm (os:=[{C,aU bs<|aw p t w}]);show lj C [.val<|gM ns,.VC,.VC,.VC,.VC,.VC,.VC,.VC,.VC,.VC,.VC,.VC,.VC] []=_;unfold lj;refine(aJ<|cU<|gc (ds:=[aw G T W]) (BG (cons_of (call_of E rfl rfl) rfl)<|by simp) rfl).trans ?_;refine(aJ<|Ho (ds:=[aw G T W]) (os1:=[]) (ay (show jw 1 (fC<|.int 0) (AS ns ([]++[aw G T W]) .VC .VC .VC .VC .VC .VC .VC .VC .VC .VC |>.set 2 .VC) []=↑(aw G T W,[])from rfl) bh) rfl rfl (PF<|cJ h)).trans ?_;refine(aJ<|Mh (Hu (n:=N) (cons_of ((MS<|cons_of rfl (cons_of ((MS<|cons_of rfl (cons_of (zk (r:=ns) (g:=PyData.int) rfl) rfl)).trans rfl) rfl)).trans (by show some (PyData.int<|max (1:Int)<|min 7 ((ns.length:Nat):Int))=_;rw[D])) rfl)<|by lia) K).trans ?_;exact eA<|bM rfl
end K70M
end Wm
set_option hygiene false in
local macro_rules|`(tactic|ac_rfl)=>`(tactic|(intro X E HF H pa j k C Y;repeat' first|kernel_rfl|with_reducible (first|refine SE ?_ ?_ ?_|exact BF|refine C.b.v _ ?_|exact NP|refine Qt ?_ ?_ (l9 ?_)|refine C.call ?_ ?_ ?_ ?_ ?_|refine C.b.add ?_ ?_|refine C.b.sub ?_ ?_|refine C.b.mul ?_ ?_|refine C.b.mod ?_ ?_|refine C.b.div ?_ ?_|refine NV ?_|exact Q4|exact Nu|exact Pe|refine C.b.cut ?_ ?_ ?_|exact KO|refine JG ?_|refine C.b.eq ?_ ?_|refine C.b.af5 ?_ ?_ ?_ ?_|refine C.b.neg ?_|refine O2 ?_ ?_|refine Np ?_|refine RZ ?_ ?_ ?_|refine ON (C.bl ?_ ?_) ?_ (aA ?_)|refine GJ (C.bl ?_ ?_) ?_ (aA ?_)|refine O0 C.c (C.bl ?_ ?_) ?_ (aA ?_)|refine OJ C.c (C.bl ?_ ?_) (aA ?_) (bo ?_) ?_|refine NY C.c (C.bl ?_ ?_) (aA ?_) (bo ?_) ?_|refine Qm (C.bl ?_ ?_) (C.bl ?_ ?_) ?_ ?_ ?_ (aA ?_)|refine JO C.c C.u3 (C.bl ?_ ?_) ?_ (aA ?_)|refine Fb C.c (C.bl ?_ ?_) (C.bl ?_ ?_) ?_ (aA ?_)|refine C.idx ?_ ?_ ?_ ?_ ?_|refine C.get ?_ ?_ ?_ ?_ ?_ ?_ ?_|refine DF.de ?_|refine C.gi ?_ ?_ ?_|refine NX ?_|refine Nv ?_ ?_|refine Fm (C.bl ?_ ?_) ?_ (aA ?_)|refine C.ad3 ?_ ?_ (C.bl ?_ ?_) (C.bl ?_ ?_)|refine C.comp ?_ (λ_ _ _ C=>⟨?_,?_,?_⟩) ?_ ?_|refine C.Z0 Y ?_ (λ_ _ _ _ _ C=>?_) ?_ ?_ ?_ ?_ ?_|refine PL ?_|refine GV (C.bl ?_ ?_) ?_ (aA ?_)|refine Lu (C.bl ?_ ?_) ?_ (aA ?_)|refine Mr (C.bl ?_ ?_) (aA ?_) (bo ?_) ?_|refine C.g1 ?_|refine C.g2 ?_ ?_|exact Lr|refine LM ?_|refine C.b.teq ?_ ?_|refine C.b.tne ?_ ?_|refine C.b.tlt ?_ ?_|refine C.b.tgt ?_ ?_|refine C.b.tge ?_ ?_|refine C.b.agn ?_ ?_ ?_|refine C.b.af6 ?_ ?_|refine C.b.adG ?_ ?_|refine NQ ?_|refine DW.dt (GY ?_ ?_)|refine DW.dt (MJ ?_ ?_)|refine GY ?_ ?_|refine MJ ?_ ?_|refine JA ?_|refine NK ?_|refine PZ ?_ ?_|refine Il ?_|refine MZ ?_ ?_ ?_|refine C.set ?_ ?_ ?_|refine C.setC ?_ (λ_ _ _ C=>⟨?_,?_,?_⟩) ?_ ?_ ?_ (by decide +kernel) (by decide +kernel)|refine C.ad2 ?_ ?_ (C.swl (by decide +kernel))|refine C.ad2 ?_ ?_ ?_|refine Od _ C.b.pass C.c ?_ ?_ ?_ (ya ?_)|refine C.t1 ?_|refine C.t2 ?_ ?_|refine Hi _ C.b.pass ?_ ?_|refine C.app ?_ ?_ ?_ ?_|refine C.ext ?_ ?_ ?_ ?_|refine C.ins ?_ ?_ ?_ ?_ ?_ ?_|refine C.pop ?_ ?_|refine C.sto ?_ ?_ ?_ ?_ ?_|exact Qs|refine Cy ?_ ?_|exact J6|refine C2 ?_|refine Az ?_ ?_|refine Ex.RL C Y ?_ ?_ ?_ ?_ ?_|refine Ex.OL C Y ?_|exact Ex.Qu|refine Ex.Gy ?_ ?_|refine Ex.MU ?_ ?_ ?_|refine Ex.Ds ?_ ?_ ?_|refine Ex.rg ?_|refine Lp ?_|refine OR.oe ?_|refine Kd ?_|refine Rt C ?_ ?_ ?_ ?_ ?_|refine ND C Y.ck ?_ ?_ ?_ ?_ ?_|refine TL C ?_ ?_|exact Ky|refine JI ?_ ?_ (aA ?_)|refine Oa C Y.ck ?_ ?_ ?_|refine QY C Y.ck ?_ ?_ ?_ ?_ ?_ ?_ ?_|refine Ng C Y.ck ?_ ?_ ?_|refine TY C Y.ck ?_ ?_ (C.bl ?_ ?_)|refine UK C Y.ck ?_ ?_ ?_ ?_|refine Vf C ?_ ?_ ?_|refine Um C Y.ck ?_ ?_ ?_|refine SM C ?_ ?_ ?_|refine SS C Y.ck ?_ ?_ ?_ ?_|refine TC C Y.ck ?_ ?_ ?_ ?_ ?_|refine R3 C Y ?_ ?_ ?_ ?_ ?_ ?_|refine Vs C ?_ ?_|refine one C ?_ ?_|refine QB ?_ ?_|exact PN|refine Mo ?_ ?_ (aA ?_)|exact Jx|refine HV ?_ ?_ (aA ?_)|refine Lq ?_|refine OW.ot (MR ?_ ?_)|refine MR ?_ ?_|refine NA ?_|refine NC ?_ ?_ ?_|refine Kb (λ_=>?_)|refine C7 _ (F8 ?_)|refine QJ ?_ ?_ ?_|refine NB _ C.b.pass C.c ?_ (λ_=>?_) ?_ (ya ?_)|exact RJ|exact K9|refine wc ?_|refine z9 ?_ ?_|exact Pw|refine Oc C Y ?_ ?_ ?_ ?_ ?_|refine Oq C Y ?_ ?_ ?_|refine QM C Y ?_ ?_ ?_ ?_ ?_ ?_ ?_|refine TF C Y ?_ ?_ ?_ ?_ ?_|refine Q1 C ?_ ?_ ?_ ?_|refine Vv C Y ?_|refine Nm ?_ ?_ ?_|refine GU ?_ ?_ ?_|refine Dk ?_|(intros;with_unfolding_all rfl)|(with_unfolding_all decide))|refine Az ?_ ?_|refine C2 ?_|refine Il ?_|refine Cy ?_ ?_|refine MZ ?_ ?_ ?_|refine z9 ?_ ?_|refine wc ?_|refine C7 _ (F8 ?_)|refine GU ?_ ?_ ?_|refine Q1 C ?_ ?_ ?_ ?_|refine Dk ?_|refine Ex.Ds ?_ ?_ ?_|refine Ex.rg ?_|refine Ex.MU ?_ ?_ ?_|refine Ex.Gy ?_ ?_|refine Ng C Y.ck ?_ ?_ ?_|refine UK C Y.ck ?_ ?_ ?_ ?_|refine QB ?_ ?_))
namespace K70
open PySem L2 Dl PySem.Spec PyProof.Rows
open Pg Ob Og Ex Rg Rf
abbrev Vq:Γ Str:=["NoWorld","NoPlan","NoPlace","TooMany","Nothing"]
abbrev UW:Γ Str:=["NoPlace","NoPlan","NoWorld","Nothing"]
abbrev gi:Γ (Str×Int):=[("MOST_PLACES",4),("MOST",9)]
abbrev Ls:FT:=("_law_unlike",2,cI)::("_law_goes",1,dZ)::("_law_world",3,du)::("_law_orders",3,bW)::("_law_drawn",3,aq)::("_law_cell",2,gQ)::("gone_otherwise",2,aQ)::("flows_between",1,dJ)::("givers_best",1,aR)::("capped",2,qq)::("steps",1,u5)::("refused",2,iA)::("lowered",3,eX)::("limits",1,rM)::("chosen_by_all",3,bE)::("chosen_by",4,fE)::("ways_of",3,oM)::("without_way",2,bu)::("with_limit",3,bj)::("with_amount",4,bz)::("with_ways",2,fg)::("with_likes",4,iN)::("with_end",5,gq)::("replaced",3,dg)::("check_place",3,cL)::("check_side",1,fW)::("check_number",2,aV)::("check_whole",3,bJ)::("check_world",1,cK)::("is_world",1,cZ)::("liked_pairs",1,bI)::("are_parts",3,gW)::("is_way",3,k6)::("is_end",2,gu)::("are_likes",2,gV)::("is_long",3,dv)::("is_number",2,da)::("is_whole",3,cB)::[]
abbrev Xs:XT:=("without_way",2,dF)::("with_limit",3,cD)::("with_amount",4,dH)::("check_place",3,dB)::("check_side",1,iL)::("check_number",2,bp)::("check_whole",3,bY)::("check_world",1,ij)::[]
abbrev c0:Cg:={"Desk",cN,["stages"],[],none,[],[],[],["_law_desk"],["_law_rows"]}
abbrev c1:Cg:={c0 with ini:=↑(2,xv cN)}
abbrev c2:Cg:={c1 with rs:=("world",aO cN)::c1.rs}
abbrev c3:Cg:={c2 with ms:=("plan",1,eu cN)::c2.ms}
abbrev c4:Cg:={c3 with ms:=("change_to",2,bB cN)::c3.ms}
abbrev c5:Cg:={c4 with ms:=("set_amount",4,bP cN)::c4.ms,xs:=("set_amount",4,dR cN)::c4.xs}
abbrev c6:Cg:={c5 with ms:=("set_limit",3,bS cN)::c5.ms,xs:=("set_limit",3,eI cN)::c5.xs}
abbrev c7:Cg:={c6 with ms:=("close",2,dD cN)::c6.ms,xs:=("close",2,hZ cN)::c6.xs}
abbrev c8:Cg:={c7 with rs:=("many",br cN)::c7.rs}
abbrev c9:Cg:={c8 with ms:=("undo",1,eB cN)::c8.ms,xs:=("undo",1,iZ cN)::c8.xs}
abbrev UE:Cg:={c9 with fs:=("_law_told",3,aC cN)::c9.fs}
abbrev DQ:Γ D->Δ D:=tR cN
def Qq:P2 (top 56) (i6<|top 56) {Ls,gi} UE (aP<|top 56) (lj cN):=by ac_rfl
structure OQ(K:PySem.W.Frag)(mg:Str->Option Value):Prop where
 o:∀P w base,Xq.Bp P w K mg base gi UW 61 Ls Xs UE
 c:Em K mg "law" (top 56) ["_law_script"]
def PR{P:ε}{w:δ}{K:PySem.W.Frag}{m:Str->Δ Θ}{fa:Ψ}(D:OQ K m)(A:m "law"=↑(.ref fa)):∃d:η,(∀(s:Ξ)(v:Θ),BindsTo s d {[v],[]} [("_law_script",v)])/\∀base:ι,K.In base->base.Ns mainGlobals m->dE P w K m base tI 63 fa d ["_law_script"] (Qf K 1 DQ):=by
 let(f,d,M,F,B):=D.c.ex;rw[A]at M;cases M;refine{d,λs v=>?_,λbase _ _=>QL F (Rf.Uh (N:=i6<|top 56)) λX p hw k e E C _ _ j H i=>by subst p;subst hw;subst k;subst e;subst E;exact let ⟨a,b⟩:=Xq.yo (D.o X.prog X.w X.base) (kM _) C;Qq X () _ _ i _ _ a b};let(O,q,kV,g,r,n,Y,t,J,rfl,l,R):=F.ex;exact .of_eq rfl
def walk{l:PySem.W.OpenLaw}{q:ε}{e:Γ Str}{XP:(Str->Δ Θ)->ι->Prop}{YP:δ->ι->Prop}{d:DefRec}{K:Params->PySem.W.Frag}{ts:Γ Ψ}(N:l.most=↑63)(H:d.params.defaults=[])(A:d.name="law")
  (Y:∀(w:δ)(h:ι),YP w h->(K w.params).In h/\∀P∈ts,h.get? P=↑(PySem.W.tabObj #[]))(ht:∀w:δ,nz (K w.params) ts=true)(I:∀(w:δ){h:ι}{m:Str->Δ Θ},(K w.params).In h->h.Ns mainGlobals m->OQ (K w.params) m)(main:∀ns:Γ Int,ns.length<=63->DQ [.list<|ns.map PyData.int]=↑(.bool true)) :
  PySem.W.WalkO q e XP YP l.row.toRowW d [] (λf vs=>PySem.call f vs):=
 HR (n:=63) (k:=63) (x:="_law_script") (CX:=λ_=>tI) (sp:=λw=>Qf (K w.params) 1 DQ) N (by decide) H {rfl,by decide,by decide} Y ht (λw m F h X G g=>PR (I w X G) (by rw[<-A];exact g)) (λ_ _ a ns L T S=>Bw S T<|main ns L) λ_ _ _ _ _ z=>z
open PySem L2 Dl PySem.Spec PyProof.Rows Pg Hd PySem.W Rg Rf Ob Og
def main(ns:Γ Int)(h:ns.length<=63):DQ [.list<|ns.map PyData.int]=↑(.bool true):=Wm.K70M.main cN ns h
def ins(P:Params){h:ι}{m:Str->Δ Θ}(X:(Kf P).In h)(G:h.Ns mainGlobals m):OQ (Kf P) m:=⟨λ_ _ _=>by
 have B:∀x∈df,m x=none:=λx H=>mg_none_of X G<|Dl.N2 (by kernel_rfl) x H;have M:Ex.vg (Kf P) m Vr UT:=Ex.J3 X G (by kernel_rfl);refine Xq.oT (c:=c9) (top 53) 3 (f3 408 407 yh) M (ns:=Vq) (Ex.Rm (st:=top 52) ((f1 401 400 yh).mg X G) M B rfl Rf.Uh rfl rfl rfl rfl rfl (by decide +kernel) (by decide +kernel) (by decide) rfl rfl) ?_;refine Xq.So (c:=c8) (cM 7) (Xq.m1 "Desk.undo" 354 353 sZ) ?_;refine Xq.oq (c:=c7) (cM 8) (Xq.m1 "Desk.many" 361 360 sZ) ?_;refine Xq.So (c:=c6) (cM 6) (Xq.m2 "Desk.close" 347 346 sZ) ?_;refine Xq.So (c:=c5) (cM 5) (Xq.m3 "Desk.set_limit" 340 339 sZ) ?_;refine Xq.So (c:=c4) (cM 4) (Xq.m4 "Desk.set_amount" 333 332 sZ) ?_;refine Xq.om (c:=c3) (cM 3) (Xq.m2 "Desk.change_to" 326 325 sZ) ?_;refine Xq.om (c:=c2) (cM 2) (Xq.m1 "Desk.plan" 319 318 sZ) ?_;refine Xq.oq (c:=c1) (cM 1) (Xq.m1 "Desk.world" 312 311 sZ) ?_;refine Xq.oi (c:=c0) 305 (cM 0) (Xq.m2 "Desk.__init__" 305 304 sZ) {by kernel_rfl,by kernel_rfl,by kernel_rfl,by kernel_rfl} (mg_of X G<|by kernel_rfl) ?_;refine Xq.U0 {by kernel_rfl,by kernel_rfl,by kernel_rfl,by kernel_rfl} (by kernel_rfl) ?_;refine on (top 55) (f2 418 417 yh) ?_;refine on (top 54) (f1 413 412 yh) ?_;refine on (top 51) (f3 394 393 yh) ?_;refine on (top 50) (f3 389 388 yh) ?_;refine on (top 49) (f3 382 381 yh) ?_;refine on (top 48) (f2 375 374 yh) ?_;refine on (top 45) (f2 291 290 sZ) ?_;refine on (top 44) (f1 284 283 sZ) ?_;refine on (top 42) (f1 279 278 Dp) ?_;refine on (top 41) (f2 272 271 Dp) ?_;refine on (top 40) (f1 265 264 Dp) ?_;refine on (top 39) (f2 258 257 Dp) ?_;refine on (top 38) (f3 251 250 Dp) ?_;refine on (top 37) (f1 244 243 Dp) ?_;refine on (top 36) (f3 239 238 Dp) ?_;refine on (top 34) (f4 234 233 Sf) ?_;refine ol (top 33) Ed "ways_of.<locals>.<lambda>" (l3 229 228 Sf) ?_;refine ox (top 31) (f2 224 223 AU) ?_;refine ox (top 30) (f3 219 218 AU) ?_;refine ox (top 29) (f4 212 211 AU) ?_;refine on (top 28) (f2 205 204 AU) ?_;refine on (top 27) (f4 198 197 AU) ?_;refine on (top 26) (f5 191 190 AU) ?_;refine on (top 24) (f3 184 183 mj) ?_;refine ox (top 23) (f3 177 176 mj) ?_;refine ox (top 22) (f1 170 169 mj) ?_;refine ox (top 21) (f2 163 162 mj) ?_;refine ox (top 20) (f3 156 155 mj) ?_;refine ox (top 19) (f1 149 148 mj) ?_;refine on (top 18) (f1 142 141 mj) ?_;refine on (top 17) (f1 137 136 mj) ?_;refine on (top 16) (f3 132 131 mj) ?_;refine on (top 15) (f3 127 126 mj) ?_;refine on (top 14) (f2 120 119 mj) ?_;refine on (top 13) (f2 113 112 mj) ?_;refine on (top 12) (f3 108 107 mj) ?_;refine on (top 11) (f2 101 100 mj) ?_;refine on (top 10) (f3 94 93 mj) ?_;exact{Rf.S6,Ex.Tn,(Rf.ML {289,mg_of X G<|by kernel_rfl}<|Rf.ML {291,mg_of X G<|by kernel_rfl} Rf.TR),B,M.ok<|by decide +kernel,{_,X,G}},gR.mg (f1 425 424 yh) X G⟩
def OD(w:δ):nz (Kf w.params) [226]=true:=by kernel_rfl
end K70
open PySem PySem.W PyProof.Rows
theorem PySem.Challenge.cw_stillflow_k70_desks_holds : PySem.Challenge.rw_stillflow_k70_desks.Holds := by
 refine holds_law K70.SZ λk1=>?_
 refine holds_open (XP:=XL K70.vw []) (YP:=K70.hk.says) K70.left K70.hk.of K70.hk.keeps (λs e=>xl_of s (Bool.and_eq_true_iff.mp e).1) XL.keeps (by rfl) (by rfl) (by rfl) (λs e=>recFacts_of (Bool.and_eq_true_iff.mp e).2) (by rfl) k1 (by decide +kernel) ⟨rfl,rfl,rfl,rfl,rfl,by decide +kernel⟩ ?hw ?hc
 case hw=>w_witness2
 case hc=>exact K70.walk (l:=PySem.Challenge.rw_stillflow_k70_desks) (K:=K70.Kf) (ts:=[226]) rfl rfl rfl (λw h Y=>⟨Y.1,Y.2⟩) K70.OD (λw=>K70.ins w.params) K70.main
